/- Arrays that came in. -/
import Derived.Test.YtdenlinehjigaaaOpn
namespace Go.Proofs.Ytdenlinehjigaaa
open Go.ChangeShapes Go.WideShapes Go.ChangeAt Go.RowKit Go.Joins

set_option maxRecDepth 20000
section
variable {H : Type} {enc : TypeId × Value → H} {W : World} {base : Nat} {spare : Nat → Bool} {held : Bool}
theorem cells63 : Try.prog.cellsOf 63 = 3 := by kernel_rfl
theorem open_a3 {r : Reach} {b0 : Nat} {v : Value} {d : DataW H} {p : List MemPlace} (hv : Value.okWide Try.prog W r b0 63 v) (h : DataW.Trod enc Try.prog W base spare held 63 v d p) :
    ∃ a b c, v = .agg #[.int .i64 a, .int .i64 b, .int .i64 c] := by
  obtain ⟨cs, rfl, hsz⟩ : ∃ cs, v = .agg cs ∧ cs.size = Try.prog.cellsOf 63 := by
    simp only [Value.okWide, Try.underlying63] at hv
    obtain ⟨cs, h1, h2, _⟩ := hv
    exact ⟨cs, h1, h2⟩
  rw [cells63] at hsz
  obtain ⟨fuel, hf⟩ := h
  obtain ⟨xs, n, _, _, hl, hlen, hg⟩ := DataW.trod_array Try.underlying63 hf
  obtain ⟨l⟩ := cs
  match l, hsz with
  | [c0, c1, c2], _ =>
    have h0 := hg 0 (by omega)
    have h1 := hg 1 (by omega)
    have h2 := hg 2 (by omega)
    simp [Value.cells, cells3] at h0 h1 h2
    obtain ⟨a, rfl⟩ := int_of (by omega) h0
    obtain ⟨b, rfl⟩ := int_of (by omega) h1
    obtain ⟨c, rfl⟩ := int_of (by omega) h2
    exact ⟨a, b, c, rfl⟩
theorem cells72 : Try.prog.cellsOf 72 = 2 := by kernel_rfl
theorem open_a2 {r : Reach} {b0 : Nat} {v : Value} {d : DataW H} {p : List MemPlace} (hv : Value.okWide Try.prog W r b0 72 v) (h : DataW.Trod enc Try.prog W base spare held 72 v d p) :
    ∃ a b, v = .agg #[.int .i64 a, .int .i64 b] := by
  obtain ⟨cs, rfl, hsz⟩ : ∃ cs, v = .agg cs ∧ cs.size = Try.prog.cellsOf 72 := by
    simp only [Value.okWide, Try.underlying72] at hv
    obtain ⟨cs, h1, h2, _⟩ := hv
    exact ⟨cs, h1, h2⟩
  rw [cells72] at hsz
  obtain ⟨fuel, hf⟩ := h
  obtain ⟨xs, n, _, _, hl, hlen, hg⟩ := DataW.trod_array Try.underlying72 hf
  obtain ⟨l⟩ := cs
  match l, hsz with
  | [c0, c1], _ =>
    have h0 := hg 0 (by omega)
    have h1 := hg 1 (by omega)
    simp [Value.cells, cells3] at h0 h1
    obtain ⟨a, rfl⟩ := int_of (by omega) h0
    obtain ⟨b, rfl⟩ := int_of (by omega) h1
    exact ⟨a, b, rfl⟩
end
end Go.Proofs.Ytdenlinehjigaaa
