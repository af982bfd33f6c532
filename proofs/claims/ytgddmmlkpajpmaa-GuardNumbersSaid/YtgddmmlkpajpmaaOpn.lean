/- Arguments that came in: a clock; two numbers. -/
import Derived.Test.YtgddmmlkpajpmaaBase
import Derived.Test.YtgddmmlkpajpmaaRows
import Derived.ProofKit
import Derived.OpenShut
import Derived.Deep.Slices
import Derived.Lib.SmallJoins
namespace Go.Proofs.Ytgddmmlkpajpmaa
open Go.ChangeShapes Go.WideShapes Go.ChangeAt Go.RowKit Go.Joins

theorem laid_out : laidOutB Try.prog = true := by kernel_rfl
theorem wf_bd {n : Int} (h : (Lit.int .i64 n).wf = true) : -9223372036854775808 ≤ n ∧ n ≤ 9223372036854775807 := by
  simp [Lit.wf, IntKind.min, IntKind.max, IntKind.signed, IntKind.bits] at h
  omega
section
variable {H : Type} {enc : TypeId × Value → H} {W : World} {base : Nat} {spare : Nat → Bool} {held : Bool}
theorem cells3 : Try.prog.cellsOf 3 = 1 := by kernel_rfl
theorem cells23 : Try.prog.cellsOf 31 = 2 := by kernel_rfl
theorem int_of {fuel : Nat} {c : Value} {l : List (DataW H × List MemPlace)} {i : Nat} (hi : i < l.length) (h : DataW.trod enc Try.prog W base spare held fuel 3 [c] = l[i]?) : ∃ n, c = .int .i64 n ∧ (Lit.int .i64 n).wf = true := by
  rw [List.getElem?_eq_getElem hi] at h
  obtain ⟨n, hn, _, hw⟩ := DataW.trod_int Try.underlying3 h
  exact ⟨n, by simpa using hn, hw⟩
theorem open_clock {r : Reach} {b0 : Nat} {v : Value} {d : DataW H} {p : List MemPlace} (hv : Value.okWide Try.prog W r b0 31 v) (h : DataW.Trod enc Try.prog W base spare held 31 v d p) : ∃ a b, v = .agg #[.int .i64 a, .int .i64 b] := by
  obtain ⟨cs, rfl, hsz⟩ := okWide_struct Try.underlying31 hv
  obtain ⟨fuel, hf⟩ := h
  obtain ⟨xs, n, _, _, hl, hlen, hg⟩ := DataW.trod_struct Try.underlying31 hf
  rw [cells23] at hsz
  have hlen' : xs.length = 2 := hlen
  obtain ⟨l⟩ := cs
  match l, hsz with
  | [c0, c1], _ =>
    have h0 := hg 0 _ rfl
    have h1 := hg 1 _ rfl
    simp [Value.cells, cells3] at h0 h1
    obtain ⟨a, rfl, -⟩ := int_of (by omega) h0
    obtain ⟨b, rfl, -⟩ := int_of (by omega) h1
    exact ⟨a, b, rfl⟩
theorem cells22 : Try.prog.cellsOf 22 = 3 := by kernel_rfl
theorem open_three {r : Reach} {b0 : Nat} {v : Value} {d : DataW H} {p : List MemPlace} (hv : Value.okWide Try.prog W r b0 22 v) (h : DataW.Trod enc Try.prog W base spare held 22 v d p) :
    ∃ a b c, v = .agg #[.int .i64 a, .int .i64 b, .int .i64 c] ∧ (Lit.int .i64 a).wf = true := by
  obtain ⟨cs, rfl, hsz, _⟩ : ∃ cs, v = .agg cs ∧ cs.size = Try.prog.cellsOf 22 ∧ Row.okWide Try.prog W r b0 22 cs := by
    simpa [Value.okWide, Try.underlying22] using hv
  rw [cells22] at hsz
  obtain ⟨fuel, hf⟩ := h
  obtain ⟨xs, n, _, _, hl, hlen, hg⟩ := DataW.trod_array Try.underlying22 hf
  obtain ⟨l⟩ := cs
  match l, hsz with
  | [c0, c1, c2], _ =>
    have h0 := hg 0 (by decide)
    have h1 := hg 1 (by decide)
    have h2 := hg 2 (by decide)
    simp [Value.cells, cells3] at h0 h1 h2
    obtain ⟨a, rfl, wa⟩ := int_of (by omega) h0
    obtain ⟨b, rfl, -⟩ := int_of (by omega) h1
    obtain ⟨c, rfl, -⟩ := int_of (by omega) h2
    exact ⟨a, b, c, rfl, wa⟩
theorem cells44 : Try.prog.cellsOf 44 = 4 := by kernel_rfl
theorem open_four {r : Reach} {b0 : Nat} {v : Value} {d : DataW H} {p : List MemPlace} (hv : Value.okWide Try.prog W r b0 44 v) (h : DataW.Trod enc Try.prog W base spare held 44 v d p) :
    ∃ a b c d, v = .agg #[.int .i64 a, .int .i64 b, .int .i64 c, .int .i64 d] ∧ (Lit.int .i64 a).wf = true := by
  obtain ⟨cs, rfl, hsz, _⟩ : ∃ cs, v = .agg cs ∧ cs.size = Try.prog.cellsOf 44 ∧ Row.okWide Try.prog W r b0 44 cs := by
    simpa [Value.okWide, Try.underlying44] using hv
  rw [cells44] at hsz
  obtain ⟨fuel, hf⟩ := h
  obtain ⟨xs, n, _, _, hl, hlen, hg⟩ := DataW.trod_array Try.underlying44 hf
  obtain ⟨l⟩ := cs
  match l, hsz with
  | [c0, c1, c2, c3], _ =>
    have h0 := hg 0 (by decide)
    have h1 := hg 1 (by decide)
    have h2 := hg 2 (by decide)
    have h3 := hg 3 (by decide)
    simp [Value.cells, cells3] at h0 h1 h2 h3
    obtain ⟨a, rfl, wa⟩ := int_of (by omega) h0
    obtain ⟨b, rfl, -⟩ := int_of (by omega) h1
    obtain ⟨c, rfl, -⟩ := int_of (by omega) h2
    obtain ⟨d, rfl, -⟩ := int_of (by omega) h3
    exact ⟨a, b, c, d, rfl, wa⟩
end
theorem fin {a : Nat} {args : Array Value} {w : World} (h : Calls Try.prog a args w fun e w' => e = .returned (.bool true) ∧ Fr no w w') : Calls Try.prog a args w fun e w' => e = .returned (.bool true) ∧ Below w.heap.size w w' :=
  h.mono fun _ _ h => ⟨h.1, h.2.belowNone (Nat.le_refl _)⟩
end Go.Proofs.Ytgddmmlkpajpmaa
