/- Arguments that came in: a clock; two numbers. -/
import Derived.Test.YtmkmefcafpgphaaBase
import Derived.Test.YtmkmefcafpgphaaRows
import Derived.ProofKit
import Derived.OpenShut
import Derived.Deep.Slices
import Derived.Lib.SmallJoins
namespace Go.Proofs.Ytmkmefcafpgphaa
open Go.ChangeShapes Go.WideShapes Go.ChangeAt Go.RowKit Go.Joins

theorem laid_out : laidOutB Try.prog = true := by kernel_rfl
theorem wf_bd {n : Int} (h : (Lit.int .i64 n).wf = true) : -9223372036854775808 ≤ n ∧ n ≤ 9223372036854775807 := by
  simp [Lit.wf, IntKind.min, IntKind.max, IntKind.signed, IntKind.bits] at h
  omega
section
variable {H : Type} {enc : TypeId × Value → H} {W : World} {base : Nat} {spare : Nat → Bool} {held : Bool}
theorem cells3 : Try.prog.cellsOf 3 = 1 := by kernel_rfl
theorem cells23 : Try.prog.cellsOf 23 = 2 := by kernel_rfl
theorem int_of {fuel : Nat} {c : Value} {l : List (DataW H × List MemPlace)} {i : Nat} (hi : i < l.length) (h : DataW.trod enc Try.prog W base spare held fuel 3 [c] = l[i]?) : ∃ n, c = .int .i64 n ∧ (Lit.int .i64 n).wf = true := by
  rw [List.getElem?_eq_getElem hi] at h
  obtain ⟨n, hn, _, hw⟩ := DataW.trod_int Try.underlying3 h
  exact ⟨n, by simpa using hn, hw⟩
theorem open_clock {r : Reach} {b0 : Nat} {v : Value} {d : DataW H} {p : List MemPlace} (hv : Value.okWide Try.prog W r b0 23 v) (h : DataW.Trod enc Try.prog W base spare held 23 v d p) : ∃ a b, v = .agg #[.int .i64 a, .int .i64 b] := by
  obtain ⟨cs, rfl, hsz⟩ := okWide_struct Try.underlying23 hv
  obtain ⟨fuel, hf⟩ := h
  obtain ⟨xs, n, _, _, hl, hlen, hg⟩ := DataW.trod_struct Try.underlying23 hf
  rw [cells23] at hsz
  have hlen' : xs.length = 2 := hlen
  obtain ⟨l⟩ := cs
  match l, hsz with
  | [c0, c1], _ =>
    have h0 := hg 0 _ rfl
    have h1 := hg 1 _ rfl
    simp [Value.cells, cells3] at h0 h1
    obtain ⟨a, rfl, -⟩ := int_of (by omega) h0
    obtain ⟨b, rfl, -⟩ := int_of (by omega) h1
    exact ⟨a, b, rfl⟩
theorem cells25 : Try.prog.cellsOf 25 = 4 := by kernel_rfl
theorem ck_trod {fuel : Nat} {cs : List Value} {x : DataW H × List MemPlace} (h : DataW.trod enc Try.prog W base spare held fuel 23 cs = some x) : ∃ a b, cs = [.int .i64 a, .int .i64 b] := by
  obtain ⟨xs, n, _, _, hl, hlen, hf⟩ := DataW.trod_struct Try.underlying23 h
  rw [cells23] at hl
  match cs, hl with
  | [c0, c1], _ =>
    have h0 := hf 0 _ rfl
    have h1 := hf 1 _ rfl
    simp [cells3] at h0 h1
    have hlen' : xs.length = 2 := hlen
    obtain ⟨a, rfl, -⟩ := int_of (by omega) h0
    obtain ⟨b, rfl, -⟩ := int_of (by omega) h1
    exact ⟨a, b, rfl⟩
theorem ck_at {fuel : Nat} {cs : List Value} {l : List (DataW H × List MemPlace)} {i : Nat} (hi : i < l.length) (h : DataW.trod enc Try.prog W base spare held fuel 23 cs = l[i]?) : ∃ a b, cs = [.int .i64 a, .int .i64 b] := by
  rw [List.getElem?_eq_getElem hi] at h
  exact ck_trod h
theorem sy_trod {fuel : Nat} {cs : List Value} {x : DataW H × List MemPlace} (h : DataW.trod enc Try.prog W base spare held fuel 25 cs = some x) : ∃ a b c d, cs = [.int .i64 a, .int .i64 b, .int .i64 c, .int .i64 d] ∧ (Lit.int .i64 c).wf = true ∧ (Lit.int .i64 d).wf = true := by
  obtain ⟨xs, n, _, _, hl, hlen, hf⟩ := DataW.trod_struct Try.underlying25 h
  rw [cells25] at hl
  match cs, hl with
  | [c0, c1, c2, c3], _ =>
    have h0 := hf 0 _ rfl
    have h1 := hf 1 _ rfl
    have h2 := hf 2 _ rfl
    simp [cells3, cells23] at h0 h1 h2
    have hlen' : xs.length = 3 := hlen
    obtain ⟨a, b, e0⟩ := ck_at (by omega) h0
    obtain ⟨c, rfl, wc⟩ := int_of (by omega) h1
    obtain ⟨d, rfl, wd⟩ := int_of (by omega) h2
    simp at e0
    obtain ⟨rfl, rfl⟩ := e0
    exact ⟨a, b, c, d, rfl, wc, wd⟩
theorem open_sync {r : Reach} {b0 : Nat} {v : Value} {d : DataW H} {p : List MemPlace} (hv : Value.okWide Try.prog W r b0 25 v) (h : DataW.Trod enc Try.prog W base spare held 25 v d p) : ∃ a b c e, v = .agg #[.int .i64 a, .int .i64 b, .int .i64 c, .int .i64 e] := by
  obtain ⟨cs, rfl, hsz⟩ := okWide_struct Try.underlying25 hv
  obtain ⟨fuel, hf⟩ := h
  obtain ⟨l⟩ := cs
  obtain ⟨a, b, c, e, he, -⟩ := sy_trod hf
  simp [Value.cells] at he
  subst he
  exact ⟨a, b, c, e, rfl⟩
theorem cells26 : Try.prog.cellsOf 26 = 3 := by kernel_rfl
theorem open_three {r : Reach} {b0 : Nat} {v : Value} {d : DataW H} {p : List MemPlace} (hv : Value.okWide Try.prog W r b0 26 v) (h : DataW.Trod enc Try.prog W base spare held 26 v d p) :
    ∃ a b c, v = .agg #[.int .i64 a, .int .i64 b, .int .i64 c] ∧ (Lit.int .i64 a).wf = true := by
  obtain ⟨cs, rfl, hsz, _⟩ : ∃ cs, v = .agg cs ∧ cs.size = Try.prog.cellsOf 26 ∧ Row.okWide Try.prog W r b0 26 cs := by
    simpa [Value.okWide, Try.underlying26] using hv
  rw [cells26] at hsz
  obtain ⟨fuel, hf⟩ := h
  obtain ⟨xs, n, _, _, hl, hlen, hg⟩ := DataW.trod_array Try.underlying26 hf
  obtain ⟨l⟩ := cs
  match l, hsz with
  | [c0, c1, c2], _ =>
    have h0 := hg 0 (by decide)
    have h1 := hg 1 (by decide)
    have h2 := hg 2 (by decide)
    simp [Value.cells, cells3] at h0 h1 h2
    obtain ⟨a, rfl, wa⟩ := int_of (by omega) h0
    obtain ⟨b, rfl, -⟩ := int_of (by omega) h1
    obtain ⟨c, rfl, -⟩ := int_of (by omega) h2
    exact ⟨a, b, c, rfl, wa⟩
end
theorem fin {a : Nat} {args : Array Value} {w : World} (h : Calls Try.prog a args w fun e w' => e = .returned (.bool true) ∧ Fr no w w') : Calls Try.prog a args w fun e w' => e = .returned (.bool true) ∧ Below w.heap.size w w' :=
  h.mono fun _ _ h => ⟨h.1, h.2.belowNone (Nat.le_refl _)⟩
end Go.Proofs.Ytmkmefcafpgphaa
