/- Arguments that came in: a frame. -/
import Derived.Test.YtelpdihaonoedaaWri
import Derived.Test.YtelpdihaonoedaaRows
import Derived.ProofKit
import Derived.OpenShut
import Derived.Deep.Slices
import Derived.Lib.SmallJoins
namespace Go.Proofs.Ytelpdihaonoedaa
open Go.ChangeShapes Go.WideShapes Go.ChangeAt Go.RowKit Go.Joins
set_option maxRecDepth 100000

theorem laid_out : laidOutB Try.prog = true := by kernel_rfl
theorem wf_bd {n : Int} (h : (Lit.int .i64 n).wf = true) : i64B n := by
  simp [Lit.wf, IntKind.min, IntKind.max, IntKind.signed, IntKind.bits] at h
  unfold i64B
  omega
theorem fin {f : FuncId} {args : Array Value} {w : World} {v : Value} (h : Calls Try.prog f args w fun e w' => e = .returned v ∧ Fr no w w') : Calls Try.prog f args w fun e w' => e = .returned v ∧ Below w.heap.size w w' :=
  h.mono fun _ _ ⟨he, hf⟩ => ⟨he, hf.belowNone (Nat.le_refl _)⟩
section
variable {H : Type} {enc : TypeId × Value → H} {W : World} {base : Nat} {spare : Nat → Bool} {held : Bool}
theorem cells3 : Try.prog.cellsOf 3 = 1 := by kernel_rfl
theorem cells9 : Try.prog.cellsOf 9 = 1 := by kernel_rfl
theorem cells23 : Try.prog.cellsOf 23 = 12 := by kernel_rfl
theorem int_of {fuel : Nat} {c : Value} {l : List (DataW H × List MemPlace)} {i : Nat} (hi : i < l.length) (h : DataW.trod enc Try.prog W base spare held fuel 3 [c] = l[i]?) : ∃ n, c = .int .i64 n ∧ (Lit.int .i64 n).wf = true := by
  rw [List.getElem?_eq_getElem hi] at h
  obtain ⟨n, hn, _, hw⟩ := DataW.trod_int Try.underlying3 h
  exact ⟨n, by simpa using hn, hw⟩
theorem str_of {fuel : Nat} {c : Value} {l : List (DataW H × List MemPlace)} {i : Nat} (hi : i < l.length) (h : DataW.trod enc Try.prog W base spare held fuel 9 [c] = l[i]?) : ∃ s, c = .string s ∧ s.size ≤ maxLen := by
  rw [List.getElem?_eq_getElem hi] at h
  obtain ⟨s, hs, _, hw⟩ := DataW.trod_string Try.underlying9 h
  exact ⟨s, by simpa using hs, hw⟩
theorem open_frame {r : Reach} {b0 : Nat} {v : Value} {d : DataW H} {p : List MemPlace} (hv : Value.okWide Try.prog W r b0 23 v) (h : DataW.Trod enc Try.prog W base spare held 23 v d p) : ∃ x : Frm, v = .agg (frA x) ∧ (∀ i, i ≤ 10 → i64B (getI x i)) ∧ x.d.size ≤ 9223372036854775807 := by
  obtain ⟨cs, rfl, hsz⟩ := okWide_struct Try.underlying23 hv
  obtain ⟨fuel, hf⟩ := h
  obtain ⟨xs, n, _, _, hl, hlen, hg⟩ := DataW.trod_struct Try.underlying23 hf
  rw [cells23] at hsz
  have hlen' : xs.length = 12 := hlen
  obtain ⟨l⟩ := cs
  match l, hsz with
  | [c0, c1, c2, c3, c4, c5, c6, c7, c8, c9, c10, c11], _ =>
    have h0 := hg 0 _ rfl
    have h1 := hg 1 _ rfl
    have h2 := hg 2 _ rfl
    have h3 := hg 3 _ rfl
    have h4 := hg 4 _ rfl
    have h5 := hg 5 _ rfl
    have h6 := hg 6 _ rfl
    have h7 := hg 7 _ rfl
    have h8 := hg 8 _ rfl
    have h9 := hg 9 _ rfl
    have h10 := hg 10 _ rfl
    have h11 := hg 11 _ rfl
    simp [Value.cells, cells3, cells9] at h0 h1 h2 h3 h4 h5 h6 h7 h8 h9 h10 h11
    obtain ⟨k, rfl, e0⟩ := int_of (by omega) h0
    obtain ⟨s, rfl, e1⟩ := int_of (by omega) h1
    obtain ⟨t, rfl, e2⟩ := int_of (by omega) h2
    obtain ⟨l, rfl, e3⟩ := int_of (by omega) h3
    obtain ⟨q, rfl, e4⟩ := int_of (by omega) h4
    obtain ⟨f, rfl, e5⟩ := int_of (by omega) h5
    obtain ⟨m, rfl, e6⟩ := int_of (by omega) h6
    obtain ⟨e, rfl, e7⟩ := int_of (by omega) h7
    obtain ⟨sl, rfl, e8⟩ := int_of (by omega) h8
    obtain ⟨r, rfl, e9⟩ := int_of (by omega) h9
    obtain ⟨ep, rfl, e10⟩ := int_of (by omega) h10
    obtain ⟨d, rfl, e11⟩ := str_of (by omega) h11
    refine ⟨⟨k, s, t, l, q, f, m, e, sl, r, ep, d⟩, rfl, fun i hi => ?_, ?_⟩
    · rcases (show i = 0 ∨ i = 1 ∨ i = 2 ∨ i = 3 ∨ i = 4 ∨ i = 5 ∨ i = 6 ∨ i = 7 ∨ i = 8 ∨ i = 9 ∨ i = 10 by omega) with rfl | rfl | rfl | rfl | rfl | rfl | rfl | rfl | rfl | rfl | rfl
      all_goals exact wf_bd (by assumption)
    · unfold maxLen at e11
      simp only
      omega
end
end Go.Proofs.Ytelpdihaonoedaa
