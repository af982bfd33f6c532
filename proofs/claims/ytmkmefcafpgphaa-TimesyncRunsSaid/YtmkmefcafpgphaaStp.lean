/- The document's step. -/
import Derived.Test.YtmkmefcafpgphaaRun
namespace Go.Proofs.Ytmkmefcafpgphaa
set_option linter.unusedVariables false
open Go.RowKit


def StpR (w w' : World) (zs : List Int) (l : List Sy) (x : Sn) (e : Ending) : Prop :=
  ∃ v : Sy, e = .returned (.tuple #[.agg #[.int .i64 v.o, .int .i64 v.d, .int .i64 v.s, .int .i64 v.c], .int .i64 (stE zs l x)]) ∧ (stE zs l x = 0 → v = coxV (syAt l x.n.toNat) (syAt l (zs.getD x.n.toNat 0).toNat) x) ∧ Fr no w w'
theorem step_box (w : World) (n s : Int) (a : Bool) : ∃ W, W = (w.alloc (.cells #[.int .i64 n, .int .i64 s, .bool a] 49 (0, 0))).alloc (.cells #[.int .i64 0, .int .i64 0, .int .i64 0, .int .i64 0] 25 (0, 0)) ∧ Fr no w W ∧ W.heap[w.heap.size]? = some (.cells #[.int .i64 n, .int .i64 s, .bool a] 49 (0, 0)) ∧ W.heap[w.heap.size + 1]? = some (.cells #[.int .i64 0, .int .i64 0, .int .i64 0, .int .i64 0] 25 (0, 0)) ∧ W.heap.size = w.heap.size + 2 := by
  refine ⟨_, rfl, ((Fr.refl no w).alloc _).alloc _, alloc_keeps (heap_alloc_new w _) _, ?_, by simp⟩
  simpa using heap_alloc_new (w.alloc (.cells #[.int .i64 n, .int .i64 s, .bool a] 49 (0, 0))) (.cells #[.int .i64 0, .int .i64 0, .int .i64 0, .int .i64 0] 25 (0, 0))
set_option maxHeartbeats 4000000 in
theorem stepR_out (a0 : Option Addr) (l0 k0 : Nat) (a1 : Option Addr) (l1 k1 : Nat) (l : List Sy) (zs : List Int) (xn xs : Int) (xa : Bool) (w : World) (hl : l.length = l0) (hx : inR xn 1 ((l0 : Int) - 1) = false) :
    Calls Try.prog 56 #[.slice a0 l0 k0, .slice a1 l1 k1, .agg #[.int .i64 xn, .int .i64 xs, .bool xa]] w (fun e w' => StpR w w' zs l ⟨xn, xs, xa⟩ e) := by
  obtain ⟨W, hW, hF, h1, h2, hs⟩ := step_box w xn xs xa
  have HB0 := Lib.hid h2
  have HA0 := Lib.hid h1
  obtain ⟨c0, c1, c2, -, -, -⟩ := three_cells h1
  have HW := Lib.hid hW
  have HF0 := Lib.hid hF
  have HSZ := Lib.hid hs
  clear hW hF h1 h2 hs
  have HR := Lib.hid (show stE zs l ⟨xn, xs, xa⟩ = 7 by simp [stE, hl, hx])
  by_cases g1 : xn < 1
  · go_enter Try.func56, Try.ntmps56
    go_wp2_with fail
    rw [← HW.out]
    go_wp2_with fail
    obtain ⟨y0, y1, y2, y3, -⟩ := four_cells HB0.out
    refine bodyPost_ret (v := .tuple #[.agg #[.int .i64 (0), .int .i64 (0), .int .i64 (0), .int .i64 (0)], .int .i64 (7)]) (by simp [results, Try.results56, go_sem, y0, y1, y2, y3]) rfl ?_
    exact ⟨⟨0, 0, 0, 0⟩, by rw [HR.out], fun h => by rw [HR.out] at h; exact absurd h (by decide), HF0.out⟩
  · have g2 : (l0 : Int) ≤ xn := by
      apply Classical.byContradiction
      intro h
      rw [inR_t.2 ⟨by omega, by omega⟩] at hx
      cases hx
    go_enter Try.func56, Try.ntmps56
    go_wp2_with fail
    rw [← HW.out]
    go_wp2_with fail
    obtain ⟨y0, y1, y2, y3, -⟩ := four_cells HB0.out
    refine bodyPost_ret (v := .tuple #[.agg #[.int .i64 (0), .int .i64 (0), .int .i64 (0), .int .i64 (0)], .int .i64 (7)]) (by simp [results, Try.results56, go_sem, y0, y1, y2, y3]) rfl ?_
    exact ⟨⟨0, 0, 0, 0⟩, by rw [HR.out], fun h => by rw [HR.out] at h; exact absurd h (by decide), HF0.out⟩

end Go.Proofs.Ytmkmefcafpgphaa
