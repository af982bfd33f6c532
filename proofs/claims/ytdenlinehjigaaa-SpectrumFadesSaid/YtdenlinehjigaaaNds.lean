/- Nodes, by the document. -/
import Derived.Test.YtdenlinehjigaaaFcR
namespace Go.Proofs.Ytdenlinehjigaaa
open Go.RowKit
set_option linter.unusedVariables false

set_option maxHeartbeats 8000000 in
theorem nodesR_any (n0 : Option Addr) (m0 h0 : Nat) (n1 : Option Addr) (m1 h1 : Nat) (n2 : Option Addr) (m2 h2 : Nat) (e o th : Int) (ps : List Pt) (zs : List Int) (ws : List Wl) (a0 : Option Addr) (l0 k0 : Nat) (a1 : Option Addr) (l1 k1 : Nat) (ss : List Src) (fs : List Fd) (a b : Int) (w : World) (hst : StIn w n0 m0 n1 m1 n2 m2 ps zs ws) (hsp : SpIn w a0 l0 a1 l1 ss fs) :
    Calls Try.prog 100 #[.agg #[.slice n0 m0 h0, .slice n1 m1 h1, .slice n2 m2 h2, .int .i64 e, .int .i64 o, .int .i64 th], .agg #[.slice a0 l0 k0, .slice a1 l1 k1], .int .i64 a, .int .i64 b] w fun e' w' => e' = .returned (.int .i64 (unE (ckS l0 l1 ss fs) (ckB m0 m1 m2 e o th ps zs ws) m0 a b)) ∧ Fr no w w' := by
  have hB := box2 w (.cells #[.slice n0 m0 h0, .slice n1 m1 h1, .slice n2 m2 h2, .int .i64 e, .int .i64 o, .int .i64 th] 26 (0, 0)) (.cells #[.slice a0 l0 k0, .slice a1 l1 k1] 47 (0, 0))
  obtain ⟨W, hW⟩ : ∃ W, W = (w.alloc (.cells #[.slice n0 m0 h0, .slice n1 m1 h1, .slice n2 m2 h2, .int .i64 e, .int .i64 o, .int .i64 th] 26 (0, 0))).alloc (.cells #[.slice a0 l0 k0, .slice a1 l1 k1] 47 (0, 0)) := ⟨_, rfl⟩
  rw [← hW] at hB
  have HST := Lib.hid (hst.kept hB.f)
  have HSP := Lib.hid (hsp.kept hB.f)
  obtain ⟨c0, c1⟩ := two_cells hB.x
  obtain ⟨d0, d1, d2, d3, d4, d5⟩ := six_cellsS hB.s
  have HB := Lib.hid hB
  have HW := Lib.hid hW
  have HC := checkR_any n0 m0 h0 n1 m1 h1 n2 m2 h2 e o th ps zs ws W HST.out.p HST.out.z HST.out.v
  have HD := Lib.hid (fun w h => checkT_any a0 l0 k0 a1 l1 k1 ss fs w (SpIn.s h) (SpIn.f h) (SpIn.c h))
  have HE := Lib.hid (show unE (ckS l0 l1 ss fs) (ckB m0 m1 m2 e o th ps zs ws) m0 a b = if (ckS l0 l1 ss fs) then (if (ckB m0 m1 m2 e o th ps zs ws) then (if hnB m0 a && hnB m0 b then 0 else 7) else 1) else 1 by
    unfold unE bwE bwB
    cases (ckS l0 l1 ss fs) <;> cases (ckB m0 m1 m2 e o th ps zs ws) <;> simp)
  have HQ := Lib.hid (show (hnB m0 a && hnB m0 b) = (inR a 0 ((m0 : Int) - 1) && inR b 0 ((m0 : Int) - 1)) from rfl)
  have HM := Lib.hid (fun h : (ckB m0 m1 m2 e o th ps zs ws) = true => (ckB_t h).n1)
  clear hst hsp hB hW
  generalize ckB m0 m1 m2 e o th ps zs ws = CB at *
  generalize ckS l0 l1 ss fs = CS at *
  cases CB
  · have HC := Lib.hid HC
    have HR := Lib.hid (show unE CS false m0 a b = 1 by rw [HE.out]; cases CS <;> rfl)
    go_enter Try.func100, Try.ntmps100
    go_wp2_with fail
    rw [← HW.out]
    refine HC.out.mono ?_
    rintro e w1 ⟨rfl, f1⟩
    have HF1 := Lib.hid (HB.out.f.noTrans f1)
    clear f1
    go_wp2_with fail
    go_ret
    rw [HR.out]
    exact ⟨rfl, HF1.out⟩
  · have HC := Lib.hid HC
    have hmI : (m0 : Int) ≤ 32 := by have := HM.out rfl; omega
    go_enter Try.func100, Try.ntmps100
    go_wp2_with fail
    rw [← HW.out]
    refine HC.out.mono ?_
    rintro e w1 ⟨rfl, f1⟩
    have HB1 := Lib.hid (HB.out.kept f1)
    have HK := HD.out w1 (HSP.out.kept f1)
    obtain ⟨x0, x1⟩ := two_cells HB1.out.x
    clear f1 c0 c1 d0 d1 d2 d3 d4 d5
    cases CS
    · have HK := Lib.hid HK
      have HR := Lib.hid (show unE false true m0 a b = 1 by rw [HE.out]; rfl)
      go_wp2_with fail
      refine HK.out.mono ?_
      rintro e w2 ⟨rfl, f2⟩
      have HF2 := Lib.hid (HB1.out.f.noTrans f2)
      clear f2
      go_wp2_with fail
      go_ret
      rw [HR.out]
      exact ⟨rfl, HF2.out⟩
    · have HK := Lib.hid HK
      go_wp2_with fail
      refine HK.out.mono ?_
      rintro e w2 ⟨rfl, f2⟩
      have HF2 := Lib.hid (HB1.out.f.noTrans f2)
      obtain ⟨d0, d1, d2, d3, d4, d5⟩ := six_cellsS (HB1.out.kept f2).s
      clear f2 x0 x1
      go_wp2_with fail
      all_goals go_ret
      all_goals rw [HE.out, HQ.out]
      all_goals refine ⟨congrArg Ending.returned (congrArg (Value.int .i64) ?_), HF2.out⟩
      all_goals simp only [inR, Bool.and_eq_true, decide_eq_true_eq, if_true]
      all_goals (repeat' split)
      all_goals first | rfl | omega
end Go.Proofs.Ytdenlinehjigaaa
