/- SpectrumSignals. -/
import Derived.Test.YtdenlinehjigaaaLwS
import Derived.Test.YtdenlinehjigaaaSgR
import Derived.Test.YtdenlinehjigaaaWoR
import Derived.Test.YtdenlinehjigaaaFRR
import Derived.Test.YtdenlinehjigaaaSig
import Derived.Test.YtdenlinehjigaaaWor
namespace Go.Proofs.Ytdenlinehjigaaa
open Go.RowKit
set_option linter.unusedVariables false

set_option maxHeartbeats 4000000 in
theorem fewG_any (n0 : Option Addr) (m0 h0 : Nat) (n1 : Option Addr) (m1 h1 : Nat) (n2 : Option Addr) (m2 h2 : Nat) (e o th : Int) (w : World) :
    Calls Try.prog 18 #[.agg #[.slice n0 m0 h0, .slice n1 m1 h1, .slice n2 m2 h2, .int .i64 e, .int .i64 o, .int .i64 th]] w fun e' w' => e' = .returned (.bool (decide (m0 ≤ 40 ∧ m1 ≤ 40 ∧ m2 ≤ 40))) ∧ Fr no w w' := by
  have HX := Lib.hid (Fr.refl no w)
  go_enter Try.func18, Try.ntmps18
  go_wp2_with fail
  all_goals
    go_ret
    refine ⟨congrArg Ending.returned (congrArg Value.bool ?_), HX.out.alloc _⟩
    rw [Bool.eq_iff_iff]
    simp only [decide_eq_true_eq, Bool.false_eq_true, false_iff, Bool.and_eq_true]
    omega
set_option maxHeartbeats 8000000 in
theorem signals_law (n0 : Option Addr) (m0 h0 : Nat) (n1 : Option Addr) (m1 h1 : Nat) (n2 : Option Addr) (m2 h2 : Nat) (e o th : Int) (ps : List Pt) (zs : List Int) (ws : List Wl) (a0 : Option Addr) (l0 k0 : Nat) (a1 : Option Addr) (l1 k1 : Nat) (ss : List Src) (fs : List Fd) (qa qb qc qf qt : Int) (w : World) (hst : StIn w n0 m0 n1 m1 n2 m2 ps zs ws) (hs : SrcsIn w a0 l0 ss) (hf : FdsIn w a1 l1 fs) :
    Calls Try.prog 5 #[.agg #[.slice n0 m0 h0, .slice n1 m1 h1, .slice n2 m2 h2, .int .i64 e, .int .i64 o, .int .i64 th], .agg #[.slice a0 l0 k0, .slice a1 l1 k1], .agg #[.int .i64 qa, .int .i64 qb, .int .i64 qc, .int .i64 qf, .int .i64 qt]] w fun e' w' => e' = .returned (.bool true) ∧ Fr no w w' := by
  have hB := box3 w (.cells #[.slice n0 m0 h0, .slice n1 m1 h1, .slice n2 m2 h2, .int .i64 e, .int .i64 o, .int .i64 th] 26 (0, 0)) (.cells #[.slice a0 l0 k0, .slice a1 l1 k1] 47 (0, 0)) (.cells #[.int .i64 qa, .int .i64 qb, .int .i64 qc, .int .i64 qf, .int .i64 qt] 51 (0, 0))
  obtain ⟨W, hW⟩ : ∃ W, W = ((w.alloc (.cells #[.slice n0 m0 h0, .slice n1 m1 h1, .slice n2 m2 h2, .int .i64 e, .int .i64 o, .int .i64 th] 26 (0, 0))).alloc (.cells #[.slice a0 l0 k0, .slice a1 l1 k1] 47 (0, 0))).alloc (.cells #[.int .i64 qa, .int .i64 qb, .int .i64 qc, .int .i64 qf, .int .i64 qt] 51 (0, 0)) := ⟨_, rfl⟩
  rw [← hW] at hB
  have HB := Lib.hid hB
  have HW := Lib.hid hW
  have HST := Lib.hid (hst.kept hB.f)
  have HS := Lib.hid (hs.kept hB.f)
  have HFD := Lib.hid (hf.kept hB.f)
  clear hB hW hs hf hst
  go_enter Try.func5, Try.ntmps5
  go_wp2_with fail
  rw [← HW.out]
  refine (awake6_any W).mono ?_
  rintro e w1 ⟨rfl, f1⟩
  have HB1 := Lib.hid (HB.out.kept f1)
  have HST1 := Lib.hid (HST.out.kept f1)
  have HS1 := Lib.hid (HS.out.kept f1)
  have HFD1 := Lib.hid (HFD.out.kept f1)
  obtain ⟨s0, s1, s2, s3, s4, s5⟩ := six_cellsS HB1.out.a
  clear f1
  go_wp2_with fail
  refine (fewG_any n0 m0 h0 n1 m1 h1 n2 m2 h2 e o th w1).mono ?_
  rintro e w2 ⟨rfl, f2⟩
  have HB2 := Lib.hid (HB1.out.kept f2)
  have HST2 := Lib.hid (HST1.out.kept f2)
  have HS2 := Lib.hid (HS1.out.kept f2)
  have HFD2 := Lib.hid (HFD1.out.kept f2)
  obtain ⟨x0, x1⟩ := two_cells HB2.out.b
  clear f2 s0 s1 s2 s3 s4 s5
  by_cases hg : m0 ≤ 40 ∧ m1 ≤ 40 ∧ m2 ≤ 40
  case neg =>
    have hgd : decide (m0 ≤ 40 ∧ m1 ≤ 40 ∧ m2 ≤ 40) = false := decide_eq_false hg
    clear hg
    rw [hgd]
    go_wp2_with fail
    go_ret
    exact ⟨rfl, HB2.out.f⟩
  have hgd : decide (m0 ≤ 40 ∧ m1 ≤ 40 ∧ m2 ≤ 40) = true := decide_eq_true hg
  clear hg
  rw [hgd]
  clear hgd
  go_wp2_with fail
  refine (fewS_any a0 l0 k0 a1 l1 k1 ss w2 HS2.out).mono ?_
  rintro e w3 ⟨rfl, f3⟩
  have HB3 := Lib.hid (HB2.out.kept f3)
  have HST3 := Lib.hid (HST2.out.kept f3)
  have HS3 := Lib.hid (HS2.out.kept f3)
  have HFD3 := Lib.hid (HFD2.out.kept f3)
  clear f3 x0 x1
  cases hfew : fewB l0 l1 ss
  case false =>
    clear hfew
    go_wp2_with fail
    go_ret
    exact ⟨rfl, HB3.out.f⟩
  have HSP3 := Lib.hid (show SpIn w3 a0 l0 a1 l1 ss fs from ⟨HS3.out, HFD3.out, fun i hi => by have := (fewB_t HS3.out.1 hfew).2.2 i hi; omega⟩)
  clear hfew
  have K1 := Lib.hid (fun w h => factor_any a0 l0 k0 a1 l1 k1 ss fs qa qb qc qf w h)
  have K2 := Lib.hid (fun w h => factorRR_any a0 l0 k0 a1 l1 k1 ss fs qa qb qc qf w h)
  have K3 := Lib.hid (fun w h1_ h2_ => signal_any n0 m0 h0 n1 m1 h1 n2 m2 h2 e o th ps zs ws a0 l0 k0 a1 l1 k1 ss fs qa qb qc qf w h1_ h2_)
  have K4 := Lib.hid (fun w h1_ h2_ => signalR_any n0 m0 h0 n1 m1 h1 n2 m2 h2 e o th ps zs ws a0 l0 k0 a1 l1 k1 ss fs qa qb qc qf w h1_ h2_)
  have K5 := Lib.hid (fun w h1_ h2_ => worst_any n0 m0 h0 n1 m1 h1 n2 m2 h2 e o th ps zs ws a0 l0 k0 a1 l1 k1 ss fs qa qb w h1_ h2_)
  have K6 := Lib.hid (fun w h1_ h2_ => worstR_any n0 m0 h0 n1 m1 h1 n2 m2 h2 e o th ps zs ws a0 l0 k0 a1 l1 k1 ss fs qa qb w h1_ h2_)
  generalize fcV (ckS l0 l1 ss fs) qa qb qc qf fs = v1 at *
  generalize fcE (ckS l0 l1 ss fs) qa qb qc qf = r1 at *
  generalize sgV (ckS l0 l1 ss fs) (ckB m0 m1 m2 e o th ps zs ws) m0 e ps zs ws qa qb qc qf fs = v2 at *
  generalize sgE (ckS l0 l1 ss fs) (ckB m0 m1 m2 e o th ps zs ws) m0 qa qb qc qf = r2 at *
  generalize wsV (ckS l0 l1 ss fs) (ckB m0 m1 m2 e o th ps zs ws) m0 e ps zs ws qa qb fs = v3 at *
  generalize unE (ckS l0 l1 ss fs) (ckB m0 m1 m2 e o th ps zs ws) m0 qa qb = r3 at *
  obtain ⟨s0, s1, s2, s3, s4, s5⟩ := six_cellsS HB3.out.a
  obtain ⟨x0, x1⟩ := two_cells HB3.out.b
  obtain ⟨q0, q1, q2, q3, q4⟩ := five_cellsP HB3.out.c
  go_wp2_with fail
  refine (K1.out _ HSP3.out).mono ?_
  rintro e w4 ⟨rfl, f4⟩
  have HB4 := Lib.hid (HB3.out.kept f4)
  have HSP4 := Lib.hid (HSP3.out.kept f4)
  have HST4 := Lib.hid (HST3.out.kept f4)
  clear f4 s0 s1 s2 s3 s4 s5 x0 x1 q0 q1 q2 q3 q4
  obtain ⟨s0, s1, s2, s3, s4, s5⟩ := six_cellsS HB4.out.a
  obtain ⟨x0, x1⟩ := two_cells HB4.out.b
  obtain ⟨q0, q1, q2, q3, q4⟩ := five_cellsP HB4.out.c
  go_wp2_with fail
  refine (K2.out _ HSP4.out).mono ?_
  rintro e w5 ⟨rfl, f5⟩
  have HB5 := Lib.hid (HB4.out.kept f5)
  have HSP5 := Lib.hid (HSP4.out.kept f5)
  have HST5 := Lib.hid (HST4.out.kept f5)
  clear f5 s0 s1 s2 s3 s4 s5 x0 x1 q0 q1 q2 q3 q4
  obtain ⟨s0, s1, s2, s3, s4, s5⟩ := six_cellsS HB5.out.a
  obtain ⟨x0, x1⟩ := two_cells HB5.out.b
  obtain ⟨q0, q1, q2, q3, q4⟩ := five_cellsP HB5.out.c
  go_wp2_with fail
  refine (K3.out _ HST5.out HSP5.out).mono ?_
  rintro e w6 ⟨rfl, f6⟩
  have HB6 := Lib.hid (HB5.out.kept f6)
  have HSP6 := Lib.hid (HSP5.out.kept f6)
  have HST6 := Lib.hid (HST5.out.kept f6)
  clear f6 s0 s1 s2 s3 s4 s5 x0 x1 q0 q1 q2 q3 q4
  obtain ⟨s0, s1, s2, s3, s4, s5⟩ := six_cellsS HB6.out.a
  obtain ⟨x0, x1⟩ := two_cells HB6.out.b
  obtain ⟨q0, q1, q2, q3, q4⟩ := five_cellsP HB6.out.c
  go_wp2_with fail
  refine (K4.out _ HST6.out HSP6.out).mono ?_
  rintro e w7 ⟨rfl, f7⟩
  have HB7 := Lib.hid (HB6.out.kept f7)
  have HSP7 := Lib.hid (HSP6.out.kept f7)
  have HST7 := Lib.hid (HST6.out.kept f7)
  clear f7 s0 s1 s2 s3 s4 s5 x0 x1 q0 q1 q2 q3 q4
  obtain ⟨s0, s1, s2, s3, s4, s5⟩ := six_cellsS HB7.out.a
  obtain ⟨x0, x1⟩ := two_cells HB7.out.b
  obtain ⟨q0, q1, q2, q3, q4⟩ := five_cellsP HB7.out.c
  go_wp2_with fail
  refine (K5.out _ HST7.out HSP7.out).mono ?_
  rintro e w8 ⟨rfl, f8⟩
  have HB8 := Lib.hid (HB7.out.kept f8)
  have HSP8 := Lib.hid (HSP7.out.kept f8)
  have HST8 := Lib.hid (HST7.out.kept f8)
  clear f8 s0 s1 s2 s3 s4 s5 x0 x1 q0 q1 q2 q3 q4
  obtain ⟨s0, s1, s2, s3, s4, s5⟩ := six_cellsS HB8.out.a
  obtain ⟨x0, x1⟩ := two_cells HB8.out.b
  obtain ⟨q0, q1, q2, q3, q4⟩ := five_cellsP HB8.out.c
  go_wp2_with fail
  refine (K6.out _ HST8.out HSP8.out).mono ?_
  rintro e w9 ⟨rfl, f9⟩
  have HB9 := Lib.hid (HB8.out.kept f9)
  have HSP9 := Lib.hid (HSP8.out.kept f9)
  have HST9 := Lib.hid (HST8.out.kept f9)
  clear f9 s0 s1 s2 s3 s4 s5 x0 x1 q0 q1 q2 q3 q4
  go_wp2_with fail
  go_ret
  exact ⟨by simp, HB9.out.f⟩
end Go.Proofs.Ytdenlinehjigaaa
