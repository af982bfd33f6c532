/- Signal, by the document. -/
import Derived.Test.YtdenlinehjigaaaNds
namespace Go.Proofs.Ytdenlinehjigaaa
open Go.RowKit
set_option linter.unusedVariables false

set_option maxHeartbeats 16000000 in
theorem signalR_any (n0 : Option Addr) (m0 h0 : Nat) (n1 : Option Addr) (m1 h1 : Nat) (n2 : Option Addr) (m2 h2 : Nat) (e o th : Int) (ps : List Pt) (zs : List Int) (ws : List Wl) (a0 : Option Addr) (l0 k0 : Nat) (a1 : Option Addr) (l1 k1 : Nat) (ss : List Src) (fs : List Fd) (a b c t : Int) (w : World) (hst : StIn w n0 m0 n1 m1 n2 m2 ps zs ws) (hsp : SpIn w a0 l0 a1 l1 ss fs) :
    Calls Try.prog 38 #[.agg #[.slice n0 m0 h0, .slice n1 m1 h1, .slice n2 m2 h2, .int .i64 e, .int .i64 o, .int .i64 th], .agg #[.slice a0 l0 k0, .slice a1 l1 k1], .int .i64 a, .int .i64 b, .int .i64 c, .int .i64 t] w fun e' w' => e' = .returned (.tuple #[.int .i64 (sgV (ckS l0 l1 ss fs) (ckB m0 m1 m2 e o th ps zs ws) m0 e ps zs ws a b c t fs), .int .i64 (sgE (ckS l0 l1 ss fs) (ckB m0 m1 m2 e o th ps zs ws) m0 a b c t)]) ∧ Fr no w w' := by
  have hB := box2 w (.cells #[.slice n0 m0 h0, .slice n1 m1 h1, .slice n2 m2 h2, .int .i64 e, .int .i64 o, .int .i64 th] 26 (0, 0)) (.cells #[.slice a0 l0 k0, .slice a1 l1 k1] 47 (0, 0))
  obtain ⟨W, hW⟩ : ∃ W, W = (w.alloc (.cells #[.slice n0 m0 h0, .slice n1 m1 h1, .slice n2 m2 h2, .int .i64 e, .int .i64 o, .int .i64 th] 26 (0, 0))).alloc (.cells #[.slice a0 l0 k0, .slice a1 l1 k1] 47 (0, 0)) := ⟨_, rfl⟩
  rw [← hW] at hB
  have HST := Lib.hid (hst.kept hB.f)
  have HSP := Lib.hid (hsp.kept hB.f)
  obtain ⟨c0, c1⟩ := two_cells hB.x
  obtain ⟨d0, d1, d2, d3, d4, d5⟩ := six_cellsS hB.s
  have HB := Lib.hid hB
  have HW := Lib.hid hW
  have HU := nodesR_any n0 m0 h0 n1 m1 h1 n2 m2 h2 e o th ps zs ws a0 l0 k0 a1 l1 k1 ss fs a b W HST.out HSP.out
  have HZ := Lib.hid hst.z.1
  clear hst hsp hB hW
  by_cases hu : unE (ckS l0 l1 ss fs) (ckB m0 m1 m2 e o th ps zs ws) m0 a b = 0
  · obtain ⟨t1, t2, t3, t4⟩ := unE_0 hu
    have hbd := unV_bd (e := e) (o := o) (th := th) (ps := ps) (ws := ws) (a := a) (b := b) HZ.out hu
    have hfd := (ckS_len t1).2.2.2
    have HL := Lib.hid (show l1 ≤ 80 by have := (ckS_len t1).2.1; omega)
    have hbv : bwV (ckB m0 m1 m2 e o th ps zs ws) m0 e ps zs ws a b = unV (ckS l0 l1 ss fs) (ckB m0 m1 m2 e o th ps zs ws) m0 e ps zs ws a b ∧ bwE (ckB m0 m1 m2 e o th ps zs ws) m0 a b = 0 := by simp [unV, bwE, bwB, t1, t2, t3, t4]
    rw [hu] at HU
    have HU := Lib.hid HU
    have hlf := lsF_bd (ftP a b c t) fs hfd
    have hpm := mul_bound (unV (ckS l0 l1 ss fs) (ckB m0 m1 m2 e o th ps zs ws) m0 e ps zs ws a b) (lsF (ftP a b c t) fs) 68719476736 1000 hbd.1 hbd.2 hlf.1 hlf.2
    rw [show lsF (ftP a b c t) fs = ftF a b c t fs from rfl] at hpm
    obtain ⟨hp0, hp1⟩ := hpm
    have hp2 : unV (ckS l0 l1 ss fs) (ckB m0 m1 m2 e o th ps zs ws) m0 e ps zs ws a b * ftF a b c t fs ≤ 68719476736000 := by omega
    have HBT := Lib.hid (fun w h => by have := betweenR_any n0 m0 h0 n1 m1 h1 n2 m2 h2 e o th ps zs ws a b w (StIn.p h) (StIn.z h) (StIn.v h); rw [hbv.1, hbv.2] at this; exact this)
    have HFT := Lib.hid (fun w h => factorR_any a0 l0 k0 a1 l1 k1 ss fs a b c t w h HL.out)
    have HN1 := channelR_any c
    have HN2 := timeR_any t
    cases hc0 : chT c t
    · have HR := Lib.hid (show sgV (ckS l0 l1 ss fs) (ckB m0 m1 m2 e o th ps zs ws) m0 e ps zs ws a b c t fs = 0 ∧ sgE (ckS l0 l1 ss fs) (ckB m0 m1 m2 e o th ps zs ws) m0 a b c t = 2 by simp [sgV, sgE, hu, hc0])
      have HCT := Lib.hid (show (inR c 0 15 && inR t 0 1099511627776) = false from hc0)
      clear hu hbd hfd hlf hp0 hp1 hp2 hc0 hbv t1 t2 t3 t4
      generalize inR c 0 15 = C at *
      generalize inR t 0 1099511627776 = TT at *
      have HN1 := Lib.hid HN1
      have HN2 := Lib.hid HN2
      cases C
      · go_enter Try.func38, Try.ntmps38
        go_wp2_with fail
        rw [← HW.out]
        refine HU.out.mono ?_
        rintro e w1 ⟨rfl, f1⟩
        have HB1 := Lib.hid (HB.out.kept f1)
        have HSP1 := Lib.hid (HSP.out.kept f1)
        have HST1 := Lib.hid (HST.out.kept f1)
        have HF1 := Lib.hid HB1.out.f
        obtain ⟨g0, g1⟩ := two_cells HB1.out.x
        obtain ⟨s0, s1, s2, s3, s4, s5⟩ := six_cellsS HB1.out.s
        clear f1 c0 c1 d0 d1 d2 d3 d4 d5
        go_wp2_with fail
        refine (HN1.out _).mono ?_
        rintro e w2 ⟨rfl, rfl⟩
        go_wp2_with fail
        go_ret2
        rw [HR.out.1, HR.out.2]
        exact ⟨rfl, HF1.out⟩
      · obtain rfl : TT = false := by simpa using HCT.out
        go_enter Try.func38, Try.ntmps38
        go_wp2_with fail
        rw [← HW.out]
        refine HU.out.mono ?_
        rintro e w1 ⟨rfl, f1⟩
        have HB1 := Lib.hid (HB.out.kept f1)
        have HSP1 := Lib.hid (HSP.out.kept f1)
        have HST1 := Lib.hid (HST.out.kept f1)
        have HF1 := Lib.hid HB1.out.f
        obtain ⟨g0, g1⟩ := two_cells HB1.out.x
        obtain ⟨s0, s1, s2, s3, s4, s5⟩ := six_cellsS HB1.out.s
        clear f1 c0 c1 d0 d1 d2 d3 d4 d5
        go_wp2_with fail
        refine (HN1.out _).mono ?_
        rintro e w2 ⟨rfl, rfl⟩
        go_wp2_with fail
        refine (HN2.out _).mono ?_
        rintro e w3 ⟨rfl, rfl⟩
        go_wp2_with fail
        go_ret2
        rw [HR.out.1, HR.out.2]
        exact ⟨rfl, HF1.out⟩
    · have HR := Lib.hid (show sgV (ckS l0 l1 ss fs) (ckB m0 m1 m2 e o th ps zs ws) m0 e ps zs ws a b c t fs = unV (ckS l0 l1 ss fs) (ckB m0 m1 m2 e o th ps zs ws) m0 e ps zs ws a b * ftF a b c t fs / 1000 ∧ sgE (ckS l0 l1 ss fs) (ckB m0 m1 m2 e o th ps zs ws) m0 a b c t = 0 by simp [sgV, sgE, hu, hc0])
      have hct : inR c 0 15 = true ∧ inR t 0 1099511627776 = true := by simpa [chT] using hc0
      rw [hct.1] at HN1
      rw [hct.2] at HN2
      have HN1 := Lib.hid HN1
      have HN2 := Lib.hid HN2
      clear hu hbd hfd hlf hp1 hc0 hct hbv t1 t2 t3 t4
      generalize unV (ckS l0 l1 ss fs) (ckB m0 m1 m2 e o th ps zs ws) m0 e ps zs ws a b = uv at *
      generalize ftF a b c t fs = ft at *
      go_enter Try.func38, Try.ntmps38
      go_wp2_with fail
      rw [← HW.out]
      refine HU.out.mono ?_
      rintro e w1 ⟨rfl, f1⟩
      have HB1 := Lib.hid (HB.out.kept f1)
      have HSP1 := Lib.hid (HSP.out.kept f1)
      have HST1 := Lib.hid (HST.out.kept f1)
      have HF1 := Lib.hid HB1.out.f
      obtain ⟨g0, g1⟩ := two_cells HB1.out.x
      obtain ⟨s0, s1, s2, s3, s4, s5⟩ := six_cellsS HB1.out.s
      clear f1 c0 c1 d0 d1 d2 d3 d4 d5
      go_wp2_with fail
      refine (HN1.out _).mono ?_
      rintro e w2 ⟨rfl, rfl⟩
      go_wp2_with fail
      refine (HN2.out _).mono ?_
      rintro e w3 ⟨rfl, rfl⟩
      go_wp2_with fail
      refine (HBT.out _ HST1.out).mono ?_
      rintro e w4 ⟨rfl, f4⟩
      have HF4 := Lib.hid (HF1.out.noTrans f4)
      have HSP4 := Lib.hid (HSP1.out.kept f4)
      obtain ⟨g0, g1⟩ := two_cells (HB1.out.kept f4).x
      clear f4
      go_wp2_with fail
      refine (HFT.out _ HSP4.out).mono ?_
      rintro e w5 ⟨rfl, f5⟩
      have HF5 := Lib.hid (HF4.out.noTrans f5)
      clear f5
      go_wp2_with fail
      go_ret2
      rw [HR.out.1, HR.out.2]
      exact ⟨rfl, HF5.out⟩
  · have hr2 : (unE (ckS l0 l1 ss fs) (ckB m0 m1 m2 e o th ps zs ws) m0 a b == 0) = false := by simpa using hu
    have HR := Lib.hid (show sgV (ckS l0 l1 ss fs) (ckB m0 m1 m2 e o th ps zs ws) m0 e ps zs ws a b c t fs = 0 ∧ sgE (ckS l0 l1 ss fs) (ckB m0 m1 m2 e o th ps zs ws) m0 a b c t = unE (ckS l0 l1 ss fs) (ckB m0 m1 m2 e o th ps zs ws) m0 a b by simp [sgV, sgE, hu])
    have HU := Lib.hid HU
    clear hu
    generalize unE (ckS l0 l1 ss fs) (ckB m0 m1 m2 e o th ps zs ws) m0 a b = r at *
    go_enter Try.func38, Try.ntmps38
    go_wp2_with fail
    rw [← HW.out]
    refine HU.out.mono ?_
    rintro e w1 ⟨rfl, f1⟩
    have HB1 := Lib.hid (HB.out.kept f1)
    have HSP1 := Lib.hid (HSP.out.kept f1)
    have HST1 := Lib.hid (HST.out.kept f1)
    have HF1 := Lib.hid HB1.out.f
    obtain ⟨g0, g1⟩ := two_cells HB1.out.x
    obtain ⟨s0, s1, s2, s3, s4, s5⟩ := six_cellsS HB1.out.s
    clear f1 c0 c1 d0 d1 d2 d3 d4 d5
    go_wp2_with fail
    go_ret2
    rw [HR.out.1, HR.out.2]
    exact ⟨rfl, HF1.out⟩
end Go.Proofs.Ytdenlinehjigaaa
