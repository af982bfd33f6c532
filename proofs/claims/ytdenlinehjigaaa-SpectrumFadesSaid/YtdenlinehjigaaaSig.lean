/- Signal. -/
import Derived.Test.YtdenlinehjigaaaUnf
namespace Go.Proofs.Ytdenlinehjigaaa
open Go.RowKit
set_option linter.unusedVariables false

set_option maxHeartbeats 8000000 in
theorem signal_any (n0 : Option Addr) (m0 h0 : Nat) (n1 : Option Addr) (m1 h1 : Nat) (n2 : Option Addr) (m2 h2 : Nat) (e o th : Int) (ps : List Pt) (zs : List Int) (ws : List Wl) (a0 : Option Addr) (l0 k0 : Nat) (a1 : Option Addr) (l1 k1 : Nat) (ss : List Src) (fs : List Fd) (a b c t : Int) (w : World) (hst : StIn w n0 m0 n1 m1 n2 m2 ps zs ws) (hsp : SpIn w a0 l0 a1 l1 ss fs) :
    Calls Try.prog 37 #[.agg #[.slice n0 m0 h0, .slice n1 m1 h1, .slice n2 m2 h2, .int .i64 e, .int .i64 o, .int .i64 th], .agg #[.slice a0 l0 k0, .slice a1 l1 k1], .int .i64 a, .int .i64 b, .int .i64 c, .int .i64 t] w fun e' w' => e' = .returned (.tuple #[.int .i64 (sgV (ckS l0 l1 ss fs) (ckB m0 m1 m2 e o th ps zs ws) m0 e ps zs ws a b c t fs), .int .i64 (sgE (ckS l0 l1 ss fs) (ckB m0 m1 m2 e o th ps zs ws) m0 a b c t)]) ∧ Fr no w w' := by
  have hB := box2 w (.cells #[.slice n0 m0 h0, .slice n1 m1 h1, .slice n2 m2 h2, .int .i64 e, .int .i64 o, .int .i64 th] 26 (0, 0)) (.cells #[.slice a0 l0 k0, .slice a1 l1 k1] 47 (0, 0))
  obtain ⟨W, hW⟩ : ∃ W, W = (w.alloc (.cells #[.slice n0 m0 h0, .slice n1 m1 h1, .slice n2 m2 h2, .int .i64 e, .int .i64 o, .int .i64 th] 26 (0, 0))).alloc (.cells #[.slice a0 l0 k0, .slice a1 l1 k1] 47 (0, 0)) := ⟨_, rfl⟩
  rw [← hW] at hB
  have HST := Lib.hid (hst.kept hB.f)
  have HSP := Lib.hid (hsp.kept hB.f)
  obtain ⟨c0, c1⟩ := two_cells hB.x
  obtain ⟨d0, d1, d2, d3, d4, d5⟩ := six_cellsS hB.s
  have HB := Lib.hid hB
  have HW := Lib.hid hW
  have HU := unfaded_any n0 m0 h0 n1 m1 h1 n2 m2 h2 e o th ps zs ws a0 l0 k0 a1 l1 k1 ss fs a b W HST.out HSP.out
  have HZ := Lib.hid hst.z.1
  clear hst hsp hB hW
  by_cases hu : unE (ckS l0 l1 ss fs) (ckB m0 m1 m2 e o th ps zs ws) m0 a b = 0
  · have hbd := unV_bd (e := e) (o := o) (th := th) (ps := ps) (ws := ws) (a := a) (b := b) HZ.out hu
    have hfd := (ckS_len (unE_0 hu).1).2.2.2
    have HL := Lib.hid (show l1 ≤ 80 by have := (ckS_len (unE_0 hu).1).2.1; omega)
    have hsc := sc_ok hbd (lsF_bd (ftP a b c t) fs hfd)
    rw [show lsF (ftP a b c t) fs = ftF a b c t fs from rfl] at hsc
    rw [hu] at HU
    have HU := Lib.hid HU
    have HN0 := isChannel_any c
    have HN1 := isTime_any t
    cases hc0 : inR c 0 15
    · rw [hc0] at HN0
      have HN0 := Lib.hid HN0
      have HR := Lib.hid (show sgV (ckS l0 l1 ss fs) (ckB m0 m1 m2 e o th ps zs ws) m0 e ps zs ws a b c t fs = 0 ∧ sgE (ckS l0 l1 ss fs) (ckB m0 m1 m2 e o th ps zs ws) m0 a b c t = 2 by simp [sgV, sgE, hu, chT, hc0])
      clear hu hbd hfd hsc hc0
      generalize unV (ckS l0 l1 ss fs) (ckB m0 m1 m2 e o th ps zs ws) m0 e ps zs ws a b = uv at *
      go_enter Try.func37, Try.ntmps37
      go_wp2_with fail
      rw [← HW.out]
      refine HU.out.mono ?_
      rintro e w1 ⟨rfl, f1⟩
      have g0 := f1.keepc c0
      have g1 := f1.keepc c1
      have HF1 := Lib.hid (HB.out.f.noTrans f1)
      have HSP1 := Lib.hid (HSP.out.kept f1)
      clear f1 c0 c1 d0 d1 d2 d3 d4 d5
      go_wp2_with fail
      refine (HN0.out _).mono ?_
      rintro e wn0 ⟨rfl, rfl⟩
      go_wp2_with fail
      go_ret2
      rw [HR.out.1, HR.out.2]
      exact ⟨rfl, HF1.out⟩
    rw [hc0] at HN0
    have HN0 := Lib.hid HN0
    cases hc1 : inR t 0 1099511627776
    · rw [hc1] at HN1
      have HN1 := Lib.hid HN1
      have HR := Lib.hid (show sgV (ckS l0 l1 ss fs) (ckB m0 m1 m2 e o th ps zs ws) m0 e ps zs ws a b c t fs = 0 ∧ sgE (ckS l0 l1 ss fs) (ckB m0 m1 m2 e o th ps zs ws) m0 a b c t = 2 by simp [sgV, sgE, hu, chT, hc0, hc1])
      clear hu hbd hfd hsc hc0 hc1
      generalize unV (ckS l0 l1 ss fs) (ckB m0 m1 m2 e o th ps zs ws) m0 e ps zs ws a b = uv at *
      go_enter Try.func37, Try.ntmps37
      go_wp2_with fail
      rw [← HW.out]
      refine HU.out.mono ?_
      rintro e w1 ⟨rfl, f1⟩
      have g0 := f1.keepc c0
      have g1 := f1.keepc c1
      have HF1 := Lib.hid (HB.out.f.noTrans f1)
      have HSP1 := Lib.hid (HSP.out.kept f1)
      clear f1 c0 c1 d0 d1 d2 d3 d4 d5
      go_wp2_with fail
      refine (HN0.out _).mono ?_
      rintro e wn0 ⟨rfl, rfl⟩
      go_wp2_with fail
      refine (HN1.out _).mono ?_
      rintro e wn1 ⟨rfl, rfl⟩
      go_wp2_with fail
      go_ret2
      rw [HR.out.1, HR.out.2]
      exact ⟨rfl, HF1.out⟩
    rw [hc1] at HN1
    have HN1 := Lib.hid HN1
    have HR := Lib.hid (show sgV (ckS l0 l1 ss fs) (ckB m0 m1 m2 e o th ps zs ws) m0 e ps zs ws a b c t fs = unV (ckS l0 l1 ss fs) (ckB m0 m1 m2 e o th ps zs ws) m0 e ps zs ws a b * ftF a b c t fs / 1000 ∧ sgE (ckS l0 l1 ss fs) (ckB m0 m1 m2 e o th ps zs ws) m0 a b c t = 0 by simp [sgV, sgE, hu, chT, hc0, hc1])
    have HSC := Lib.hid hsc
    clear hu hbd hfd hsc hc0 hc1
    generalize unV (ckS l0 l1 ss fs) (ckB m0 m1 m2 e o th ps zs ws) m0 e ps zs ws a b = uv at *
    go_enter Try.func37, Try.ntmps37
    go_wp2_with fail
    rw [← HW.out]
    refine HU.out.mono ?_
    rintro e w1 ⟨rfl, f1⟩
    have g0 := f1.keepc c0
    have g1 := f1.keepc c1
    have HF1 := Lib.hid (HB.out.f.noTrans f1)
    have HSP1 := Lib.hid (HSP.out.kept f1)
    clear f1 c0 c1 d0 d1 d2 d3 d4 d5
    go_wp2_with fail
    refine (HN0.out _).mono ?_
    rintro e wn0 ⟨rfl, rfl⟩
    go_wp2_with fail
    refine (HN1.out _).mono ?_
    rintro e wn1 ⟨rfl, rfl⟩
    go_wp2_with fail
    go_region_held3 (fun w' => w'.cell? ⟨w.heap.size + 1, 0, none⟩ = some (.slice a0 l0 k0) ∧ w'.cell? ⟨w.heap.size + 1, 1, none⟩ = some (.slice a1 l1 k1)) (go_keep)
      (first
        | (go_at_call 92; refine (mkBtw_any a b _).mono ?_; rintro e w4 ⟨rfl, h4, f4⟩; have x0 := f4.keepc g0; have x1 := f4.keepc g1)
        | (go_at_call 93; refine (mkOn_any c _).mono ?_; rintro e w5 ⟨rfl, h5, f5⟩; have y0 := f5.keepc x0; have y1 := f5.keepc x1)
        | (go_at_call 94; refine (mkAt_any t _).mono ?_; rintro e w6 ⟨rfl, h6, f6⟩; have z0 := f6.keepc y0; have z1 := f6.keepc y1)
        | (go_at_call 91; refine (least3 a1 l1 k1 fs w6 _ _ _ _ a b c t (HSP1.out.f.kept ((((Fr.refl no _).drew.noTrans f4).noTrans f5).noTrans f6)) HL.out ((f5.noTrans f6).keepc h4.1) ((f5.noTrans f6).keepc h4.2) (f6.keepc h5) h6).mono ?_; rintro e w7 ⟨rfl, f7⟩; have q0 := f7.keepc z0; have q1 := f7.keepc z1)
        | (go_at_call 99; refine (scale_any uv (ftF a b c t fs) _).mono ?_; rintro e w8 ⟨rfl, rfl⟩))
    have HF7 := Lib.hid ((HF1.out.drew.noTrans f4).noTrans ((f5.noTrans f6).noTrans f7))
    clear f4 f5 f6 f7
    go_wp2_with fail
    go_ret2
    rw [HR.out.1, HR.out.2, HSC.out.1, HSC.out.2]
    exact ⟨rfl, HF7.out⟩
  · have hr2 : (unE (ckS l0 l1 ss fs) (ckB m0 m1 m2 e o th ps zs ws) m0 a b == 0) = false := by simpa using hu
    have HR := Lib.hid (show sgV (ckS l0 l1 ss fs) (ckB m0 m1 m2 e o th ps zs ws) m0 e ps zs ws a b c t fs = 0 ∧ sgE (ckS l0 l1 ss fs) (ckB m0 m1 m2 e o th ps zs ws) m0 a b c t = unE (ckS l0 l1 ss fs) (ckB m0 m1 m2 e o th ps zs ws) m0 a b by simp [sgV, sgE, hu])
    have HU := Lib.hid HU
    clear hu
    generalize unE (ckS l0 l1 ss fs) (ckB m0 m1 m2 e o th ps zs ws) m0 a b = r at *
    generalize unV (ckS l0 l1 ss fs) (ckB m0 m1 m2 e o th ps zs ws) m0 e ps zs ws a b = uv at *
    go_enter Try.func37, Try.ntmps37
    go_wp2_with fail
    rw [← HW.out]
    refine HU.out.mono ?_
    rintro e w1 ⟨rfl, f1⟩
    have g0 := f1.keepc c0
    have g1 := f1.keepc c1
    have HF1 := Lib.hid (HB.out.f.noTrans f1)
    have HSP1 := Lib.hid (HSP.out.kept f1)
    clear f1 c0 c1 d0 d1 d2 d3 d4 d5
    go_wp2_with fail
    go_ret2
    rw [HR.out.1, HR.out.2]
    exact ⟨rfl, HF1.out⟩
end Go.Proofs.Ytdenlinehjigaaa
