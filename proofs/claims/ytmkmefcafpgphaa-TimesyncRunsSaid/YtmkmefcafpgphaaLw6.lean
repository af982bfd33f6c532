/- Runs. -/
import Derived.Test.YtmkmefcafpgphaaRnp
import Derived.Test.YtmkmefcafpgphaaRnr
import Derived.Test.YtmkmefcafpgphaaSpq
import Derived.Test.YtmkmefcafpgphaaEqs
import Derived.Test.YtmkmefcafpgphaaDpr
import Derived.Deep.RegionHeld3
import Derived.StillTailTactics
import Derived.BigRegion
import Derived.Deep.RegionWith
import Derived.BigQuiet
import Derived.BigGuardPart
namespace Go.Proofs.Ytmkmefcafpgphaa
set_option linter.unusedVariables false
open Go.RowKit


set_option maxRecDepth 20000 in
set_option maxHeartbeats 8000000 in
theorem runs_law (a0 : Option Addr) (l0 k0 : Nat) (a1 : Option Addr) (l1 k1 : Nat) (a2 : Option Addr) (l2 k2 : Nat) (l : List Sy) (zs : List Int) (xs : List Sn) (t : Int) (w : World) (hs : SysIn w a0 l0 l) (hz : IntsIn w a1 l1 zs) (hx : SnsIn w a2 l2 xs) (hc : l1 ≤ k1) (m0 : (l0 : Int) ≤ 9223372036854775807) (m1 : (l1 : Int) ≤ 9223372036854775807) (m2 : (l2 : Int) ≤ 9223372036854775807) :
    Calls Try.prog 4 #[.agg #[.slice a0 l0 k0, .slice a1 l1 k1], .slice a2 l2 k2, .int .i64 t] w fun e w' => e = .returned (.bool true) ∧ Fr no w w' := by
  have hsl := hs.1
  have hzl := hz.1
  have hxl := hx.1
  subst hsl hzl hxl
  have HS := Lib.hid hs
  have HZ := Lib.hid hz
  have HX := Lib.hid hx
  obtain ⟨W, hW⟩ : ∃ W, W = w.alloc (.cells #[.slice a0 l.length k0, .slice a1 zs.length k1] 39 (0, 0)) := ⟨_, rfl⟩
  have HF0 := Lib.hid (show Fr no w W by rw [hW]; exact (Fr.refl no w).alloc _)
  obtain ⟨b0_0, b1_0, -, -⟩ := two_cells (show W.heap[w.heap.size]? = some (.cells #[.slice a0 l.length k0, .slice a1 zs.length k1] 39 (0, 0)) by rw [hW]; exact heap_alloc_new w _)
  have HW := Lib.hid hW
  clear hs hz hx hW
  by_cases n0 : l.length ≤ 40
  · by_cases n1 : zs.length ≤ 40
    · by_cases n2 : xs.length ≤ 40
      · have i0 : (l.length : Int) ≤ 40 := by omega
        have i1 : (zs.length : Int) ≤ 40 := by omega
        have i2 : (xs.length : Int) ≤ 40 := by omega
        have q0 : decide (40 < (l.length : Int)) = false := by simp; omega
        have q1 : decide (40 < (zs.length : Int)) = false := by simp; omega
        have q2 : decide (40 < (xs.length : Int)) = false := by simp; omega
        clear m0 m1 m2
        go_enter Try.func4, Try.ntmps4
        go_wp2_with fail
        rw [← HW.out]
        refine (awake_any _).mono ?_
        rintro e w1 ⟨rfl, f1⟩
        have HF1 := Lib.hid (HF0.out.noTrans f1)
        have b0_1 := f1.keepc b0_0
        have b1_1 := f1.keepc b1_0
        clear f1 b0_0 b1_0 HF0
        go_wp2_with fail
        refine (cloneI_any a1 zs.length k1 zs w1 (HZ.out.kept HF1.out) n1).mono ?_
        rintro e w2 ⟨v2, rfl, hr2, f2⟩
        obtain ⟨s2, c2, rfl, hc2, hi2⟩ := rowI_ints hr2
        have HF2 := Lib.hid (HF1.out.noTrans f2)
        have b0_2 := f2.keepc b0_1
        have b1_2 := f2.keepc b1_1
        clear f2 b0_1 b1_1 HF1 hr2
        go_wp2_with fail
        refine ((depths_any s2 zs.length c2 zs w2 hi2 hc2 n1).mono fun e w' h => depP_of h n1).mono ?_
        rintro e w3 ⟨a3, c3, D, er3, rfl, hq3, hi3, hl3, f3⟩
        have HF3 := Lib.hid (HF2.out.noTrans f3)
        have b0_3 := f3.keepc b0_2
        have b1_3 := f3.keepc b1_2
        have HD3 := Lib.hid hi3
        clear f3 b0_2 b1_2 HF2 hi2 hi3
        go_wp2_with fail
        refine ((depthsR_any a1 zs.length k1 zs w3 (HZ.out.kept HF3.out) n1).mono fun e w' h => depP_of h n1).mono ?_
        rintro e w4 ⟨a4, c4, D', er4, rfl, hq4, hi4, hl4, f4⟩
        obtain ⟨rfl, rfl⟩ := hq3.eq hq4
        have HF4 := Lib.hid (HF3.out.noTrans f4)
        have b0_4 := f4.keepc b0_3
        have b1_4 := f4.keepc b1_3
        have HD4 := Lib.hid hi4
        have HD3 := Lib.hid (HD3.out.kept f4)
        have HDl := Lib.hid hl4
        clear f4 b0_3 b1_3 HF3 hi4 hq3 hq4 hl3 hl4
        go_wp2_with fail
        have tAp : True := trivial
        have tBp : True := trivial
        have tCp : True := trivial
        have tDp : True := trivial
        go_region_held3 (fun w' => w'.cell? ⟨w.heap.size, 0, none⟩ = some (.slice a0 l.length k0) ∧ w'.cell? ⟨w.heap.size, 1, none⟩ = some (.slice a1 zs.length k1)) (go_keep)
          (first
            | (go_at_call 25; have _tk := tAp; refine (cloneS_any a0 l.length k0 l (w4.drewN _) ((HS.out.kept HF4.out).kept ((Fr.refl no w4).drewN _)) n0).mono ?_; rintro e y5 ⟨v5, rfl, hr5, f5⟩; clear _tk tAp; obtain ⟨s5, c5, rfl, hc5, hi5⟩ := rowS_in hr5; have d0 := f5.keepc b0_4; have d1 := f5.keepc b1_4)
            | (go_at_call 22; have _tk := tBp; refine (cloneI_any a1 zs.length k1 zs y5 (HZ.out.kept (HF4.out.noTrans (((Fr.refl no w4).drewN _).noTrans f5))) n1).mono ?_; rintro e y6 ⟨v6, rfl, hr6, f6⟩; clear _tk tBp; obtain ⟨s6, c6, rfl, hc6, hi6⟩ := rowI_ints hr6; have e0 := f6.keepc d0; have e1 := f6.keepc d1)
            | (go_at_call 26; have _tk := tCp; refine (cloneN_any a2 xs.length k2 xs y6 ((HX.out.kept HF4.out).kept ((((Fr.refl no w4).drewN _).noTrans f5).noTrans f6)) n2).mono ?_; rintro e y7 ⟨v7, rfl, hr7, f7⟩; clear _tk tCp; obtain ⟨s7, c7, rfl, hc7, hi7⟩ := rowN_in hr7; have g0 := f7.keepc e0; have g1 := f7.keepc e1)
            | (go_at_call 24; have _tk := tDp; refine ((run_any s5 _ c5 s6 _ c6 s7 _ c7 l zs _ y7 (hi5.kept (f6.noTrans f7)) (hi6.kept f7) hi7 hc6 n0 n1 n2).mono fun e w' h => runP_of h n0).mono ?_; rintro e y8 ⟨a8, c8, Y, i8, er8, rfl, hq8, hi8, hl8, f8⟩; clear _tk tDp; have h0 := f8.keepc g0; have h1 := f8.keepc g1))

        have FY := Lib.hid (show Fr no w4 y8 from (((((Fr.refl no w4).drewN _).noTrans f5).noTrans f6).noTrans f7).noTrans f8)
        have HF8 := Lib.hid (HF4.out.noTrans FY.out)
        have HD3 := Lib.hid (HD3.out.kept FY.out)
        have HD4 := Lib.hid (HD4.out.kept FY.out)
        have HI8 := Lib.hid hi8
        have HQ8 := Lib.hid hq8
        have HL8 := Lib.hid hl8
        clear f5 f6 f7 f8 hr5 hr6 hr7 hi5 hi6 hi7 d0 d1 e0 e1 g0 g1 b0_4 b1_4 HF4 FY hi8 hq8 hl8
        go_wp2_with fail
        refine ((runR_any a0 l.length k0 a1 zs.length k1 a2 xs.length k2 l zs xs y8 (HS.out.kept HF8.out) (HZ.out.kept HF8.out) (HX.out.kept HF8.out) n0 n1 n2).mono fun e w' h => runP_of h n0).mono ?_
        rintro e y9 ⟨a9, c9, Y', i9, er9, rfl, hq9, hi9, hl9, f9⟩
        obtain ⟨rfl, rfl, rfl⟩ := HQ8.out.eq hq9
        have HF9 := Lib.hid (HF8.out.noTrans f9)
        have r0 := f9.keepc h0
        have r1 := f9.keepc h1
        have HI8 := Lib.hid (HI8.out.kept f9)
        have HI9 := Lib.hid hi9
        have HD3 := Lib.hid (HD3.out.kept f9)
        have HD4 := Lib.hid (HD4.out.kept f9)
        clear f9 h0 h1 HF8 hi9 hq9 hl9 HQ8
        go_wp2_with fail
        refine (cloneS_any a0 l.length k0 l y9 (HS.out.kept HF9.out) n0).mono ?_
        rintro e z1 ⟨v5, rfl, hr5, f1⟩
        obtain ⟨s5, c5, rfl, hc5, hi5⟩ := rowS_in hr5
        have HFa := Lib.hid (HF9.out.noTrans f1)
        have t0 := f1.keepc r0
        have t1 := f1.keepc r1
        have HI8 := Lib.hid (HI8.out.kept f1)
        have HI9 := Lib.hid (HI9.out.kept f1)
        have HD3 := Lib.hid (HD3.out.kept f1)
        have HD4 := Lib.hid (HD4.out.kept f1)
        clear f1 r0 r1 HF9 hr5
        go_wp2_with fail
        refine (spread_any s5 l.length c5 l t z1 hi5 n0).mono ?_
        rintro e z2 ⟨f2, u, rfl, hu1, hu2⟩
        have HFb := Lib.hid (HFa.out.noTrans f2)
        have u0 := f2.keepc t0
        have u1 := f2.keepc t1
        have HI8 := Lib.hid (HI8.out.kept f2)
        have HI9 := Lib.hid (HI9.out.kept f2)
        have HD3 := Lib.hid (HD3.out.kept f2)
        have HD4 := Lib.hid (HD4.out.kept f2)
        have HU1 := Lib.hid hu1
        have HU2 := Lib.hid hu2
        clear f2 t0 t1 HFa hi5 hu1 hu2
        go_wp2_with fail
        refine (spreadR_any a0 l.length k0 l t z2 (HS.out.kept HFb.out) n0).mono ?_
        rintro e z3 ⟨f3, u', rfl, hu3, hu4⟩
        obtain rfl := spr_same HU1.out HU2.out hu3 hu4
        have HFc := Lib.hid (HFb.out.noTrans f3)
        have HI8 := Lib.hid (HI8.out.kept f3)
        have HI9 := Lib.hid (HI9.out.kept f3)
        have HD3 := Lib.hid (HD3.out.kept f3)
        have HD4 := Lib.hid (HD4.out.kept f3)
        have KE := Lib.hid (equalI_same a3 a4 D.length c3 c4 D z3 HD3.out HD4.out HDl.out)
        generalize spE l t = se at *
        clear f3 u0 u1 HFb hu3 hu4 HU1 HU2 HD3 HD4
        go_wp2_with fail
        refine KE.out.mono ?_
        rintro e z4 ⟨rfl, f4⟩
        have HFd := Lib.hid (HFc.out.noTrans f4)
        have KS := Lib.hid (same_same a8 a9 Y.length c8 c9 Y z4 (HI8.out.kept f4) (HI9.out.kept f4) HL8.out)
        clear f4 HFc KE HI8 HI9
        go_wp2_with fail
        refine KS.out.mono ?_
        rintro e z5 ⟨rfl, f5⟩
        have HFe := Lib.hid (HFd.out.noTrans f5)
        clear f5 HFd KS
        go_wp2_with fail
        go_ret
        exact ⟨by first | rfl | (simp; done) | (simp; omega), HFe.out⟩
      · have i2 : (40 : Int) < (xs.length : Int) := by omega
        have i0 : (l.length : Int) ≤ 40 := by omega
        have i1 : (zs.length : Int) ≤ 40 := by omega
        have q0 : decide (40 < (l.length : Int)) = false := by simp; omega
        have q1 : decide (40 < (zs.length : Int)) = false := by simp; omega
        clear m0 m1 m2
        go_enter Try.func4, Try.ntmps4
        go_wp2_with fail
        rw [← HW.out]
        refine (awake_any _).mono ?_
        rintro e w1 ⟨rfl, f1⟩
        have HF1 := Lib.hid (HF0.out.noTrans f1)
        have b0_1 := f1.keepc b0_0
        have b1_1 := f1.keepc b1_0
        clear f1 b0_0 b1_0 HF0
        go_wp2_with fail
        go_ret
        exact ⟨rfl, HF1.out⟩

    · have i1 : (40 : Int) < (zs.length : Int) := by omega
      have i0 : (l.length : Int) ≤ 40 := by omega
      have q0 : decide (40 < (l.length : Int)) = false := by simp; omega
      clear m0 m1 m2
      go_enter Try.func4, Try.ntmps4
      go_wp2_with fail
      rw [← HW.out]
      refine (awake_any _).mono ?_
      rintro e w1 ⟨rfl, f1⟩
      have HF1 := Lib.hid (HF0.out.noTrans f1)
      have b0_1 := f1.keepc b0_0
      have b1_1 := f1.keepc b1_0
      clear f1 b0_0 b1_0 HF0
      go_wp2_with fail
      go_ret
      exact ⟨rfl, HF1.out⟩

  · have i0 : (40 : Int) < (l.length : Int) := by omega
    clear m0 m1 m2
    go_enter Try.func4, Try.ntmps4
    go_wp2_with fail
    rw [← HW.out]
    refine (awake_any _).mono ?_
    rintro e w1 ⟨rfl, f1⟩
    have HF1 := Lib.hid (HF0.out.noTrans f1)
    have b0_1 := f1.keepc b0_0
    have b1_1 := f1.keepc b1_0
    clear f1 b0_0 b1_0 HF0
    go_wp2_with fail
    go_ret
    exact ⟨rfl, HF1.out⟩


end Go.Proofs.Ytmkmefcafpgphaa
