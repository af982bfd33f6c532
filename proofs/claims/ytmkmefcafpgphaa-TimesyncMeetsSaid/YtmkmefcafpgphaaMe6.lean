/- Meets: the frame is refused. -/
import Derived.Test.YtmkmefcafpgphaaMee
namespace Go.Proofs.Ytmkmefcafpgphaa
set_option linter.unusedVariables false
open Go.RowKit

set_option maxRecDepth 20000 in
set_option maxHeartbeats 8000000 in
theorem meets_err1 (oc dc sc cc op dp sp cp sl : Int) (w : World) (hkc : okS oc dc sc cc = true) (hkp : okS op dp sp cp = true) (h : inE op dp sl 2120 = 0) (h2 : 0 < inV op dp sl 2120) (hc : heE oc dc sc cc sl (inV op dp sl 2120) = 1) : Calls Try.prog 5 #[.agg #[.int .i64 oc, .int .i64 dc, .int .i64 sc, .int .i64 cc], .agg #[.int .i64 op, .int .i64 dp, .int .i64 sp, .int .i64 cp], .int .i64 sl] w fun e w' => e = .returned (.bool true) ∧ Fr no w w' := by
  obtain ⟨W, hW, hF, ⟨c0_0, c1_0, c2_0, c3_0⟩, ⟨p0_0, p1_0, p2_0, p3_0⟩⟩ := two_sync w oc dc sc cc op dp sp cp
  have HW := Lib.hid hW
  have HF0 := Lib.hid hF
  clear hW hF
  have K1 := Lib.hid (fun w => ckS_any oc dc sc cc w)
  have K2 := Lib.hid (fun w => ckS_any op dp sp cp w)
  rw [ckS_0 hkc] at K1
  rw [ckS_0 hkp] at K2
  obtain ⟨kp, -⟩ := okS_t hkp
  obtain ⟨kc', q2⟩ := okS_t hkc
  have cc0 : 0 ≤ cc := by omega
  have cc1 : cc ≤ 4096 := by omega
  clear q2
  have K3 := Lib.hid (fun w => send_any op dp sl w)
  obtain ⟨-, -, ⟨sA0, sA1⟩, -, ⟨v0, v1⟩, -⟩ := in_ok h
  have hv : isT (inV op dp sl 2120) = true := isT_t.2 ⟨v0, v1⟩
  have hsA : isS sl = true := isS_t.2 ⟨sA0, sA1⟩
  obtain ⟨nA1, nA2⟩ := near h h2
  obtain ⟨b1_, b2_⟩ := fl_bd2 (OkC.of kc') v0 v1
  obtain ⟨b3_, b4_⟩ := fl_bd2 (OkC.of kp) v0 v1
  rw [h] at K3
  have K4 := Lib.hid (fun w => hear_any oc dc sc cc sl (inV op dp sl 2120) w)
  rw [(hear_0 hkc (me_0 kc' hsA hv).1).1, (hear_0 hkc (me_0 kc' hsA hv).1).2, (me_0 kc' hsA hv).2] at K4
  rw [(hear_0 hkc (me_0 kc' hsA hv).1).1, (me_0 kc' hsA hv).2] at hc
  rw [hc] at K4
  generalize z0 true (coO oc dc sc cc sl (-(sh oc dc (inV op dp sl 2120) - (sl * 10000 + 2120)))) = xo at *
  generalize z0 true (coD oc dc sc cc sl (-(sh oc dc (inV op dp sl 2120) - (sl * 10000 + 2120)))) = xd at *
  generalize z0 true (coS oc dc sc cc sl (-(sh oc dc (inV op dp sl 2120) - (sl * 10000 + 2120)))) = xs at *
  generalize z0 true (coC oc dc sc cc sl (-(sh oc dc (inV op dp sl 2120) - (sl * 10000 + 2120)))) = xc at *
  generalize inV op dp sl 2120 = vA at *
  clear hc nA1 nA2 b1_ b2_ b3_ b4_ h hv hsA
  have L1 := Lib.hid (fun w => send_any oc dc sl w)
  by_cases hB : inE oc dc sl 2120 = 0
  · obtain ⟨-, kc, ⟨s0, s1⟩, -, ⟨u0, u1⟩, -⟩ := in_ok hB
    have hu : isT (inV oc dc sl 2120) = true := isT_t.2 ⟨u0, u1⟩
    have hs : isS sl = true := isS_t.2 ⟨s0, s1⟩
    have hN := near hB
    rw [hB] at L1
    have L2 := Lib.hid (fun w => measure_any op dp sl (inV oc dc sl 2120) w)
    rw [(me_0 kp hs hu).1, (me_0 kp hs hu).2] at L2
    obtain ⟨v1_, v2_⟩ := fl_bd2 (OkC.of kp) u0 u1
    have HX := fun h1 : okC (oc + (sh op dp (inV oc dc sl 2120) - (sl * 10000 + 2120))) dc = true => ap_0 h1 kp hu
    have HO := @sh_off oc dc (inV oc dc sl 2120) (sh op dp (inV oc dc sl 2120) - (sl * 10000 + 2120))
    generalize inV oc dc sl 2120 = u at *
    clear hB hu
    by_cases hz : u = 0
    · subst hz
      clear hN HX HO
      go_enter Try.func5, Try.ntmps5
      go_wp2_with fail
      rw [← HW.out]
      refine (awake_any _).mono ?_
      rintro e w1 ⟨rfl, f1⟩
      have HF1 := Lib.hid (HF0.out.noTrans f1)
      have c0_1 := f1.keepc c0_0
      have c1_1 := f1.keepc c1_0
      have c2_1 := f1.keepc c2_0
      have c3_1 := f1.keepc c3_0
      have p0_1 := f1.keepc p0_0
      have p1_1 := f1.keepc p1_0
      have p2_1 := f1.keepc p2_0
      have p3_1 := f1.keepc p3_0
      have hlc1 := World.block_lt_of_cell? _ _ c0_1
      have hlp1 := World.block_lt_of_cell? _ _ p0_1
      clear f1 HF0 c0_0 c1_0 c2_0 c3_0 p0_0 p1_0 p2_0 p3_0
      go_wp2_with fail
      refine (K1.out _).mono ?_
      rintro e w2 ⟨rfl, f2⟩
      have HF2 := Lib.hid (HF1.out.noTrans f2)
      have c0_2 := f2.keepc c0_1
      have c1_2 := f2.keepc c1_1
      have c2_2 := f2.keepc c2_1
      have c3_2 := f2.keepc c3_1
      have p0_2 := f2.keepc p0_1
      have p1_2 := f2.keepc p1_1
      have p2_2 := f2.keepc p2_1
      have p3_2 := f2.keepc p3_1
      have hlc2 := World.block_lt_of_cell? _ _ c0_2
      have hlp2 := World.block_lt_of_cell? _ _ p0_2
      clear f2 HF1 c0_1 c1_1 c2_1 c3_1 p0_1 p1_1 p2_1 p3_1
      go_wp2_with fail
      refine (K2.out _).mono ?_
      rintro e w3 ⟨rfl, f3⟩
      have HF3 := Lib.hid (HF2.out.noTrans f3)
      have c0_3 := f3.keepc c0_2
      have c1_3 := f3.keepc c1_2
      have c2_3 := f3.keepc c2_2
      have c3_3 := f3.keepc c3_2
      have p0_3 := f3.keepc p0_2
      have p1_3 := f3.keepc p1_2
      have p2_3 := f3.keepc p2_2
      have p3_3 := f3.keepc p3_2
      have hlc3 := World.block_lt_of_cell? _ _ c0_3
      have hlp3 := World.block_lt_of_cell? _ _ p0_3
      clear f3 HF2 c0_2 c1_2 c2_2 c3_2 p0_2 p1_2 p2_2 p3_2
      go_wp2_with fail
      refine (K3.out _).mono ?_
      rintro e w4 ⟨rfl, f4⟩
      have HF4 := Lib.hid (HF3.out.noTrans f4)
      have c0_4 := f4.keepc c0_3
      have c1_4 := f4.keepc c1_3
      have c2_4 := f4.keepc c2_3
      have c3_4 := f4.keepc c3_3
      have p0_4 := f4.keepc p0_3
      have p1_4 := f4.keepc p1_3
      have p2_4 := f4.keepc p2_3
      have p3_4 := f4.keepc p3_3
      have hlc4 := World.block_lt_of_cell? _ _ c0_4
      have hlp4 := World.block_lt_of_cell? _ _ p0_4
      clear f4 HF3 c0_3 c1_3 c2_3 c3_3 p0_3 p1_3 p2_3 p3_3
      go_wp2_with fail
      refine (K4.out _).mono ?_
      rintro e w5 ⟨rfl, f5⟩
      have HF5 := Lib.hid (HF4.out.noTrans f5)
      have c0_5 := f5.keepc c0_4
      have c1_5 := f5.keepc c1_4
      have c2_5 := f5.keepc c2_4
      have c3_5 := f5.keepc c3_4
      have p0_5 := f5.keepc p0_4
      have p1_5 := f5.keepc p1_4
      have p2_5 := f5.keepc p2_4
      have p3_5 := f5.keepc p3_4
      have hlc5 := World.block_lt_of_cell? _ _ c0_5
      have hlp5 := World.block_lt_of_cell? _ _ p0_5
      clear f5 HF4 c0_4 c1_4 c2_4 c3_4 p0_4 p1_4 p2_4 p3_4
      go_wp2_with fail
      obtain ⟨w6, hw6, f6, n0_6, n1_6, n2_6, n3_6⟩ := box_sync w5 xo xd xs xc
      have HV6 := Lib.hid hw6
      rw [← HV6.out]
      have HF6 := Lib.hid (HF5.out.noTrans f6)
      have c0_6 := f6.keepc c0_5
      have c1_6 := f6.keepc c1_5
      have c2_6 := f6.keepc c2_5
      have c3_6 := f6.keepc c3_5
      have p0_6 := f6.keepc p0_5
      have p1_6 := f6.keepc p1_5
      have p2_6 := f6.keepc p2_5
      have p3_6 := f6.keepc p3_5
      clear f6 hw6 HF5 c0_5 c1_5 c2_5 c3_5 p0_5 p1_5 p2_5 p3_5
      refine (L1.out _).mono ?_
      rintro e w7 ⟨rfl, f7⟩
      have HF7 := Lib.hid (HF6.out.noTrans f7)
      have c0_7 := f7.keepc c0_6
      have c1_7 := f7.keepc c1_6
      have c2_7 := f7.keepc c2_6
      have c3_7 := f7.keepc c3_6
      have p0_7 := f7.keepc p0_6
      have p1_7 := f7.keepc p1_6
      have p2_7 := f7.keepc p2_6
      have p3_7 := f7.keepc p3_6
      have n0_7 := f7.keepc n0_6
      have n1_7 := f7.keepc n1_6
      have n2_7 := f7.keepc n2_6
      have n3_7 := f7.keepc n3_6
      have hlc7 := World.block_lt_of_cell? _ _ c0_7
      have hlp7 := World.block_lt_of_cell? _ _ p0_7
      clear f7 HF6 c0_6 c1_6 c2_6 c3_6 p0_6 p1_6 p2_6 p3_6 n0_6 n1_6 n2_6 n3_6
      go_wp2_with fail
      go_ret
      exact ⟨by first | rfl | (simp; done) | (simp; omega), HF7.out⟩

    · have hz2 : 0 < u := by omega
      obtain ⟨n1, n2⟩ := hN hz2
      obtain ⟨df, hdf⟩ : ∃ df, df = sh op dp u - (sl * 10000 + 2120) := ⟨_, rfl⟩
      rw [← hdf] at L2 HX HO
      have L3 := Lib.hid (fun w => acked_any oc dc sc cc sl df w)
      rw [(acked_0 (df := df) hkc hs).1, (acked_0 (df := df) hkc hs).2] at L3
      by_cases hc : coE oc dc sc cc sl df = 0
      · obtain ⟨h1, h2, h3, h4, h5⟩ := co_0 hc
        rw [hc, h2, h3, h4, h5, show z0 true (oc + df) = oc + df from rfl, show z0 true dc = dc from rfl, show z0 true sl = sl from rfl, show z0 true (cc + 1) = cc + 1 from rfl] at L3
        have L4 := Lib.hid (fun w => apart_any (oc + df) dc op dp u w)
        rw [(HX h1).1, (HX h1).2] at L4
        rw [HO] at L4
        obtain ⟨n, hn⟩ : ∃ n, n = sh op dp u - (sh oc dc u + df) := ⟨_, rfl⟩
        rw [← hn] at L4
        have hn3 : -1 ≤ n := by omega
        have hn4 : n ≤ 1 := by omega
        have L5 := Lib.hid (fun w => size_any n w (by omega) (by omega))
        have hz3 : sz n ≤ 1 := sz_le.2 ⟨by omega, by omega⟩
        obtain ⟨hz4, -⟩ := sz_bd (n := n) (by omega) (by omega)
        generalize sz n = z at *
        obtain ⟨⟨o1_, o2_⟩, -⟩ := okC_t.1 h1
        clear h1 h2 h3 h4 h5 HX HO hc hdf hn n1 n2 v1_ v2_
        obtain ⟨yo, hyo⟩ : ∃ yo, yo = oc + df := ⟨_, rfl⟩
        rw [← hyo] at L3
        rw [← hyo] at L4
        clear hyo
        go_enter Try.func5, Try.ntmps5
        go_wp2_with fail
        rw [← HW.out]
        refine (awake_any _).mono ?_
        rintro e w1 ⟨rfl, f1⟩
        have HF1 := Lib.hid (HF0.out.noTrans f1)
        have c0_1 := f1.keepc c0_0
        have c1_1 := f1.keepc c1_0
        have c2_1 := f1.keepc c2_0
        have c3_1 := f1.keepc c3_0
        have p0_1 := f1.keepc p0_0
        have p1_1 := f1.keepc p1_0
        have p2_1 := f1.keepc p2_0
        have p3_1 := f1.keepc p3_0
        have hlc1 := World.block_lt_of_cell? _ _ c0_1
        have hlp1 := World.block_lt_of_cell? _ _ p0_1
        clear f1 HF0 c0_0 c1_0 c2_0 c3_0 p0_0 p1_0 p2_0 p3_0
        go_wp2_with fail
        refine (K1.out _).mono ?_
        rintro e w2 ⟨rfl, f2⟩
        have HF2 := Lib.hid (HF1.out.noTrans f2)
        have c0_2 := f2.keepc c0_1
        have c1_2 := f2.keepc c1_1
        have c2_2 := f2.keepc c2_1
        have c3_2 := f2.keepc c3_1
        have p0_2 := f2.keepc p0_1
        have p1_2 := f2.keepc p1_1
        have p2_2 := f2.keepc p2_1
        have p3_2 := f2.keepc p3_1
        have hlc2 := World.block_lt_of_cell? _ _ c0_2
        have hlp2 := World.block_lt_of_cell? _ _ p0_2
        clear f2 HF1 c0_1 c1_1 c2_1 c3_1 p0_1 p1_1 p2_1 p3_1
        go_wp2_with fail
        refine (K2.out _).mono ?_
        rintro e w3 ⟨rfl, f3⟩
        have HF3 := Lib.hid (HF2.out.noTrans f3)
        have c0_3 := f3.keepc c0_2
        have c1_3 := f3.keepc c1_2
        have c2_3 := f3.keepc c2_2
        have c3_3 := f3.keepc c3_2
        have p0_3 := f3.keepc p0_2
        have p1_3 := f3.keepc p1_2
        have p2_3 := f3.keepc p2_2
        have p3_3 := f3.keepc p3_2
        have hlc3 := World.block_lt_of_cell? _ _ c0_3
        have hlp3 := World.block_lt_of_cell? _ _ p0_3
        clear f3 HF2 c0_2 c1_2 c2_2 c3_2 p0_2 p1_2 p2_2 p3_2
        go_wp2_with fail
        refine (K3.out _).mono ?_
        rintro e w4 ⟨rfl, f4⟩
        have HF4 := Lib.hid (HF3.out.noTrans f4)
        have c0_4 := f4.keepc c0_3
        have c1_4 := f4.keepc c1_3
        have c2_4 := f4.keepc c2_3
        have c3_4 := f4.keepc c3_3
        have p0_4 := f4.keepc p0_3
        have p1_4 := f4.keepc p1_3
        have p2_4 := f4.keepc p2_3
        have p3_4 := f4.keepc p3_3
        have hlc4 := World.block_lt_of_cell? _ _ c0_4
        have hlp4 := World.block_lt_of_cell? _ _ p0_4
        clear f4 HF3 c0_3 c1_3 c2_3 c3_3 p0_3 p1_3 p2_3 p3_3
        go_wp2_with fail
        refine (K4.out _).mono ?_
        rintro e w5 ⟨rfl, f5⟩
        have HF5 := Lib.hid (HF4.out.noTrans f5)
        have c0_5 := f5.keepc c0_4
        have c1_5 := f5.keepc c1_4
        have c2_5 := f5.keepc c2_4
        have c3_5 := f5.keepc c3_4
        have p0_5 := f5.keepc p0_4
        have p1_5 := f5.keepc p1_4
        have p2_5 := f5.keepc p2_4
        have p3_5 := f5.keepc p3_4
        have hlc5 := World.block_lt_of_cell? _ _ c0_5
        have hlp5 := World.block_lt_of_cell? _ _ p0_5
        clear f5 HF4 c0_4 c1_4 c2_4 c3_4 p0_4 p1_4 p2_4 p3_4
        go_wp2_with fail
        obtain ⟨w6, hw6, f6, n0_6, n1_6, n2_6, n3_6⟩ := box_sync w5 xo xd xs xc
        have HV6 := Lib.hid hw6
        rw [← HV6.out]
        have HF6 := Lib.hid (HF5.out.noTrans f6)
        have c0_6 := f6.keepc c0_5
        have c1_6 := f6.keepc c1_5
        have c2_6 := f6.keepc c2_5
        have c3_6 := f6.keepc c3_5
        have p0_6 := f6.keepc p0_5
        have p1_6 := f6.keepc p1_5
        have p2_6 := f6.keepc p2_5
        have p3_6 := f6.keepc p3_5
        clear f6 hw6 HF5 c0_5 c1_5 c2_5 c3_5 p0_5 p1_5 p2_5 p3_5
        refine (L1.out _).mono ?_
        rintro e w7 ⟨rfl, f7⟩
        have HF7 := Lib.hid (HF6.out.noTrans f7)
        have c0_7 := f7.keepc c0_6
        have c1_7 := f7.keepc c1_6
        have c2_7 := f7.keepc c2_6
        have c3_7 := f7.keepc c3_6
        have p0_7 := f7.keepc p0_6
        have p1_7 := f7.keepc p1_6
        have p2_7 := f7.keepc p2_6
        have p3_7 := f7.keepc p3_6
        have n0_7 := f7.keepc n0_6
        have n1_7 := f7.keepc n1_6
        have n2_7 := f7.keepc n2_6
        have n3_7 := f7.keepc n3_6
        have hlc7 := World.block_lt_of_cell? _ _ c0_7
        have hlp7 := World.block_lt_of_cell? _ _ p0_7
        clear f7 HF6 c0_6 c1_6 c2_6 c3_6 p0_6 p1_6 p2_6 p3_6 n0_6 n1_6 n2_6 n3_6
        go_wp2_with fail
        refine (L2.out _).mono ?_
        rintro e w8 ⟨rfl, f8⟩
        have HF8 := Lib.hid (HF7.out.noTrans f8)
        have c0_8 := f8.keepc c0_7
        have c1_8 := f8.keepc c1_7
        have c2_8 := f8.keepc c2_7
        have c3_8 := f8.keepc c3_7
        have p0_8 := f8.keepc p0_7
        have p1_8 := f8.keepc p1_7
        have p2_8 := f8.keepc p2_7
        have p3_8 := f8.keepc p3_7
        have n0_8 := f8.keepc n0_7
        have n1_8 := f8.keepc n1_7
        have n2_8 := f8.keepc n2_7
        have n3_8 := f8.keepc n3_7
        have hlc8 := World.block_lt_of_cell? _ _ c0_8
        have hlp8 := World.block_lt_of_cell? _ _ p0_8
        clear f8 HF7 c0_7 c1_7 c2_7 c3_7 p0_7 p1_7 p2_7 p3_7 n0_7 n1_7 n2_7 n3_7
        go_wp2_with fail
        refine (L3.out _).mono ?_
        rintro e w9 ⟨rfl, f9⟩
        have HF9 := Lib.hid (HF8.out.noTrans f9)
        have c0_9 := f9.keepc c0_8
        have c1_9 := f9.keepc c1_8
        have c2_9 := f9.keepc c2_8
        have c3_9 := f9.keepc c3_8
        have p0_9 := f9.keepc p0_8
        have p1_9 := f9.keepc p1_8
        have p2_9 := f9.keepc p2_8
        have p3_9 := f9.keepc p3_8
        have n0_9 := f9.keepc n0_8
        have n1_9 := f9.keepc n1_8
        have n2_9 := f9.keepc n2_8
        have n3_9 := f9.keepc n3_8
        have hlc9 := World.block_lt_of_cell? _ _ c0_9
        have hlp9 := World.block_lt_of_cell? _ _ p0_9
        clear f9 HF8 c0_8 c1_8 c2_8 c3_8 p0_8 p1_8 p2_8 p3_8 n0_8 n1_8 n2_8 n3_8
        go_wp2_with fail
        obtain ⟨w10, hw10, f10, m0_10, m1_10, m2_10, m3_10⟩ := box_sync w9 yo dc sl (cc + 1)
        have HV10 := Lib.hid hw10
        rw [← HV10.out]
        have HF10 := Lib.hid (HF9.out.noTrans f10)
        have c0_10 := f10.keepc c0_9
        have c1_10 := f10.keepc c1_9
        have c2_10 := f10.keepc c2_9
        have c3_10 := f10.keepc c3_9
        have p0_10 := f10.keepc p0_9
        have p1_10 := f10.keepc p1_9
        have p2_10 := f10.keepc p2_9
        have p3_10 := f10.keepc p3_9
        have n0_10 := f10.keepc n0_9
        have n1_10 := f10.keepc n1_9
        have n2_10 := f10.keepc n2_9
        have n3_10 := f10.keepc n3_9
        clear f10 hw10 HF9 c0_9 c1_9 c2_9 c3_9 p0_9 p1_9 p2_9 p3_9 n0_9 n1_9 n2_9 n3_9
        refine (L4.out _).mono ?_
        rintro e w11 ⟨rfl, f11⟩
        have HF11 := Lib.hid (HF10.out.noTrans f11)
        have c0_11 := f11.keepc c0_10
        have c1_11 := f11.keepc c1_10
        have c2_11 := f11.keepc c2_10
        have c3_11 := f11.keepc c3_10
        have p0_11 := f11.keepc p0_10
        have p1_11 := f11.keepc p1_10
        have p2_11 := f11.keepc p2_10
        have p3_11 := f11.keepc p3_10
        have n0_11 := f11.keepc n0_10
        have n1_11 := f11.keepc n1_10
        have n2_11 := f11.keepc n2_10
        have n3_11 := f11.keepc n3_10
        have m0_11 := f11.keepc m0_10
        have m1_11 := f11.keepc m1_10
        have m2_11 := f11.keepc m2_10
        have m3_11 := f11.keepc m3_10
        have hlc11 := World.block_lt_of_cell? _ _ c0_11
        have hlp11 := World.block_lt_of_cell? _ _ p0_11
        clear f11 HF10 c0_10 c1_10 c2_10 c3_10 p0_10 p1_10 p2_10 p3_10 n0_10 n1_10 n2_10 n3_10 m0_10 m1_10 m2_10 m3_10
        go_wp2_with fail
        refine (L5.out _).mono ?_
        rintro e w_ ⟨rfl, rfl⟩
        go_wp2_with fail
        go_ret
        exact ⟨by first | rfl | (simp; done) | (simp; omega), HF11.out⟩

      · generalize z0 true (coO oc dc sc cc sl df) = yo at *
        generalize z0 true (coD oc dc sc cc sl df) = yd at *
        generalize z0 true (coS oc dc sc cc sl df) = ys at *
        generalize z0 true (coC oc dc sc cc sl df) = yc at *
        generalize coE oc dc sc cc sl df = r at *
        have hr2 : (r == 0) = false := by simpa using hc
        have hr3 : decide (r = 0) = false := by simpa using hc
        clear HX HO hc hdf n1 n2
        go_enter Try.func5, Try.ntmps5
        go_wp2_with fail
        rw [← HW.out]
        refine (awake_any _).mono ?_
        rintro e w1 ⟨rfl, f1⟩
        have HF1 := Lib.hid (HF0.out.noTrans f1)
        have c0_1 := f1.keepc c0_0
        have c1_1 := f1.keepc c1_0
        have c2_1 := f1.keepc c2_0
        have c3_1 := f1.keepc c3_0
        have p0_1 := f1.keepc p0_0
        have p1_1 := f1.keepc p1_0
        have p2_1 := f1.keepc p2_0
        have p3_1 := f1.keepc p3_0
        have hlc1 := World.block_lt_of_cell? _ _ c0_1
        have hlp1 := World.block_lt_of_cell? _ _ p0_1
        clear f1 HF0 c0_0 c1_0 c2_0 c3_0 p0_0 p1_0 p2_0 p3_0
        go_wp2_with fail
        refine (K1.out _).mono ?_
        rintro e w2 ⟨rfl, f2⟩
        have HF2 := Lib.hid (HF1.out.noTrans f2)
        have c0_2 := f2.keepc c0_1
        have c1_2 := f2.keepc c1_1
        have c2_2 := f2.keepc c2_1
        have c3_2 := f2.keepc c3_1
        have p0_2 := f2.keepc p0_1
        have p1_2 := f2.keepc p1_1
        have p2_2 := f2.keepc p2_1
        have p3_2 := f2.keepc p3_1
        have hlc2 := World.block_lt_of_cell? _ _ c0_2
        have hlp2 := World.block_lt_of_cell? _ _ p0_2
        clear f2 HF1 c0_1 c1_1 c2_1 c3_1 p0_1 p1_1 p2_1 p3_1
        go_wp2_with fail
        refine (K2.out _).mono ?_
        rintro e w3 ⟨rfl, f3⟩
        have HF3 := Lib.hid (HF2.out.noTrans f3)
        have c0_3 := f3.keepc c0_2
        have c1_3 := f3.keepc c1_2
        have c2_3 := f3.keepc c2_2
        have c3_3 := f3.keepc c3_2
        have p0_3 := f3.keepc p0_2
        have p1_3 := f3.keepc p1_2
        have p2_3 := f3.keepc p2_2
        have p3_3 := f3.keepc p3_2
        have hlc3 := World.block_lt_of_cell? _ _ c0_3
        have hlp3 := World.block_lt_of_cell? _ _ p0_3
        clear f3 HF2 c0_2 c1_2 c2_2 c3_2 p0_2 p1_2 p2_2 p3_2
        go_wp2_with fail
        refine (K3.out _).mono ?_
        rintro e w4 ⟨rfl, f4⟩
        have HF4 := Lib.hid (HF3.out.noTrans f4)
        have c0_4 := f4.keepc c0_3
        have c1_4 := f4.keepc c1_3
        have c2_4 := f4.keepc c2_3
        have c3_4 := f4.keepc c3_3
        have p0_4 := f4.keepc p0_3
        have p1_4 := f4.keepc p1_3
        have p2_4 := f4.keepc p2_3
        have p3_4 := f4.keepc p3_3
        have hlc4 := World.block_lt_of_cell? _ _ c0_4
        have hlp4 := World.block_lt_of_cell? _ _ p0_4
        clear f4 HF3 c0_3 c1_3 c2_3 c3_3 p0_3 p1_3 p2_3 p3_3
        go_wp2_with fail
        refine (K4.out _).mono ?_
        rintro e w5 ⟨rfl, f5⟩
        have HF5 := Lib.hid (HF4.out.noTrans f5)
        have c0_5 := f5.keepc c0_4
        have c1_5 := f5.keepc c1_4
        have c2_5 := f5.keepc c2_4
        have c3_5 := f5.keepc c3_4
        have p0_5 := f5.keepc p0_4
        have p1_5 := f5.keepc p1_4
        have p2_5 := f5.keepc p2_4
        have p3_5 := f5.keepc p3_4
        have hlc5 := World.block_lt_of_cell? _ _ c0_5
        have hlp5 := World.block_lt_of_cell? _ _ p0_5
        clear f5 HF4 c0_4 c1_4 c2_4 c3_4 p0_4 p1_4 p2_4 p3_4
        go_wp2_with fail
        obtain ⟨w6, hw6, f6, n0_6, n1_6, n2_6, n3_6⟩ := box_sync w5 xo xd xs xc
        have HV6 := Lib.hid hw6
        rw [← HV6.out]
        have HF6 := Lib.hid (HF5.out.noTrans f6)
        have c0_6 := f6.keepc c0_5
        have c1_6 := f6.keepc c1_5
        have c2_6 := f6.keepc c2_5
        have c3_6 := f6.keepc c3_5
        have p0_6 := f6.keepc p0_5
        have p1_6 := f6.keepc p1_5
        have p2_6 := f6.keepc p2_5
        have p3_6 := f6.keepc p3_5
        clear f6 hw6 HF5 c0_5 c1_5 c2_5 c3_5 p0_5 p1_5 p2_5 p3_5
        refine (L1.out _).mono ?_
        rintro e w7 ⟨rfl, f7⟩
        have HF7 := Lib.hid (HF6.out.noTrans f7)
        have c0_7 := f7.keepc c0_6
        have c1_7 := f7.keepc c1_6
        have c2_7 := f7.keepc c2_6
        have c3_7 := f7.keepc c3_6
        have p0_7 := f7.keepc p0_6
        have p1_7 := f7.keepc p1_6
        have p2_7 := f7.keepc p2_6
        have p3_7 := f7.keepc p3_6
        have n0_7 := f7.keepc n0_6
        have n1_7 := f7.keepc n1_6
        have n2_7 := f7.keepc n2_6
        have n3_7 := f7.keepc n3_6
        have hlc7 := World.block_lt_of_cell? _ _ c0_7
        have hlp7 := World.block_lt_of_cell? _ _ p0_7
        clear f7 HF6 c0_6 c1_6 c2_6 c3_6 p0_6 p1_6 p2_6 p3_6 n0_6 n1_6 n2_6 n3_6
        go_wp2_with fail
        refine (L2.out _).mono ?_
        rintro e w8 ⟨rfl, f8⟩
        have HF8 := Lib.hid (HF7.out.noTrans f8)
        have c0_8 := f8.keepc c0_7
        have c1_8 := f8.keepc c1_7
        have c2_8 := f8.keepc c2_7
        have c3_8 := f8.keepc c3_7
        have p0_8 := f8.keepc p0_7
        have p1_8 := f8.keepc p1_7
        have p2_8 := f8.keepc p2_7
        have p3_8 := f8.keepc p3_7
        have n0_8 := f8.keepc n0_7
        have n1_8 := f8.keepc n1_7
        have n2_8 := f8.keepc n2_7
        have n3_8 := f8.keepc n3_7
        have hlc8 := World.block_lt_of_cell? _ _ c0_8
        have hlp8 := World.block_lt_of_cell? _ _ p0_8
        clear f8 HF7 c0_7 c1_7 c2_7 c3_7 p0_7 p1_7 p2_7 p3_7 n0_7 n1_7 n2_7 n3_7
        go_wp2_with fail
        refine (L3.out _).mono ?_
        rintro e w9 ⟨rfl, f9⟩
        have HF9 := Lib.hid (HF8.out.noTrans f9)
        have c0_9 := f9.keepc c0_8
        have c1_9 := f9.keepc c1_8
        have c2_9 := f9.keepc c2_8
        have c3_9 := f9.keepc c3_8
        have p0_9 := f9.keepc p0_8
        have p1_9 := f9.keepc p1_8
        have p2_9 := f9.keepc p2_8
        have p3_9 := f9.keepc p3_8
        have n0_9 := f9.keepc n0_8
        have n1_9 := f9.keepc n1_8
        have n2_9 := f9.keepc n2_8
        have n3_9 := f9.keepc n3_8
        have hlc9 := World.block_lt_of_cell? _ _ c0_9
        have hlp9 := World.block_lt_of_cell? _ _ p0_9
        clear f9 HF8 c0_8 c1_8 c2_8 c3_8 p0_8 p1_8 p2_8 p3_8 n0_8 n1_8 n2_8 n3_8
        go_wp2_with fail
        go_ret
        exact ⟨by first | rfl | (simp; done) | (simp; omega), HF9.out.alloc _⟩

  · generalize inE oc dc sl 2120 = r at *
    generalize inV oc dc sl 2120 = u at *
    have hr2 : (r == 0) = false := by simpa using hB
    have hr3 : decide (r = 0) = false := by simpa using hB
    go_enter Try.func5, Try.ntmps5
    go_wp2_with fail
    rw [← HW.out]
    refine (awake_any _).mono ?_
    rintro e w1 ⟨rfl, f1⟩
    have HF1 := Lib.hid (HF0.out.noTrans f1)
    have c0_1 := f1.keepc c0_0
    have c1_1 := f1.keepc c1_0
    have c2_1 := f1.keepc c2_0
    have c3_1 := f1.keepc c3_0
    have p0_1 := f1.keepc p0_0
    have p1_1 := f1.keepc p1_0
    have p2_1 := f1.keepc p2_0
    have p3_1 := f1.keepc p3_0
    have hlc1 := World.block_lt_of_cell? _ _ c0_1
    have hlp1 := World.block_lt_of_cell? _ _ p0_1
    clear f1 HF0 c0_0 c1_0 c2_0 c3_0 p0_0 p1_0 p2_0 p3_0
    go_wp2_with fail
    refine (K1.out _).mono ?_
    rintro e w2 ⟨rfl, f2⟩
    have HF2 := Lib.hid (HF1.out.noTrans f2)
    have c0_2 := f2.keepc c0_1
    have c1_2 := f2.keepc c1_1
    have c2_2 := f2.keepc c2_1
    have c3_2 := f2.keepc c3_1
    have p0_2 := f2.keepc p0_1
    have p1_2 := f2.keepc p1_1
    have p2_2 := f2.keepc p2_1
    have p3_2 := f2.keepc p3_1
    have hlc2 := World.block_lt_of_cell? _ _ c0_2
    have hlp2 := World.block_lt_of_cell? _ _ p0_2
    clear f2 HF1 c0_1 c1_1 c2_1 c3_1 p0_1 p1_1 p2_1 p3_1
    go_wp2_with fail
    refine (K2.out _).mono ?_
    rintro e w3 ⟨rfl, f3⟩
    have HF3 := Lib.hid (HF2.out.noTrans f3)
    have c0_3 := f3.keepc c0_2
    have c1_3 := f3.keepc c1_2
    have c2_3 := f3.keepc c2_2
    have c3_3 := f3.keepc c3_2
    have p0_3 := f3.keepc p0_2
    have p1_3 := f3.keepc p1_2
    have p2_3 := f3.keepc p2_2
    have p3_3 := f3.keepc p3_2
    have hlc3 := World.block_lt_of_cell? _ _ c0_3
    have hlp3 := World.block_lt_of_cell? _ _ p0_3
    clear f3 HF2 c0_2 c1_2 c2_2 c3_2 p0_2 p1_2 p2_2 p3_2
    go_wp2_with fail
    refine (K3.out _).mono ?_
    rintro e w4 ⟨rfl, f4⟩
    have HF4 := Lib.hid (HF3.out.noTrans f4)
    have c0_4 := f4.keepc c0_3
    have c1_4 := f4.keepc c1_3
    have c2_4 := f4.keepc c2_3
    have c3_4 := f4.keepc c3_3
    have p0_4 := f4.keepc p0_3
    have p1_4 := f4.keepc p1_3
    have p2_4 := f4.keepc p2_3
    have p3_4 := f4.keepc p3_3
    have hlc4 := World.block_lt_of_cell? _ _ c0_4
    have hlp4 := World.block_lt_of_cell? _ _ p0_4
    clear f4 HF3 c0_3 c1_3 c2_3 c3_3 p0_3 p1_3 p2_3 p3_3
    go_wp2_with fail
    refine (K4.out _).mono ?_
    rintro e w5 ⟨rfl, f5⟩
    have HF5 := Lib.hid (HF4.out.noTrans f5)
    have c0_5 := f5.keepc c0_4
    have c1_5 := f5.keepc c1_4
    have c2_5 := f5.keepc c2_4
    have c3_5 := f5.keepc c3_4
    have p0_5 := f5.keepc p0_4
    have p1_5 := f5.keepc p1_4
    have p2_5 := f5.keepc p2_4
    have p3_5 := f5.keepc p3_4
    have hlc5 := World.block_lt_of_cell? _ _ c0_5
    have hlp5 := World.block_lt_of_cell? _ _ p0_5
    clear f5 HF4 c0_4 c1_4 c2_4 c3_4 p0_4 p1_4 p2_4 p3_4
    go_wp2_with fail
    obtain ⟨w6, hw6, f6, n0_6, n1_6, n2_6, n3_6⟩ := box_sync w5 xo xd xs xc
    have HV6 := Lib.hid hw6
    rw [← HV6.out]
    have HF6 := Lib.hid (HF5.out.noTrans f6)
    have c0_6 := f6.keepc c0_5
    have c1_6 := f6.keepc c1_5
    have c2_6 := f6.keepc c2_5
    have c3_6 := f6.keepc c3_5
    have p0_6 := f6.keepc p0_5
    have p1_6 := f6.keepc p1_5
    have p2_6 := f6.keepc p2_5
    have p3_6 := f6.keepc p3_5
    clear f6 hw6 HF5 c0_5 c1_5 c2_5 c3_5 p0_5 p1_5 p2_5 p3_5
    refine (L1.out _).mono ?_
    rintro e w7 ⟨rfl, f7⟩
    have HF7 := Lib.hid (HF6.out.noTrans f7)
    have c0_7 := f7.keepc c0_6
    have c1_7 := f7.keepc c1_6
    have c2_7 := f7.keepc c2_6
    have c3_7 := f7.keepc c3_6
    have p0_7 := f7.keepc p0_6
    have p1_7 := f7.keepc p1_6
    have p2_7 := f7.keepc p2_6
    have p3_7 := f7.keepc p3_6
    have n0_7 := f7.keepc n0_6
    have n1_7 := f7.keepc n1_6
    have n2_7 := f7.keepc n2_6
    have n3_7 := f7.keepc n3_6
    have hlc7 := World.block_lt_of_cell? _ _ c0_7
    have hlp7 := World.block_lt_of_cell? _ _ p0_7
    clear f7 HF6 c0_6 c1_6 c2_6 c3_6 p0_6 p1_6 p2_6 p3_6 n0_6 n1_6 n2_6 n3_6
    go_wp2_with fail
    go_ret
    exact ⟨by first | rfl | (simp; done) | (simp; omega), HF7.out⟩

end Go.Proofs.Ytmkmefcafpgphaa
