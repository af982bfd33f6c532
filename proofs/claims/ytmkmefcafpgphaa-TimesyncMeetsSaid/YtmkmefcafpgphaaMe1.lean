/- Meets: nothing is heard. -/
import Derived.Test.YtmkmefcafpgphaaMee
namespace Go.Proofs.Ytmkmefcafpgphaa
set_option linter.unusedVariables false
open Go.RowKit

set_option maxRecDepth 20000 in
set_option maxHeartbeats 8000000 in
theorem meets_no (oc dc sc cc op dp sp cp sl : Int) (w : World) (hkc : okS oc dc sc cc = true) (hkp : okS op dp sp cp = true) (h : inE op dp sl 2120 ≠ 0) : Calls Try.prog 5 #[.agg #[.int .i64 oc, .int .i64 dc, .int .i64 sc, .int .i64 cc], .agg #[.int .i64 op, .int .i64 dp, .int .i64 sp, .int .i64 cp], .int .i64 sl] w fun e w' => e = .returned (.bool true) ∧ Fr no w w' := by
  obtain ⟨W, hW, hF, ⟨c0_0, c1_0, c2_0, c3_0⟩, ⟨p0_0, p1_0, p2_0, p3_0⟩⟩ := two_sync w oc dc sc cc op dp sp cp
  have HW := Lib.hid hW
  have HF0 := Lib.hid hF
  clear hW hF
  have K1 := Lib.hid (fun w => ckS_any oc dc sc cc w)
  have K2 := Lib.hid (fun w => ckS_any op dp sp cp w)
  rw [ckS_0 hkc] at K1
  rw [ckS_0 hkp] at K2
  obtain ⟨kp, -⟩ := okS_t hkp
  obtain ⟨kc', q2⟩ := okS_t hkc
  have cc0 : 0 ≤ cc := by omega
  have cc1 : cc ≤ 4096 := by omega
  clear q2
  have K3 := Lib.hid (fun w => send_any op dp sl w)
  generalize inE op dp sl 2120 = rA at *
  generalize inV op dp sl 2120 = vA at *
  have hA2 : (rA == 0) = false := by simpa using h
  have hA3 : decide (rA = 0) = false := by simpa using h
  have L1 := Lib.hid (fun w => send_any oc dc sl w)
  by_cases hB : inE oc dc sl 2120 = 0
  · obtain ⟨-, kc, ⟨s0, s1⟩, -, ⟨u0, u1⟩, -⟩ := in_ok hB
    have hu : isT (inV oc dc sl 2120) = true := isT_t.2 ⟨u0, u1⟩
    have hs : isS sl = true := isS_t.2 ⟨s0, s1⟩
    have hN := near hB
    rw [hB] at L1
    have L2 := Lib.hid (fun w => measure_any op dp sl (inV oc dc sl 2120) w)
    rw [(me_0 kp hs hu).1, (me_0 kp hs hu).2] at L2
    obtain ⟨v1_, v2_⟩ := fl_bd2 (OkC.of kp) u0 u1
    have HX := fun h1 : okC (oc + (sh op dp (inV oc dc sl 2120) - (sl * 10000 + 2120))) dc = true => ap_0 h1 kp hu
    have HO := @sh_off oc dc (inV oc dc sl 2120) (sh op dp (inV oc dc sl 2120) - (sl * 10000 + 2120))
    generalize inV oc dc sl 2120 = u at *
    clear hB hu
    by_cases hz : u = 0
    · subst hz
      clear hN HX HO
      go_enter Try.func5, Try.ntmps5
      go_wp2_with fail
      rw [← HW.out]
      refine (awake_any _).mono ?_
      rintro e w1 ⟨rfl, f1⟩
      have HF1 := Lib.hid (HF0.out.noTrans f1)
      have c0_1 := f1.keepc c0_0
      have c1_1 := f1.keepc c1_0
      have c2_1 := f1.keepc c2_0
      have c3_1 := f1.keepc c3_0
      have p0_1 := f1.keepc p0_0
      have p1_1 := f1.keepc p1_0
      have p2_1 := f1.keepc p2_0
      have p3_1 := f1.keepc p3_0
      have hlc1 := World.block_lt_of_cell? _ _ c0_1
      have hlp1 := World.block_lt_of_cell? _ _ p0_1
      clear f1 HF0 c0_0 c1_0 c2_0 c3_0 p0_0 p1_0 p2_0 p3_0
      go_wp2_with fail
      refine (K1.out _).mono ?_
      rintro e w2 ⟨rfl, f2⟩
      have HF2 := Lib.hid (HF1.out.noTrans f2)
      have c0_2 := f2.keepc c0_1
      have c1_2 := f2.keepc c1_1
      have c2_2 := f2.keepc c2_1
      have c3_2 := f2.keepc c3_1
      have p0_2 := f2.keepc p0_1
      have p1_2 := f2.keepc p1_1
      have p2_2 := f2.keepc p2_1
      have p3_2 := f2.keepc p3_1
      have hlc2 := World.block_lt_of_cell? _ _ c0_2
      have hlp2 := World.block_lt_of_cell? _ _ p0_2
      clear f2 HF1 c0_1 c1_1 c2_1 c3_1 p0_1 p1_1 p2_1 p3_1
      go_wp2_with fail
      refine (K2.out _).mono ?_
      rintro e w3 ⟨rfl, f3⟩
      have HF3 := Lib.hid (HF2.out.noTrans f3)
      have c0_3 := f3.keepc c0_2
      have c1_3 := f3.keepc c1_2
      have c2_3 := f3.keepc c2_2
      have c3_3 := f3.keepc c3_2
      have p0_3 := f3.keepc p0_2
      have p1_3 := f3.keepc p1_2
      have p2_3 := f3.keepc p2_2
      have p3_3 := f3.keepc p3_2
      have hlc3 := World.block_lt_of_cell? _ _ c0_3
      have hlp3 := World.block_lt_of_cell? _ _ p0_3
      clear f3 HF2 c0_2 c1_2 c2_2 c3_2 p0_2 p1_2 p2_2 p3_2
      go_wp2_with fail
      refine (K3.out _).mono ?_
      rintro e w4 ⟨rfl, f4⟩
      have HF4 := Lib.hid (HF3.out.noTrans f4)
      have c0_4 := f4.keepc c0_3
      have c1_4 := f4.keepc c1_3
      have c2_4 := f4.keepc c2_3
      have c3_4 := f4.keepc c3_3
      have p0_4 := f4.keepc p0_3
      have p1_4 := f4.keepc p1_3
      have p2_4 := f4.keepc p2_3
      have p3_4 := f4.keepc p3_3
      have hlc4 := World.block_lt_of_cell? _ _ c0_4
      have hlp4 := World.block_lt_of_cell? _ _ p0_4
      clear f4 HF3 c0_3 c1_3 c2_3 c3_3 p0_3 p1_3 p2_3 p3_3
      go_wp2_with fail
      refine (L1.out _).mono ?_
      rintro e w5 ⟨rfl, f5⟩
      have HF5 := Lib.hid (HF4.out.noTrans f5)
      have c0_5 := f5.keepc c0_4
      have c1_5 := f5.keepc c1_4
      have c2_5 := f5.keepc c2_4
      have c3_5 := f5.keepc c3_4
      have p0_5 := f5.keepc p0_4
      have p1_5 := f5.keepc p1_4
      have p2_5 := f5.keepc p2_4
      have p3_5 := f5.keepc p3_4
      have hlc5 := World.block_lt_of_cell? _ _ c0_5
      have hlp5 := World.block_lt_of_cell? _ _ p0_5
      clear f5 HF4 c0_4 c1_4 c2_4 c3_4 p0_4 p1_4 p2_4 p3_4
      go_wp2_with fail
      go_ret
      exact ⟨by first | rfl | (simp; done) | (simp; omega), HF5.out⟩

    · have hz2 : 0 < u := by omega
      obtain ⟨n1, n2⟩ := hN hz2
      obtain ⟨df, hdf⟩ : ∃ df, df = sh op dp u - (sl * 10000 + 2120) := ⟨_, rfl⟩
      rw [← hdf] at L2 HX HO
      have L3 := Lib.hid (fun w => acked_any oc dc sc cc sl df w)
      rw [(acked_0 (df := df) hkc hs).1, (acked_0 (df := df) hkc hs).2] at L3
      by_cases hc : coE oc dc sc cc sl df = 0
      · obtain ⟨h1, h2, h3, h4, h5⟩ := co_0 hc
        rw [hc, h2, h3, h4, h5, show z0 true (oc + df) = oc + df from rfl, show z0 true dc = dc from rfl, show z0 true sl = sl from rfl, show z0 true (cc + 1) = cc + 1 from rfl] at L3
        have L4 := Lib.hid (fun w => apart_any (oc + df) dc op dp u w)
        rw [(HX h1).1, (HX h1).2] at L4
        rw [HO] at L4
        obtain ⟨n, hn⟩ : ∃ n, n = sh op dp u - (sh oc dc u + df) := ⟨_, rfl⟩
        rw [← hn] at L4
        have hn3 : -1 ≤ n := by omega
        have hn4 : n ≤ 1 := by omega
        have L5 := Lib.hid (fun w => size_any n w (by omega) (by omega))
        have hz3 : sz n ≤ 1 := sz_le.2 ⟨by omega, by omega⟩
        obtain ⟨hz4, -⟩ := sz_bd (n := n) (by omega) (by omega)
        generalize sz n = z at *
        obtain ⟨⟨o1_, o2_⟩, -⟩ := okC_t.1 h1
        clear h1 h2 h3 h4 h5 HX HO hc hdf hn n1 n2 v1_ v2_
        obtain ⟨yo, hyo⟩ : ∃ yo, yo = oc + df := ⟨_, rfl⟩
        rw [← hyo] at L3
        rw [← hyo] at L4
        clear hyo
        go_enter Try.func5, Try.ntmps5
        go_wp2_with fail
        rw [← HW.out]
        refine (awake_any _).mono ?_
        rintro e w1 ⟨rfl, f1⟩
        have HF1 := Lib.hid (HF0.out.noTrans f1)
        have c0_1 := f1.keepc c0_0
        have c1_1 := f1.keepc c1_0
        have c2_1 := f1.keepc c2_0
        have c3_1 := f1.keepc c3_0
        have p0_1 := f1.keepc p0_0
        have p1_1 := f1.keepc p1_0
        have p2_1 := f1.keepc p2_0
        have p3_1 := f1.keepc p3_0
        have hlc1 := World.block_lt_of_cell? _ _ c0_1
        have hlp1 := World.block_lt_of_cell? _ _ p0_1
        clear f1 HF0 c0_0 c1_0 c2_0 c3_0 p0_0 p1_0 p2_0 p3_0
        go_wp2_with fail
        refine (K1.out _).mono ?_
        rintro e w2 ⟨rfl, f2⟩
        have HF2 := Lib.hid (HF1.out.noTrans f2)
        have c0_2 := f2.keepc c0_1
        have c1_2 := f2.keepc c1_1
        have c2_2 := f2.keepc c2_1
        have c3_2 := f2.keepc c3_1
        have p0_2 := f2.keepc p0_1
        have p1_2 := f2.keepc p1_1
        have p2_2 := f2.keepc p2_1
        have p3_2 := f2.keepc p3_1
        have hlc2 := World.block_lt_of_cell? _ _ c0_2
        have hlp2 := World.block_lt_of_cell? _ _ p0_2
        clear f2 HF1 c0_1 c1_1 c2_1 c3_1 p0_1 p1_1 p2_1 p3_1
        go_wp2_with fail
        refine (K2.out _).mono ?_
        rintro e w3 ⟨rfl, f3⟩
        have HF3 := Lib.hid (HF2.out.noTrans f3)
        have c0_3 := f3.keepc c0_2
        have c1_3 := f3.keepc c1_2
        have c2_3 := f3.keepc c2_2
        have c3_3 := f3.keepc c3_2
        have p0_3 := f3.keepc p0_2
        have p1_3 := f3.keepc p1_2
        have p2_3 := f3.keepc p2_2
        have p3_3 := f3.keepc p3_2
        have hlc3 := World.block_lt_of_cell? _ _ c0_3
        have hlp3 := World.block_lt_of_cell? _ _ p0_3
        clear f3 HF2 c0_2 c1_2 c2_2 c3_2 p0_2 p1_2 p2_2 p3_2
        go_wp2_with fail
        refine (K3.out _).mono ?_
        rintro e w4 ⟨rfl, f4⟩
        have HF4 := Lib.hid (HF3.out.noTrans f4)
        have c0_4 := f4.keepc c0_3
        have c1_4 := f4.keepc c1_3
        have c2_4 := f4.keepc c2_3
        have c3_4 := f4.keepc c3_3
        have p0_4 := f4.keepc p0_3
        have p1_4 := f4.keepc p1_3
        have p2_4 := f4.keepc p2_3
        have p3_4 := f4.keepc p3_3
        have hlc4 := World.block_lt_of_cell? _ _ c0_4
        have hlp4 := World.block_lt_of_cell? _ _ p0_4
        clear f4 HF3 c0_3 c1_3 c2_3 c3_3 p0_3 p1_3 p2_3 p3_3
        go_wp2_with fail
        refine (L1.out _).mono ?_
        rintro e w5 ⟨rfl, f5⟩
        have HF5 := Lib.hid (HF4.out.noTrans f5)
        have c0_5 := f5.keepc c0_4
        have c1_5 := f5.keepc c1_4
        have c2_5 := f5.keepc c2_4
        have c3_5 := f5.keepc c3_4
        have p0_5 := f5.keepc p0_4
        have p1_5 := f5.keepc p1_4
        have p2_5 := f5.keepc p2_4
        have p3_5 := f5.keepc p3_4
        have hlc5 := World.block_lt_of_cell? _ _ c0_5
        have hlp5 := World.block_lt_of_cell? _ _ p0_5
        clear f5 HF4 c0_4 c1_4 c2_4 c3_4 p0_4 p1_4 p2_4 p3_4
        go_wp2_with fail
        refine (L2.out _).mono ?_
        rintro e w6 ⟨rfl, f6⟩
        have HF6 := Lib.hid (HF5.out.noTrans f6)
        have c0_6 := f6.keepc c0_5
        have c1_6 := f6.keepc c1_5
        have c2_6 := f6.keepc c2_5
        have c3_6 := f6.keepc c3_5
        have p0_6 := f6.keepc p0_5
        have p1_6 := f6.keepc p1_5
        have p2_6 := f6.keepc p2_5
        have p3_6 := f6.keepc p3_5
        have hlc6 := World.block_lt_of_cell? _ _ c0_6
        have hlp6 := World.block_lt_of_cell? _ _ p0_6
        clear f6 HF5 c0_5 c1_5 c2_5 c3_5 p0_5 p1_5 p2_5 p3_5
        go_wp2_with fail
        refine (L3.out _).mono ?_
        rintro e w7 ⟨rfl, f7⟩
        have HF7 := Lib.hid (HF6.out.noTrans f7)
        have c0_7 := f7.keepc c0_6
        have c1_7 := f7.keepc c1_6
        have c2_7 := f7.keepc c2_6
        have c3_7 := f7.keepc c3_6
        have p0_7 := f7.keepc p0_6
        have p1_7 := f7.keepc p1_6
        have p2_7 := f7.keepc p2_6
        have p3_7 := f7.keepc p3_6
        have hlc7 := World.block_lt_of_cell? _ _ c0_7
        have hlp7 := World.block_lt_of_cell? _ _ p0_7
        clear f7 HF6 c0_6 c1_6 c2_6 c3_6 p0_6 p1_6 p2_6 p3_6
        go_wp2_with fail
        obtain ⟨w8, hw8, f8, m0_8, m1_8, m2_8, m3_8⟩ := box_sync w7 yo dc sl (cc + 1)
        have HV8 := Lib.hid hw8
        rw [← HV8.out]
        have HF8 := Lib.hid (HF7.out.noTrans f8)
        have c0_8 := f8.keepc c0_7
        have c1_8 := f8.keepc c1_7
        have c2_8 := f8.keepc c2_7
        have c3_8 := f8.keepc c3_7
        have p0_8 := f8.keepc p0_7
        have p1_8 := f8.keepc p1_7
        have p2_8 := f8.keepc p2_7
        have p3_8 := f8.keepc p3_7
        clear f8 hw8 HF7 c0_7 c1_7 c2_7 c3_7 p0_7 p1_7 p2_7 p3_7
        refine (L4.out _).mono ?_
        rintro e w9 ⟨rfl, f9⟩
        have HF9 := Lib.hid (HF8.out.noTrans f9)
        have c0_9 := f9.keepc c0_8
        have c1_9 := f9.keepc c1_8
        have c2_9 := f9.keepc c2_8
        have c3_9 := f9.keepc c3_8
        have p0_9 := f9.keepc p0_8
        have p1_9 := f9.keepc p1_8
        have p2_9 := f9.keepc p2_8
        have p3_9 := f9.keepc p3_8
        have m0_9 := f9.keepc m0_8
        have m1_9 := f9.keepc m1_8
        have m2_9 := f9.keepc m2_8
        have m3_9 := f9.keepc m3_8
        have hlc9 := World.block_lt_of_cell? _ _ c0_9
        have hlp9 := World.block_lt_of_cell? _ _ p0_9
        clear f9 HF8 c0_8 c1_8 c2_8 c3_8 p0_8 p1_8 p2_8 p3_8 m0_8 m1_8 m2_8 m3_8
        go_wp2_with fail
        refine (L5.out _).mono ?_
        rintro e w_ ⟨rfl, rfl⟩
        go_wp2_with fail
        go_ret
        exact ⟨by first | rfl | (simp; done) | (simp; omega), HF9.out⟩

      · generalize z0 true (coO oc dc sc cc sl df) = yo at *
        generalize z0 true (coD oc dc sc cc sl df) = yd at *
        generalize z0 true (coS oc dc sc cc sl df) = ys at *
        generalize z0 true (coC oc dc sc cc sl df) = yc at *
        generalize coE oc dc sc cc sl df = r at *
        have hr2 : (r == 0) = false := by simpa using hc
        have hr3 : decide (r = 0) = false := by simpa using hc
        clear HX HO hc hdf n1 n2
        go_enter Try.func5, Try.ntmps5
        go_wp2_with fail
        rw [← HW.out]
        refine (awake_any _).mono ?_
        rintro e w1 ⟨rfl, f1⟩
        have HF1 := Lib.hid (HF0.out.noTrans f1)
        have c0_1 := f1.keepc c0_0
        have c1_1 := f1.keepc c1_0
        have c2_1 := f1.keepc c2_0
        have c3_1 := f1.keepc c3_0
        have p0_1 := f1.keepc p0_0
        have p1_1 := f1.keepc p1_0
        have p2_1 := f1.keepc p2_0
        have p3_1 := f1.keepc p3_0
        have hlc1 := World.block_lt_of_cell? _ _ c0_1
        have hlp1 := World.block_lt_of_cell? _ _ p0_1
        clear f1 HF0 c0_0 c1_0 c2_0 c3_0 p0_0 p1_0 p2_0 p3_0
        go_wp2_with fail
        refine (K1.out _).mono ?_
        rintro e w2 ⟨rfl, f2⟩
        have HF2 := Lib.hid (HF1.out.noTrans f2)
        have c0_2 := f2.keepc c0_1
        have c1_2 := f2.keepc c1_1
        have c2_2 := f2.keepc c2_1
        have c3_2 := f2.keepc c3_1
        have p0_2 := f2.keepc p0_1
        have p1_2 := f2.keepc p1_1
        have p2_2 := f2.keepc p2_1
        have p3_2 := f2.keepc p3_1
        have hlc2 := World.block_lt_of_cell? _ _ c0_2
        have hlp2 := World.block_lt_of_cell? _ _ p0_2
        clear f2 HF1 c0_1 c1_1 c2_1 c3_1 p0_1 p1_1 p2_1 p3_1
        go_wp2_with fail
        refine (K2.out _).mono ?_
        rintro e w3 ⟨rfl, f3⟩
        have HF3 := Lib.hid (HF2.out.noTrans f3)
        have c0_3 := f3.keepc c0_2
        have c1_3 := f3.keepc c1_2
        have c2_3 := f3.keepc c2_2
        have c3_3 := f3.keepc c3_2
        have p0_3 := f3.keepc p0_2
        have p1_3 := f3.keepc p1_2
        have p2_3 := f3.keepc p2_2
        have p3_3 := f3.keepc p3_2
        have hlc3 := World.block_lt_of_cell? _ _ c0_3
        have hlp3 := World.block_lt_of_cell? _ _ p0_3
        clear f3 HF2 c0_2 c1_2 c2_2 c3_2 p0_2 p1_2 p2_2 p3_2
        go_wp2_with fail
        refine (K3.out _).mono ?_
        rintro e w4 ⟨rfl, f4⟩
        have HF4 := Lib.hid (HF3.out.noTrans f4)
        have c0_4 := f4.keepc c0_3
        have c1_4 := f4.keepc c1_3
        have c2_4 := f4.keepc c2_3
        have c3_4 := f4.keepc c3_3
        have p0_4 := f4.keepc p0_3
        have p1_4 := f4.keepc p1_3
        have p2_4 := f4.keepc p2_3
        have p3_4 := f4.keepc p3_3
        have hlc4 := World.block_lt_of_cell? _ _ c0_4
        have hlp4 := World.block_lt_of_cell? _ _ p0_4
        clear f4 HF3 c0_3 c1_3 c2_3 c3_3 p0_3 p1_3 p2_3 p3_3
        go_wp2_with fail
        refine (L1.out _).mono ?_
        rintro e w5 ⟨rfl, f5⟩
        have HF5 := Lib.hid (HF4.out.noTrans f5)
        have c0_5 := f5.keepc c0_4
        have c1_5 := f5.keepc c1_4
        have c2_5 := f5.keepc c2_4
        have c3_5 := f5.keepc c3_4
        have p0_5 := f5.keepc p0_4
        have p1_5 := f5.keepc p1_4
        have p2_5 := f5.keepc p2_4
        have p3_5 := f5.keepc p3_4
        have hlc5 := World.block_lt_of_cell? _ _ c0_5
        have hlp5 := World.block_lt_of_cell? _ _ p0_5
        clear f5 HF4 c0_4 c1_4 c2_4 c3_4 p0_4 p1_4 p2_4 p3_4
        go_wp2_with fail
        refine (L2.out _).mono ?_
        rintro e w6 ⟨rfl, f6⟩
        have HF6 := Lib.hid (HF5.out.noTrans f6)
        have c0_6 := f6.keepc c0_5
        have c1_6 := f6.keepc c1_5
        have c2_6 := f6.keepc c2_5
        have c3_6 := f6.keepc c3_5
        have p0_6 := f6.keepc p0_5
        have p1_6 := f6.keepc p1_5
        have p2_6 := f6.keepc p2_5
        have p3_6 := f6.keepc p3_5
        have hlc6 := World.block_lt_of_cell? _ _ c0_6
        have hlp6 := World.block_lt_of_cell? _ _ p0_6
        clear f6 HF5 c0_5 c1_5 c2_5 c3_5 p0_5 p1_5 p2_5 p3_5
        go_wp2_with fail
        refine (L3.out _).mono ?_
        rintro e w7 ⟨rfl, f7⟩
        have HF7 := Lib.hid (HF6.out.noTrans f7)
        have c0_7 := f7.keepc c0_6
        have c1_7 := f7.keepc c1_6
        have c2_7 := f7.keepc c2_6
        have c3_7 := f7.keepc c3_6
        have p0_7 := f7.keepc p0_6
        have p1_7 := f7.keepc p1_6
        have p2_7 := f7.keepc p2_6
        have p3_7 := f7.keepc p3_6
        have hlc7 := World.block_lt_of_cell? _ _ c0_7
        have hlp7 := World.block_lt_of_cell? _ _ p0_7
        clear f7 HF6 c0_6 c1_6 c2_6 c3_6 p0_6 p1_6 p2_6 p3_6
        go_wp2_with fail
        go_ret
        exact ⟨by first | rfl | (simp; done) | (simp; omega), HF7.out.alloc _⟩

  · generalize inE oc dc sl 2120 = r at *
    generalize inV oc dc sl 2120 = u at *
    have hr2 : (r == 0) = false := by simpa using hB
    have hr3 : decide (r = 0) = false := by simpa using hB
    go_enter Try.func5, Try.ntmps5
    go_wp2_with fail
    rw [← HW.out]
    refine (awake_any _).mono ?_
    rintro e w1 ⟨rfl, f1⟩
    have HF1 := Lib.hid (HF0.out.noTrans f1)
    have c0_1 := f1.keepc c0_0
    have c1_1 := f1.keepc c1_0
    have c2_1 := f1.keepc c2_0
    have c3_1 := f1.keepc c3_0
    have p0_1 := f1.keepc p0_0
    have p1_1 := f1.keepc p1_0
    have p2_1 := f1.keepc p2_0
    have p3_1 := f1.keepc p3_0
    have hlc1 := World.block_lt_of_cell? _ _ c0_1
    have hlp1 := World.block_lt_of_cell? _ _ p0_1
    clear f1 HF0 c0_0 c1_0 c2_0 c3_0 p0_0 p1_0 p2_0 p3_0
    go_wp2_with fail
    refine (K1.out _).mono ?_
    rintro e w2 ⟨rfl, f2⟩
    have HF2 := Lib.hid (HF1.out.noTrans f2)
    have c0_2 := f2.keepc c0_1
    have c1_2 := f2.keepc c1_1
    have c2_2 := f2.keepc c2_1
    have c3_2 := f2.keepc c3_1
    have p0_2 := f2.keepc p0_1
    have p1_2 := f2.keepc p1_1
    have p2_2 := f2.keepc p2_1
    have p3_2 := f2.keepc p3_1
    have hlc2 := World.block_lt_of_cell? _ _ c0_2
    have hlp2 := World.block_lt_of_cell? _ _ p0_2
    clear f2 HF1 c0_1 c1_1 c2_1 c3_1 p0_1 p1_1 p2_1 p3_1
    go_wp2_with fail
    refine (K2.out _).mono ?_
    rintro e w3 ⟨rfl, f3⟩
    have HF3 := Lib.hid (HF2.out.noTrans f3)
    have c0_3 := f3.keepc c0_2
    have c1_3 := f3.keepc c1_2
    have c2_3 := f3.keepc c2_2
    have c3_3 := f3.keepc c3_2
    have p0_3 := f3.keepc p0_2
    have p1_3 := f3.keepc p1_2
    have p2_3 := f3.keepc p2_2
    have p3_3 := f3.keepc p3_2
    have hlc3 := World.block_lt_of_cell? _ _ c0_3
    have hlp3 := World.block_lt_of_cell? _ _ p0_3
    clear f3 HF2 c0_2 c1_2 c2_2 c3_2 p0_2 p1_2 p2_2 p3_2
    go_wp2_with fail
    refine (K3.out _).mono ?_
    rintro e w4 ⟨rfl, f4⟩
    have HF4 := Lib.hid (HF3.out.noTrans f4)
    have c0_4 := f4.keepc c0_3
    have c1_4 := f4.keepc c1_3
    have c2_4 := f4.keepc c2_3
    have c3_4 := f4.keepc c3_3
    have p0_4 := f4.keepc p0_3
    have p1_4 := f4.keepc p1_3
    have p2_4 := f4.keepc p2_3
    have p3_4 := f4.keepc p3_3
    have hlc4 := World.block_lt_of_cell? _ _ c0_4
    have hlp4 := World.block_lt_of_cell? _ _ p0_4
    clear f4 HF3 c0_3 c1_3 c2_3 c3_3 p0_3 p1_3 p2_3 p3_3
    go_wp2_with fail
    refine (L1.out _).mono ?_
    rintro e w5 ⟨rfl, f5⟩
    have HF5 := Lib.hid (HF4.out.noTrans f5)
    have c0_5 := f5.keepc c0_4
    have c1_5 := f5.keepc c1_4
    have c2_5 := f5.keepc c2_4
    have c3_5 := f5.keepc c3_4
    have p0_5 := f5.keepc p0_4
    have p1_5 := f5.keepc p1_4
    have p2_5 := f5.keepc p2_4
    have p3_5 := f5.keepc p3_4
    have hlc5 := World.block_lt_of_cell? _ _ c0_5
    have hlp5 := World.block_lt_of_cell? _ _ p0_5
    clear f5 HF4 c0_4 c1_4 c2_4 c3_4 p0_4 p1_4 p2_4 p3_4
    go_wp2_with fail
    go_ret
    exact ⟨by first | rfl | (simp; done) | (simp; omega), HF5.out⟩

set_option maxRecDepth 20000 in
set_option maxHeartbeats 8000000 in
theorem meets_zero (oc dc sc cc op dp sp cp sl : Int) (w : World) (hkc : okS oc dc sc cc = true) (hkp : okS op dp sp cp = true) (h : inE op dp sl 2120 = 0) (h2 : inV op dp sl 2120 = 0) : Calls Try.prog 5 #[.agg #[.int .i64 oc, .int .i64 dc, .int .i64 sc, .int .i64 cc], .agg #[.int .i64 op, .int .i64 dp, .int .i64 sp, .int .i64 cp], .int .i64 sl] w fun e w' => e = .returned (.bool true) ∧ Fr no w w' := by
  obtain ⟨W, hW, hF, ⟨c0_0, c1_0, c2_0, c3_0⟩, ⟨p0_0, p1_0, p2_0, p3_0⟩⟩ := two_sync w oc dc sc cc op dp sp cp
  have HW := Lib.hid hW
  have HF0 := Lib.hid hF
  clear hW hF
  have K1 := Lib.hid (fun w => ckS_any oc dc sc cc w)
  have K2 := Lib.hid (fun w => ckS_any op dp sp cp w)
  rw [ckS_0 hkc] at K1
  rw [ckS_0 hkp] at K2
  obtain ⟨kp, -⟩ := okS_t hkp
  obtain ⟨kc', q2⟩ := okS_t hkc
  have cc0 : 0 ≤ cc := by omega
  have cc1 : cc ≤ 4096 := by omega
  clear q2
  have K3 := Lib.hid (fun w => send_any op dp sl w)
  rw [h, h2] at K3
  clear h h2
  have L1 := Lib.hid (fun w => send_any oc dc sl w)
  by_cases hB : inE oc dc sl 2120 = 0
  · obtain ⟨-, kc, ⟨s0, s1⟩, -, ⟨u0, u1⟩, -⟩ := in_ok hB
    have hu : isT (inV oc dc sl 2120) = true := isT_t.2 ⟨u0, u1⟩
    have hs : isS sl = true := isS_t.2 ⟨s0, s1⟩
    have hN := near hB
    rw [hB] at L1
    have L2 := Lib.hid (fun w => measure_any op dp sl (inV oc dc sl 2120) w)
    rw [(me_0 kp hs hu).1, (me_0 kp hs hu).2] at L2
    obtain ⟨v1_, v2_⟩ := fl_bd2 (OkC.of kp) u0 u1
    have HX := fun h1 : okC (oc + (sh op dp (inV oc dc sl 2120) - (sl * 10000 + 2120))) dc = true => ap_0 h1 kp hu
    have HO := @sh_off oc dc (inV oc dc sl 2120) (sh op dp (inV oc dc sl 2120) - (sl * 10000 + 2120))
    generalize inV oc dc sl 2120 = u at *
    clear hB hu
    by_cases hz : u = 0
    · subst hz
      clear hN HX HO
      go_enter Try.func5, Try.ntmps5
      go_wp2_with fail
      rw [← HW.out]
      refine (awake_any _).mono ?_
      rintro e w1 ⟨rfl, f1⟩
      have HF1 := Lib.hid (HF0.out.noTrans f1)
      have c0_1 := f1.keepc c0_0
      have c1_1 := f1.keepc c1_0
      have c2_1 := f1.keepc c2_0
      have c3_1 := f1.keepc c3_0
      have p0_1 := f1.keepc p0_0
      have p1_1 := f1.keepc p1_0
      have p2_1 := f1.keepc p2_0
      have p3_1 := f1.keepc p3_0
      have hlc1 := World.block_lt_of_cell? _ _ c0_1
      have hlp1 := World.block_lt_of_cell? _ _ p0_1
      clear f1 HF0 c0_0 c1_0 c2_0 c3_0 p0_0 p1_0 p2_0 p3_0
      go_wp2_with fail
      refine (K1.out _).mono ?_
      rintro e w2 ⟨rfl, f2⟩
      have HF2 := Lib.hid (HF1.out.noTrans f2)
      have c0_2 := f2.keepc c0_1
      have c1_2 := f2.keepc c1_1
      have c2_2 := f2.keepc c2_1
      have c3_2 := f2.keepc c3_1
      have p0_2 := f2.keepc p0_1
      have p1_2 := f2.keepc p1_1
      have p2_2 := f2.keepc p2_1
      have p3_2 := f2.keepc p3_1
      have hlc2 := World.block_lt_of_cell? _ _ c0_2
      have hlp2 := World.block_lt_of_cell? _ _ p0_2
      clear f2 HF1 c0_1 c1_1 c2_1 c3_1 p0_1 p1_1 p2_1 p3_1
      go_wp2_with fail
      refine (K2.out _).mono ?_
      rintro e w3 ⟨rfl, f3⟩
      have HF3 := Lib.hid (HF2.out.noTrans f3)
      have c0_3 := f3.keepc c0_2
      have c1_3 := f3.keepc c1_2
      have c2_3 := f3.keepc c2_2
      have c3_3 := f3.keepc c3_2
      have p0_3 := f3.keepc p0_2
      have p1_3 := f3.keepc p1_2
      have p2_3 := f3.keepc p2_2
      have p3_3 := f3.keepc p3_2
      have hlc3 := World.block_lt_of_cell? _ _ c0_3
      have hlp3 := World.block_lt_of_cell? _ _ p0_3
      clear f3 HF2 c0_2 c1_2 c2_2 c3_2 p0_2 p1_2 p2_2 p3_2
      go_wp2_with fail
      refine (K3.out _).mono ?_
      rintro e w4 ⟨rfl, f4⟩
      have HF4 := Lib.hid (HF3.out.noTrans f4)
      have c0_4 := f4.keepc c0_3
      have c1_4 := f4.keepc c1_3
      have c2_4 := f4.keepc c2_3
      have c3_4 := f4.keepc c3_3
      have p0_4 := f4.keepc p0_3
      have p1_4 := f4.keepc p1_3
      have p2_4 := f4.keepc p2_3
      have p3_4 := f4.keepc p3_3
      have hlc4 := World.block_lt_of_cell? _ _ c0_4
      have hlp4 := World.block_lt_of_cell? _ _ p0_4
      clear f4 HF3 c0_3 c1_3 c2_3 c3_3 p0_3 p1_3 p2_3 p3_3
      go_wp2_with fail
      refine (L1.out _).mono ?_
      rintro e w5 ⟨rfl, f5⟩
      have HF5 := Lib.hid (HF4.out.noTrans f5)
      have c0_5 := f5.keepc c0_4
      have c1_5 := f5.keepc c1_4
      have c2_5 := f5.keepc c2_4
      have c3_5 := f5.keepc c3_4
      have p0_5 := f5.keepc p0_4
      have p1_5 := f5.keepc p1_4
      have p2_5 := f5.keepc p2_4
      have p3_5 := f5.keepc p3_4
      have hlc5 := World.block_lt_of_cell? _ _ c0_5
      have hlp5 := World.block_lt_of_cell? _ _ p0_5
      clear f5 HF4 c0_4 c1_4 c2_4 c3_4 p0_4 p1_4 p2_4 p3_4
      go_wp2_with fail
      go_ret
      exact ⟨by first | rfl | (simp; done) | (simp; omega), HF5.out⟩

    · have hz2 : 0 < u := by omega
      obtain ⟨n1, n2⟩ := hN hz2
      obtain ⟨df, hdf⟩ : ∃ df, df = sh op dp u - (sl * 10000 + 2120) := ⟨_, rfl⟩
      rw [← hdf] at L2 HX HO
      have L3 := Lib.hid (fun w => acked_any oc dc sc cc sl df w)
      rw [(acked_0 (df := df) hkc hs).1, (acked_0 (df := df) hkc hs).2] at L3
      by_cases hc : coE oc dc sc cc sl df = 0
      · obtain ⟨h1, h2, h3, h4, h5⟩ := co_0 hc
        rw [hc, h2, h3, h4, h5, show z0 true (oc + df) = oc + df from rfl, show z0 true dc = dc from rfl, show z0 true sl = sl from rfl, show z0 true (cc + 1) = cc + 1 from rfl] at L3
        have L4 := Lib.hid (fun w => apart_any (oc + df) dc op dp u w)
        rw [(HX h1).1, (HX h1).2] at L4
        rw [HO] at L4
        obtain ⟨n, hn⟩ : ∃ n, n = sh op dp u - (sh oc dc u + df) := ⟨_, rfl⟩
        rw [← hn] at L4
        have hn3 : -1 ≤ n := by omega
        have hn4 : n ≤ 1 := by omega
        have L5 := Lib.hid (fun w => size_any n w (by omega) (by omega))
        have hz3 : sz n ≤ 1 := sz_le.2 ⟨by omega, by omega⟩
        obtain ⟨hz4, -⟩ := sz_bd (n := n) (by omega) (by omega)
        generalize sz n = z at *
        obtain ⟨⟨o1_, o2_⟩, -⟩ := okC_t.1 h1
        clear h1 h2 h3 h4 h5 HX HO hc hdf hn n1 n2 v1_ v2_
        obtain ⟨yo, hyo⟩ : ∃ yo, yo = oc + df := ⟨_, rfl⟩
        rw [← hyo] at L3
        rw [← hyo] at L4
        clear hyo
        go_enter Try.func5, Try.ntmps5
        go_wp2_with fail
        rw [← HW.out]
        refine (awake_any _).mono ?_
        rintro e w1 ⟨rfl, f1⟩
        have HF1 := Lib.hid (HF0.out.noTrans f1)
        have c0_1 := f1.keepc c0_0
        have c1_1 := f1.keepc c1_0
        have c2_1 := f1.keepc c2_0
        have c3_1 := f1.keepc c3_0
        have p0_1 := f1.keepc p0_0
        have p1_1 := f1.keepc p1_0
        have p2_1 := f1.keepc p2_0
        have p3_1 := f1.keepc p3_0
        have hlc1 := World.block_lt_of_cell? _ _ c0_1
        have hlp1 := World.block_lt_of_cell? _ _ p0_1
        clear f1 HF0 c0_0 c1_0 c2_0 c3_0 p0_0 p1_0 p2_0 p3_0
        go_wp2_with fail
        refine (K1.out _).mono ?_
        rintro e w2 ⟨rfl, f2⟩
        have HF2 := Lib.hid (HF1.out.noTrans f2)
        have c0_2 := f2.keepc c0_1
        have c1_2 := f2.keepc c1_1
        have c2_2 := f2.keepc c2_1
        have c3_2 := f2.keepc c3_1
        have p0_2 := f2.keepc p0_1
        have p1_2 := f2.keepc p1_1
        have p2_2 := f2.keepc p2_1
        have p3_2 := f2.keepc p3_1
        have hlc2 := World.block_lt_of_cell? _ _ c0_2
        have hlp2 := World.block_lt_of_cell? _ _ p0_2
        clear f2 HF1 c0_1 c1_1 c2_1 c3_1 p0_1 p1_1 p2_1 p3_1
        go_wp2_with fail
        refine (K2.out _).mono ?_
        rintro e w3 ⟨rfl, f3⟩
        have HF3 := Lib.hid (HF2.out.noTrans f3)
        have c0_3 := f3.keepc c0_2
        have c1_3 := f3.keepc c1_2
        have c2_3 := f3.keepc c2_2
        have c3_3 := f3.keepc c3_2
        have p0_3 := f3.keepc p0_2
        have p1_3 := f3.keepc p1_2
        have p2_3 := f3.keepc p2_2
        have p3_3 := f3.keepc p3_2
        have hlc3 := World.block_lt_of_cell? _ _ c0_3
        have hlp3 := World.block_lt_of_cell? _ _ p0_3
        clear f3 HF2 c0_2 c1_2 c2_2 c3_2 p0_2 p1_2 p2_2 p3_2
        go_wp2_with fail
        refine (K3.out _).mono ?_
        rintro e w4 ⟨rfl, f4⟩
        have HF4 := Lib.hid (HF3.out.noTrans f4)
        have c0_4 := f4.keepc c0_3
        have c1_4 := f4.keepc c1_3
        have c2_4 := f4.keepc c2_3
        have c3_4 := f4.keepc c3_3
        have p0_4 := f4.keepc p0_3
        have p1_4 := f4.keepc p1_3
        have p2_4 := f4.keepc p2_3
        have p3_4 := f4.keepc p3_3
        have hlc4 := World.block_lt_of_cell? _ _ c0_4
        have hlp4 := World.block_lt_of_cell? _ _ p0_4
        clear f4 HF3 c0_3 c1_3 c2_3 c3_3 p0_3 p1_3 p2_3 p3_3
        go_wp2_with fail
        refine (L1.out _).mono ?_
        rintro e w5 ⟨rfl, f5⟩
        have HF5 := Lib.hid (HF4.out.noTrans f5)
        have c0_5 := f5.keepc c0_4
        have c1_5 := f5.keepc c1_4
        have c2_5 := f5.keepc c2_4
        have c3_5 := f5.keepc c3_4
        have p0_5 := f5.keepc p0_4
        have p1_5 := f5.keepc p1_4
        have p2_5 := f5.keepc p2_4
        have p3_5 := f5.keepc p3_4
        have hlc5 := World.block_lt_of_cell? _ _ c0_5
        have hlp5 := World.block_lt_of_cell? _ _ p0_5
        clear f5 HF4 c0_4 c1_4 c2_4 c3_4 p0_4 p1_4 p2_4 p3_4
        go_wp2_with fail
        refine (L2.out _).mono ?_
        rintro e w6 ⟨rfl, f6⟩
        have HF6 := Lib.hid (HF5.out.noTrans f6)
        have c0_6 := f6.keepc c0_5
        have c1_6 := f6.keepc c1_5
        have c2_6 := f6.keepc c2_5
        have c3_6 := f6.keepc c3_5
        have p0_6 := f6.keepc p0_5
        have p1_6 := f6.keepc p1_5
        have p2_6 := f6.keepc p2_5
        have p3_6 := f6.keepc p3_5
        have hlc6 := World.block_lt_of_cell? _ _ c0_6
        have hlp6 := World.block_lt_of_cell? _ _ p0_6
        clear f6 HF5 c0_5 c1_5 c2_5 c3_5 p0_5 p1_5 p2_5 p3_5
        go_wp2_with fail
        refine (L3.out _).mono ?_
        rintro e w7 ⟨rfl, f7⟩
        have HF7 := Lib.hid (HF6.out.noTrans f7)
        have c0_7 := f7.keepc c0_6
        have c1_7 := f7.keepc c1_6
        have c2_7 := f7.keepc c2_6
        have c3_7 := f7.keepc c3_6
        have p0_7 := f7.keepc p0_6
        have p1_7 := f7.keepc p1_6
        have p2_7 := f7.keepc p2_6
        have p3_7 := f7.keepc p3_6
        have hlc7 := World.block_lt_of_cell? _ _ c0_7
        have hlp7 := World.block_lt_of_cell? _ _ p0_7
        clear f7 HF6 c0_6 c1_6 c2_6 c3_6 p0_6 p1_6 p2_6 p3_6
        go_wp2_with fail
        obtain ⟨w8, hw8, f8, m0_8, m1_8, m2_8, m3_8⟩ := box_sync w7 yo dc sl (cc + 1)
        have HV8 := Lib.hid hw8
        rw [← HV8.out]
        have HF8 := Lib.hid (HF7.out.noTrans f8)
        have c0_8 := f8.keepc c0_7
        have c1_8 := f8.keepc c1_7
        have c2_8 := f8.keepc c2_7
        have c3_8 := f8.keepc c3_7
        have p0_8 := f8.keepc p0_7
        have p1_8 := f8.keepc p1_7
        have p2_8 := f8.keepc p2_7
        have p3_8 := f8.keepc p3_7
        clear f8 hw8 HF7 c0_7 c1_7 c2_7 c3_7 p0_7 p1_7 p2_7 p3_7
        refine (L4.out _).mono ?_
        rintro e w9 ⟨rfl, f9⟩
        have HF9 := Lib.hid (HF8.out.noTrans f9)
        have c0_9 := f9.keepc c0_8
        have c1_9 := f9.keepc c1_8
        have c2_9 := f9.keepc c2_8
        have c3_9 := f9.keepc c3_8
        have p0_9 := f9.keepc p0_8
        have p1_9 := f9.keepc p1_8
        have p2_9 := f9.keepc p2_8
        have p3_9 := f9.keepc p3_8
        have m0_9 := f9.keepc m0_8
        have m1_9 := f9.keepc m1_8
        have m2_9 := f9.keepc m2_8
        have m3_9 := f9.keepc m3_8
        have hlc9 := World.block_lt_of_cell? _ _ c0_9
        have hlp9 := World.block_lt_of_cell? _ _ p0_9
        clear f9 HF8 c0_8 c1_8 c2_8 c3_8 p0_8 p1_8 p2_8 p3_8 m0_8 m1_8 m2_8 m3_8
        go_wp2_with fail
        refine (L5.out _).mono ?_
        rintro e w_ ⟨rfl, rfl⟩
        go_wp2_with fail
        go_ret
        exact ⟨by first | rfl | (simp; done) | (simp; omega), HF9.out⟩

      · generalize z0 true (coO oc dc sc cc sl df) = yo at *
        generalize z0 true (coD oc dc sc cc sl df) = yd at *
        generalize z0 true (coS oc dc sc cc sl df) = ys at *
        generalize z0 true (coC oc dc sc cc sl df) = yc at *
        generalize coE oc dc sc cc sl df = r at *
        have hr2 : (r == 0) = false := by simpa using hc
        have hr3 : decide (r = 0) = false := by simpa using hc
        clear HX HO hc hdf n1 n2
        go_enter Try.func5, Try.ntmps5
        go_wp2_with fail
        rw [← HW.out]
        refine (awake_any _).mono ?_
        rintro e w1 ⟨rfl, f1⟩
        have HF1 := Lib.hid (HF0.out.noTrans f1)
        have c0_1 := f1.keepc c0_0
        have c1_1 := f1.keepc c1_0
        have c2_1 := f1.keepc c2_0
        have c3_1 := f1.keepc c3_0
        have p0_1 := f1.keepc p0_0
        have p1_1 := f1.keepc p1_0
        have p2_1 := f1.keepc p2_0
        have p3_1 := f1.keepc p3_0
        have hlc1 := World.block_lt_of_cell? _ _ c0_1
        have hlp1 := World.block_lt_of_cell? _ _ p0_1
        clear f1 HF0 c0_0 c1_0 c2_0 c3_0 p0_0 p1_0 p2_0 p3_0
        go_wp2_with fail
        refine (K1.out _).mono ?_
        rintro e w2 ⟨rfl, f2⟩
        have HF2 := Lib.hid (HF1.out.noTrans f2)
        have c0_2 := f2.keepc c0_1
        have c1_2 := f2.keepc c1_1
        have c2_2 := f2.keepc c2_1
        have c3_2 := f2.keepc c3_1
        have p0_2 := f2.keepc p0_1
        have p1_2 := f2.keepc p1_1
        have p2_2 := f2.keepc p2_1
        have p3_2 := f2.keepc p3_1
        have hlc2 := World.block_lt_of_cell? _ _ c0_2
        have hlp2 := World.block_lt_of_cell? _ _ p0_2
        clear f2 HF1 c0_1 c1_1 c2_1 c3_1 p0_1 p1_1 p2_1 p3_1
        go_wp2_with fail
        refine (K2.out _).mono ?_
        rintro e w3 ⟨rfl, f3⟩
        have HF3 := Lib.hid (HF2.out.noTrans f3)
        have c0_3 := f3.keepc c0_2
        have c1_3 := f3.keepc c1_2
        have c2_3 := f3.keepc c2_2
        have c3_3 := f3.keepc c3_2
        have p0_3 := f3.keepc p0_2
        have p1_3 := f3.keepc p1_2
        have p2_3 := f3.keepc p2_2
        have p3_3 := f3.keepc p3_2
        have hlc3 := World.block_lt_of_cell? _ _ c0_3
        have hlp3 := World.block_lt_of_cell? _ _ p0_3
        clear f3 HF2 c0_2 c1_2 c2_2 c3_2 p0_2 p1_2 p2_2 p3_2
        go_wp2_with fail
        refine (K3.out _).mono ?_
        rintro e w4 ⟨rfl, f4⟩
        have HF4 := Lib.hid (HF3.out.noTrans f4)
        have c0_4 := f4.keepc c0_3
        have c1_4 := f4.keepc c1_3
        have c2_4 := f4.keepc c2_3
        have c3_4 := f4.keepc c3_3
        have p0_4 := f4.keepc p0_3
        have p1_4 := f4.keepc p1_3
        have p2_4 := f4.keepc p2_3
        have p3_4 := f4.keepc p3_3
        have hlc4 := World.block_lt_of_cell? _ _ c0_4
        have hlp4 := World.block_lt_of_cell? _ _ p0_4
        clear f4 HF3 c0_3 c1_3 c2_3 c3_3 p0_3 p1_3 p2_3 p3_3
        go_wp2_with fail
        refine (L1.out _).mono ?_
        rintro e w5 ⟨rfl, f5⟩
        have HF5 := Lib.hid (HF4.out.noTrans f5)
        have c0_5 := f5.keepc c0_4
        have c1_5 := f5.keepc c1_4
        have c2_5 := f5.keepc c2_4
        have c3_5 := f5.keepc c3_4
        have p0_5 := f5.keepc p0_4
        have p1_5 := f5.keepc p1_4
        have p2_5 := f5.keepc p2_4
        have p3_5 := f5.keepc p3_4
        have hlc5 := World.block_lt_of_cell? _ _ c0_5
        have hlp5 := World.block_lt_of_cell? _ _ p0_5
        clear f5 HF4 c0_4 c1_4 c2_4 c3_4 p0_4 p1_4 p2_4 p3_4
        go_wp2_with fail
        refine (L2.out _).mono ?_
        rintro e w6 ⟨rfl, f6⟩
        have HF6 := Lib.hid (HF5.out.noTrans f6)
        have c0_6 := f6.keepc c0_5
        have c1_6 := f6.keepc c1_5
        have c2_6 := f6.keepc c2_5
        have c3_6 := f6.keepc c3_5
        have p0_6 := f6.keepc p0_5
        have p1_6 := f6.keepc p1_5
        have p2_6 := f6.keepc p2_5
        have p3_6 := f6.keepc p3_5
        have hlc6 := World.block_lt_of_cell? _ _ c0_6
        have hlp6 := World.block_lt_of_cell? _ _ p0_6
        clear f6 HF5 c0_5 c1_5 c2_5 c3_5 p0_5 p1_5 p2_5 p3_5
        go_wp2_with fail
        refine (L3.out _).mono ?_
        rintro e w7 ⟨rfl, f7⟩
        have HF7 := Lib.hid (HF6.out.noTrans f7)
        have c0_7 := f7.keepc c0_6
        have c1_7 := f7.keepc c1_6
        have c2_7 := f7.keepc c2_6
        have c3_7 := f7.keepc c3_6
        have p0_7 := f7.keepc p0_6
        have p1_7 := f7.keepc p1_6
        have p2_7 := f7.keepc p2_6
        have p3_7 := f7.keepc p3_6
        have hlc7 := World.block_lt_of_cell? _ _ c0_7
        have hlp7 := World.block_lt_of_cell? _ _ p0_7
        clear f7 HF6 c0_6 c1_6 c2_6 c3_6 p0_6 p1_6 p2_6 p3_6
        go_wp2_with fail
        go_ret
        exact ⟨by first | rfl | (simp; done) | (simp; omega), HF7.out.alloc _⟩

  · generalize inE oc dc sl 2120 = r at *
    generalize inV oc dc sl 2120 = u at *
    have hr2 : (r == 0) = false := by simpa using hB
    have hr3 : decide (r = 0) = false := by simpa using hB
    go_enter Try.func5, Try.ntmps5
    go_wp2_with fail
    rw [← HW.out]
    refine (awake_any _).mono ?_
    rintro e w1 ⟨rfl, f1⟩
    have HF1 := Lib.hid (HF0.out.noTrans f1)
    have c0_1 := f1.keepc c0_0
    have c1_1 := f1.keepc c1_0
    have c2_1 := f1.keepc c2_0
    have c3_1 := f1.keepc c3_0
    have p0_1 := f1.keepc p0_0
    have p1_1 := f1.keepc p1_0
    have p2_1 := f1.keepc p2_0
    have p3_1 := f1.keepc p3_0
    have hlc1 := World.block_lt_of_cell? _ _ c0_1
    have hlp1 := World.block_lt_of_cell? _ _ p0_1
    clear f1 HF0 c0_0 c1_0 c2_0 c3_0 p0_0 p1_0 p2_0 p3_0
    go_wp2_with fail
    refine (K1.out _).mono ?_
    rintro e w2 ⟨rfl, f2⟩
    have HF2 := Lib.hid (HF1.out.noTrans f2)
    have c0_2 := f2.keepc c0_1
    have c1_2 := f2.keepc c1_1
    have c2_2 := f2.keepc c2_1
    have c3_2 := f2.keepc c3_1
    have p0_2 := f2.keepc p0_1
    have p1_2 := f2.keepc p1_1
    have p2_2 := f2.keepc p2_1
    have p3_2 := f2.keepc p3_1
    have hlc2 := World.block_lt_of_cell? _ _ c0_2
    have hlp2 := World.block_lt_of_cell? _ _ p0_2
    clear f2 HF1 c0_1 c1_1 c2_1 c3_1 p0_1 p1_1 p2_1 p3_1
    go_wp2_with fail
    refine (K2.out _).mono ?_
    rintro e w3 ⟨rfl, f3⟩
    have HF3 := Lib.hid (HF2.out.noTrans f3)
    have c0_3 := f3.keepc c0_2
    have c1_3 := f3.keepc c1_2
    have c2_3 := f3.keepc c2_2
    have c3_3 := f3.keepc c3_2
    have p0_3 := f3.keepc p0_2
    have p1_3 := f3.keepc p1_2
    have p2_3 := f3.keepc p2_2
    have p3_3 := f3.keepc p3_2
    have hlc3 := World.block_lt_of_cell? _ _ c0_3
    have hlp3 := World.block_lt_of_cell? _ _ p0_3
    clear f3 HF2 c0_2 c1_2 c2_2 c3_2 p0_2 p1_2 p2_2 p3_2
    go_wp2_with fail
    refine (K3.out _).mono ?_
    rintro e w4 ⟨rfl, f4⟩
    have HF4 := Lib.hid (HF3.out.noTrans f4)
    have c0_4 := f4.keepc c0_3
    have c1_4 := f4.keepc c1_3
    have c2_4 := f4.keepc c2_3
    have c3_4 := f4.keepc c3_3
    have p0_4 := f4.keepc p0_3
    have p1_4 := f4.keepc p1_3
    have p2_4 := f4.keepc p2_3
    have p3_4 := f4.keepc p3_3
    have hlc4 := World.block_lt_of_cell? _ _ c0_4
    have hlp4 := World.block_lt_of_cell? _ _ p0_4
    clear f4 HF3 c0_3 c1_3 c2_3 c3_3 p0_3 p1_3 p2_3 p3_3
    go_wp2_with fail
    refine (L1.out _).mono ?_
    rintro e w5 ⟨rfl, f5⟩
    have HF5 := Lib.hid (HF4.out.noTrans f5)
    have c0_5 := f5.keepc c0_4
    have c1_5 := f5.keepc c1_4
    have c2_5 := f5.keepc c2_4
    have c3_5 := f5.keepc c3_4
    have p0_5 := f5.keepc p0_4
    have p1_5 := f5.keepc p1_4
    have p2_5 := f5.keepc p2_4
    have p3_5 := f5.keepc p3_4
    have hlc5 := World.block_lt_of_cell? _ _ c0_5
    have hlp5 := World.block_lt_of_cell? _ _ p0_5
    clear f5 HF4 c0_4 c1_4 c2_4 c3_4 p0_4 p1_4 p2_4 p3_4
    go_wp2_with fail
    go_ret
    exact ⟨by first | rfl | (simp; done) | (simp; omega), HF5.out⟩

end Go.Proofs.Ytmkmefcafpgphaa
