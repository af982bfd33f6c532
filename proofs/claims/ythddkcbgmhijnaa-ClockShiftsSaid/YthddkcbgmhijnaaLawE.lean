/- ClockReaches. -/
import Derived.Test.YthddkcbgmhijnaaLawC
namespace Go.Proofs.Ythddkcbgmhijnaa
set_option linter.unusedVariables false
open Go.RowKit
theorem rcV_late {o d x : Int} (h : sh o d 1099511627776 < x) : rcV o d x = 0 ∧ rcE o d x = 15 := by simp [rcV, rcE, h]
theorem rcV_in {o d x : Int} (h : ¬ sh o d 1099511627776 < x) : rcV o d x = rch o d x ∧ rcE o d x = 0 := by simp [rcV, rcE, h]
theorem rch_in {o d x : Int} (hd : -100000 ≤ d) (h : ¬ sh o d 1099511627776 < x) : 0 ≤ rch o d x ∧ rch o d x ≤ 1099511627776 ∧ x ≤ sh o d (rch o d x) ∧ (0 < rch o d x → sh o d (rch o d x - 1) < x) := by
  have hR := rch_rc o d x hd
  have h1 := mt (rc_late hR).1 h
  have h2 := hR.lo
  exact ⟨h2, by omega, hR.after _ (Int.le_refl _) (by omega), fun h3 => hR.before _ (by omega) (by omega)⟩
theorem rch_back {o d t : Int} (hk : OkC o d) (t0 : 0 ≤ t) (t1 : t ≤ 1099511627776) : rcE o d (sh o d t) = 0 ∧ 0 ≤ rcV o d (sh o d t) ∧ rcV o d (sh o d t) ≤ t := by
  have h : ¬ sh o d 1099511627776 < sh o d t := by have := sh_mono (o := o) hk.d1 t1; omega
  obtain ⟨e1, e2⟩ := rcV_in h
  obtain ⟨r0, r1, -, -⟩ := rch_in hk.d1 h
  have hR := rch_rc o d (sh o d t) hk.d1
  rw [e1, e2]
  refine ⟨rfl, r0, ?_⟩
  by_cases hx : rch o d (sh o d t) ≤ t
  · exact hx
  · have := hR.before t t0 (by omega)
    omega
set_option maxHeartbeats 4000000 in
theorem reaches_law (o d x t : Int) (w : World) (x1 : -9223372036854775808 ≤ x) (x2 : x ≤ 9223372036854775807) : Calls Try.prog 8 #[.agg #[.int .i64 o, .int .i64 d], .int .i64 x, .int .i64 t] w fun e w' => e = .returned (.bool true) ∧ Fr no w w' := by
  obtain ⟨hF, c0_0, c1_0⟩ := box_clock w o d
  obtain ⟨W, hW⟩ : ∃ W, W = w.alloc (.cells #[.int .i64 o, .int .i64 d] 23 (0, 0)) := ⟨_, rfl⟩
  rw [← hW] at hF c0_0 c1_0
  have HW := Lib.hid hW
  have HF0 := Lib.hid hF
  clear hW hF
  have K1 := Lib.hid (fun w => reach_any o d x w)
  have K4 := Lib.hid (fun w => show_any o d t w)
  cases hk : okC o d
  · rw [(shE_1 (t := t) hk).1, (shE_1 (t := t) hk).2] at K4
    rw [show reV o d x = 0 by simp [reV, hk], show reE o d x = 1 by simp [reE, hk]] at K1
    clear hk
    go_enter Try.func8, Try.ntmps8
    go_wp2_with fail
    rw [← HW.out]
    refine (awake_any _).mono ?_
    rintro e w1 ⟨rfl, f1⟩
    have HF1 := Lib.hid (HF0.out.noTrans f1)
    have c0_1 := f1.keepc c0_0
    have c1_1 := f1.keepc c1_0
    clear f1 c0_0 c1_0
    go_wp2_with fail
    refine (K1.out _).mono ?_
    rintro e w2 ⟨rfl, f2⟩
    have HF2 := Lib.hid (HF1.out.noTrans f2)
    have c0_2 := f2.keepc c0_1
    have c1_2 := f2.keepc c1_1
    clear f2 c0_1 c1_1
    go_wp2_with fail
    refine (K4.out _).mono ?_
    rintro e w3 ⟨rfl, f3⟩
    have HF3 := Lib.hid (HF2.out.noTrans f3)
    have c0_3 := f3.keepc c0_2
    have c1_3 := f3.keepc c1_2
    clear f3 c0_2 c1_2
    go_wp2_with fail
    go_ret
    exact ⟨by first | rfl | (simp; done) | (simp; omega), HF3.out⟩
  · have K5 := Lib.hid (fun w => reach_any o d (sh o d t) w)
    rw [show reV o d x = rcV o d x by simp [reV, hk], show reE o d x = rcE o d x by simp [reE, hk]] at K1
    rw [show reV o d (sh o d t) = rcV o d (sh o d t) by simp [reV, hk], show reE o d (sh o d t) = rcE o d (sh o d t) by simp [reE, hk]] at K5
    by_cases hl : sh o d 1099511627776 < x
    · rw [(rcV_late hl).1, (rcV_late hl).2] at K1
      clear hl
      cases ht : isT t
      · rw [(shE_2 hk ht).1, (shE_2 hk ht).2] at K4
        clear hk ht
        go_enter Try.func8, Try.ntmps8
        go_wp2_with fail
        rw [← HW.out]
        refine (awake_any _).mono ?_
        rintro e w1 ⟨rfl, f1⟩
        have HF1 := Lib.hid (HF0.out.noTrans f1)
        have c0_1 := f1.keepc c0_0
        have c1_1 := f1.keepc c1_0
        clear f1 c0_0 c1_0
        go_wp2_with fail
        refine (K1.out _).mono ?_
        rintro e w2 ⟨rfl, f2⟩
        have HF2 := Lib.hid (HF1.out.noTrans f2)
        have c0_2 := f2.keepc c0_1
        have c1_2 := f2.keepc c1_1
        clear f2 c0_1 c1_1
        go_wp2_with fail
        refine (K4.out _).mono ?_
        rintro e w3 ⟨rfl, f3⟩
        have HF3 := Lib.hid (HF2.out.noTrans f3)
        have c0_3 := f3.keepc c0_2
        have c1_3 := f3.keepc c1_2
        clear f3 c0_2 c1_2
        go_wp2_with fail
        go_ret
        exact ⟨by first | rfl | (simp; done) | (simp; omega), HF3.out⟩
      · rw [(shE_0 hk ht).1, (shE_0 hk ht).2] at K4
        obtain ⟨b1, b2, b3⟩ := rch_back (OkC.of hk) (isT_t.1 ht).1 (isT_t.1 ht).2
        rw [b1] at K5
        clear b1
        generalize rcV o d (sh o d t) = by_ at *
        generalize sh o d t = v at *
        clear hk ht
        go_enter Try.func8, Try.ntmps8
        go_wp2_with fail
        rw [← HW.out]
        refine (awake_any _).mono ?_
        rintro e w1 ⟨rfl, f1⟩
        have HF1 := Lib.hid (HF0.out.noTrans f1)
        have c0_1 := f1.keepc c0_0
        have c1_1 := f1.keepc c1_0
        clear f1 c0_0 c1_0
        go_wp2_with fail
        refine (K1.out _).mono ?_
        rintro e w2 ⟨rfl, f2⟩
        have HF2 := Lib.hid (HF1.out.noTrans f2)
        have c0_2 := f2.keepc c0_1
        have c1_2 := f2.keepc c1_1
        clear f2 c0_1 c1_1
        go_wp2_with fail
        refine (K4.out _).mono ?_
        rintro e w3 ⟨rfl, f3⟩
        have HF3 := Lib.hid (HF2.out.noTrans f3)
        have c0_3 := f3.keepc c0_2
        have c1_3 := f3.keepc c1_2
        clear f3 c0_2 c1_2
        go_wp2_with fail
        refine (K5.out _).mono ?_
        rintro e w4 ⟨rfl, f4⟩
        have HF4 := Lib.hid (HF3.out.noTrans f4)
        have c0_4 := f4.keepc c0_3
        have c1_4 := f4.keepc c1_3
        clear f4 c0_3 c1_3
        go_wp2_with fail
        go_ret
        exact ⟨by first | rfl | (simp; done) | (simp; omega), HF4.out⟩
    · rw [(rcV_in hl).1, (rcV_in hl).2] at K1
      obtain ⟨r0, r1, r2, r3⟩ := rch_in (OkC.of hk).d1 hl
      have K2 := Lib.hid (fun w => show_any o d (rch o d x) w)
      have K3 := Lib.hid (fun w => show_any o d (rch o d x - 1) w)
      have hr : isT (rch o d x) = true := isT_t.2 ⟨r0, by simp only [MT]; omega⟩
      rw [(shE_0 hk hr).1, (shE_0 hk hr).2] at K2
      clear hl hr
      by_cases hz : rch o d x = 0
      · have hm : isT (rch o d x - 1) = false := by rw [hz]; rfl
        rw [(shE_2 hk hm).1, (shE_2 hk hm).2] at K3
        clear hm r3
        rw [hz] at K1 K2 K3 r2
        have hw : (0 : Int) - 1 = -1 := rfl
        rw [hw] at K3
        clear hz r0 r1 hw
        generalize hv2 : sh o d 0 = v2 at K2 r2
        clear hv2
        cases ht : isT t
        · rw [(shE_2 hk ht).1, (shE_2 hk ht).2] at K4
          clear hk ht
          go_enter Try.func8, Try.ntmps8
          go_wp2_with fail
          rw [← HW.out]
          refine (awake_any _).mono ?_
          rintro e w1 ⟨rfl, f1⟩
          have HF1 := Lib.hid (HF0.out.noTrans f1)
          have c0_1 := f1.keepc c0_0
          have c1_1 := f1.keepc c1_0
          clear f1 c0_0 c1_0
          go_wp2_with fail
          refine (K1.out _).mono ?_
          rintro e w2 ⟨rfl, f2⟩
          have HF2 := Lib.hid (HF1.out.noTrans f2)
          have c0_2 := f2.keepc c0_1
          have c1_2 := f2.keepc c1_1
          clear f2 c0_1 c1_1
          go_wp2_with fail
          refine (K2.out _).mono ?_
          rintro e w3 ⟨rfl, f3⟩
          have HF3 := Lib.hid (HF2.out.noTrans f3)
          have c0_3 := f3.keepc c0_2
          have c1_3 := f3.keepc c1_2
          clear f3 c0_2 c1_2
          go_wp2_with fail
          refine (K3.out _).mono ?_
          rintro e w4 ⟨rfl, f4⟩
          have HF4 := Lib.hid (HF3.out.noTrans f4)
          have c0_4 := f4.keepc c0_3
          have c1_4 := f4.keepc c1_3
          clear f4 c0_3 c1_3
          go_wp2_with fail
          refine (K4.out _).mono ?_
          rintro e w5 ⟨rfl, f5⟩
          have HF5 := Lib.hid (HF4.out.noTrans f5)
          have c0_5 := f5.keepc c0_4
          have c1_5 := f5.keepc c1_4
          clear f5 c0_4 c1_4
          go_wp2_with fail
          go_ret
          exact ⟨by first | rfl | (simp; done) | (simp; omega), HF5.out⟩
        · rw [(shE_0 hk ht).1, (shE_0 hk ht).2] at K4
          obtain ⟨b1, b2, b3⟩ := rch_back (OkC.of hk) (isT_t.1 ht).1 (isT_t.1 ht).2
          rw [b1] at K5
          clear b1
          generalize rcV o d (sh o d t) = by_ at *
          generalize sh o d t = v at *
          clear hk ht
          go_enter Try.func8, Try.ntmps8
          go_wp2_with fail
          rw [← HW.out]
          refine (awake_any _).mono ?_
          rintro e w1 ⟨rfl, f1⟩
          have HF1 := Lib.hid (HF0.out.noTrans f1)
          have c0_1 := f1.keepc c0_0
          have c1_1 := f1.keepc c1_0
          clear f1 c0_0 c1_0
          go_wp2_with fail
          refine (K1.out _).mono ?_
          rintro e w2 ⟨rfl, f2⟩
          have HF2 := Lib.hid (HF1.out.noTrans f2)
          have c0_2 := f2.keepc c0_1
          have c1_2 := f2.keepc c1_1
          clear f2 c0_1 c1_1
          go_wp2_with fail
          refine (K2.out _).mono ?_
          rintro e w3 ⟨rfl, f3⟩
          have HF3 := Lib.hid (HF2.out.noTrans f3)
          have c0_3 := f3.keepc c0_2
          have c1_3 := f3.keepc c1_2
          clear f3 c0_2 c1_2
          go_wp2_with fail
          refine (K3.out _).mono ?_
          rintro e w4 ⟨rfl, f4⟩
          have HF4 := Lib.hid (HF3.out.noTrans f4)
          have c0_4 := f4.keepc c0_3
          have c1_4 := f4.keepc c1_3
          clear f4 c0_3 c1_3
          go_wp2_with fail
          refine (K4.out _).mono ?_
          rintro e w5 ⟨rfl, f5⟩
          have HF5 := Lib.hid (HF4.out.noTrans f5)
          have c0_5 := f5.keepc c0_4
          have c1_5 := f5.keepc c1_4
          clear f5 c0_4 c1_4
          go_wp2_with fail
          refine (K5.out _).mono ?_
          rintro e w6 ⟨rfl, f6⟩
          have HF6 := Lib.hid (HF5.out.noTrans f6)
          have c0_6 := f6.keepc c0_5
          have c1_6 := f6.keepc c1_5
          clear f6 c0_5 c1_5
          go_wp2_with fail
          go_ret
          exact ⟨by first | rfl | (simp; done) | (simp; omega), HF6.out⟩
      · have hm : isT (rch o d x - 1) = true := isT_t.2 ⟨by omega, by simp only [MT]; omega⟩
        rw [(shE_0 hk hm).1, (shE_0 hk hm).2] at K3
        have r4 := r3 (by omega)
        have r5 : 1 ≤ rch o d x := by omega
        clear hm r3 hz
        generalize hv3 : sh o d (rch o d x - 1) = v3 at K3 r4
        generalize hv2 : sh o d (rch o d x) = v2 at K2 r2
        clear hv2 hv3
        generalize rch o d x = r at *
        cases ht : isT t
        · rw [(shE_2 hk ht).1, (shE_2 hk ht).2] at K4
          clear hk ht
          go_enter Try.func8, Try.ntmps8
          go_wp2_with fail
          rw [← HW.out]
          refine (awake_any _).mono ?_
          rintro e w1 ⟨rfl, f1⟩
          have HF1 := Lib.hid (HF0.out.noTrans f1)
          have c0_1 := f1.keepc c0_0
          have c1_1 := f1.keepc c1_0
          clear f1 c0_0 c1_0
          go_wp2_with fail
          refine (K1.out _).mono ?_
          rintro e w2 ⟨rfl, f2⟩
          have HF2 := Lib.hid (HF1.out.noTrans f2)
          have c0_2 := f2.keepc c0_1
          have c1_2 := f2.keepc c1_1
          clear f2 c0_1 c1_1
          go_wp2_with fail
          refine (K2.out _).mono ?_
          rintro e w3 ⟨rfl, f3⟩
          have HF3 := Lib.hid (HF2.out.noTrans f3)
          have c0_3 := f3.keepc c0_2
          have c1_3 := f3.keepc c1_2
          clear f3 c0_2 c1_2
          go_wp2_with fail
          refine (K3.out _).mono ?_
          rintro e w4 ⟨rfl, f4⟩
          have HF4 := Lib.hid (HF3.out.noTrans f4)
          have c0_4 := f4.keepc c0_3
          have c1_4 := f4.keepc c1_3
          clear f4 c0_3 c1_3
          go_wp2_with fail
          refine (K4.out _).mono ?_
          rintro e w5 ⟨rfl, f5⟩
          have HF5 := Lib.hid (HF4.out.noTrans f5)
          have c0_5 := f5.keepc c0_4
          have c1_5 := f5.keepc c1_4
          clear f5 c0_4 c1_4
          go_wp2_with fail
          go_ret
          exact ⟨by first | rfl | (simp; done) | (simp; omega), HF5.out⟩
        · rw [(shE_0 hk ht).1, (shE_0 hk ht).2] at K4
          obtain ⟨b1, b2, b3⟩ := rch_back (OkC.of hk) (isT_t.1 ht).1 (isT_t.1 ht).2
          rw [b1] at K5
          clear b1
          generalize rcV o d (sh o d t) = by_ at *
          generalize sh o d t = v at *
          clear hk ht
          go_enter Try.func8, Try.ntmps8
          go_wp2_with fail
          rw [← HW.out]
          refine (awake_any _).mono ?_
          rintro e w1 ⟨rfl, f1⟩
          have HF1 := Lib.hid (HF0.out.noTrans f1)
          have c0_1 := f1.keepc c0_0
          have c1_1 := f1.keepc c1_0
          clear f1 c0_0 c1_0
          go_wp2_with fail
          refine (K1.out _).mono ?_
          rintro e w2 ⟨rfl, f2⟩
          have HF2 := Lib.hid (HF1.out.noTrans f2)
          have c0_2 := f2.keepc c0_1
          have c1_2 := f2.keepc c1_1
          clear f2 c0_1 c1_1
          go_wp2_with fail
          refine (K2.out _).mono ?_
          rintro e w3 ⟨rfl, f3⟩
          have HF3 := Lib.hid (HF2.out.noTrans f3)
          have c0_3 := f3.keepc c0_2
          have c1_3 := f3.keepc c1_2
          clear f3 c0_2 c1_2
          go_wp2_with fail
          refine (K3.out _).mono ?_
          rintro e w4 ⟨rfl, f4⟩
          have HF4 := Lib.hid (HF3.out.noTrans f4)
          have c0_4 := f4.keepc c0_3
          have c1_4 := f4.keepc c1_3
          clear f4 c0_3 c1_3
          go_wp2_with fail
          refine (K4.out _).mono ?_
          rintro e w5 ⟨rfl, f5⟩
          have HF5 := Lib.hid (HF4.out.noTrans f5)
          have c0_5 := f5.keepc c0_4
          have c1_5 := f5.keepc c1_4
          clear f5 c0_4 c1_4
          go_wp2_with fail
          refine (K5.out _).mono ?_
          rintro e w6 ⟨rfl, f6⟩
          have HF6 := Lib.hid (HF5.out.noTrans f6)
          have c0_6 := f6.keepc c0_5
          have c1_6 := f6.keepc c1_5
          clear f6 c0_5 c1_5
          go_wp2_with fail
          go_ret
          exact ⟨by first | rfl | (simp; done) | (simp; omega), HF6.out⟩
end Go.Proofs.Ythddkcbgmhijnaa
