/- Keeps. -/
import Derived.Test.YtmkmefcafpgphaaSyh
namespace Go.Proofs.Ytmkmefcafpgphaa
set_option linter.unusedVariables false
open Go.RowKit

set_option maxHeartbeats 4000000 in
theorem keeps_law (o d s c sl k : Int) (w : World) (l1 : -9223372036854775808 ≤ sl) (l2 : sl ≤ 9223372036854775807) : Calls Try.prog 9 #[.agg #[.int .i64 o, .int .i64 d, .int .i64 s, .int .i64 c], .int .i64 sl, .int .i64 k] w fun e w' => e = .returned (.bool true) ∧ Fr no w w' := by
  obtain ⟨W, hW, hF, c0_0, c1_0, c2_0, c3_0⟩ := box_sync w o d s c
  have HW := Lib.hid hW
  have HF0 := Lib.hid hF
  clear hW hF
  have K1 := Lib.hid (fun w => sync_any o d s c sl k w l1 l2)
  have K2 := Lib.hid (fun w => ckS_any o d s c w)
  cases k1 : okS o d s c
  · rw [ckS_1 k1] at K2
    rw [show syB o d s c sl k = false by simp [syB, k1]] at K1
    clear k1 l1 l2
    go_enter Try.func9, Try.ntmps9
    go_wp2_with fail
    rw [← HW.out]
    refine (awake_any _).mono ?_
    rintro e w1 ⟨rfl, f1⟩
    have HF1 := Lib.hid (HF0.out.noTrans f1)
    have c0_1 := f1.keepc c0_0
    have c1_1 := f1.keepc c1_0
    have c2_1 := f1.keepc c2_0
    have c3_1 := f1.keepc c3_0
    clear f1 HF0 c0_0 c1_0 c2_0 c3_0
    go_wp2_with fail
    refine (K1.out _).mono ?_
    rintro e w2 ⟨rfl, f2⟩
    have HF2 := Lib.hid (HF1.out.noTrans f2)
    have c0_2 := f2.keepc c0_1
    have c1_2 := f2.keepc c1_1
    have c2_2 := f2.keepc c2_1
    have c3_2 := f2.keepc c3_1
    clear f2 HF1 c0_1 c1_1 c2_1 c3_1
    go_wp2_with fail
    refine (K2.out _).mono ?_
    rintro e w3 ⟨rfl, f3⟩
    have HF3 := Lib.hid (HF2.out.noTrans f3)
    have c0_3 := f3.keepc c0_2
    have c1_3 := f3.keepc c1_2
    have c2_3 := f3.keepc c2_2
    have c3_3 := f3.keepc c3_2
    clear f3 HF2 c0_2 c1_2 c2_2 c3_2
    go_wp2_with fail
    go_ret
    exact ⟨by first | rfl | (simp; done) | (simp; omega), HF3.out⟩

  · rw [ckS_0 k1] at K2
    obtain ⟨-, q2⟩ := okS_t k1
    by_cases k0 : s < 0
    · rw [show syB o d s c sl k = false by simp [syB]; omega] at K1
      clear k1 l1 l2 q2
      go_enter Try.func9, Try.ntmps9
      go_wp2_with fail
      rw [← HW.out]
      refine (awake_any _).mono ?_
      rintro e w1 ⟨rfl, f1⟩
      have HF1 := Lib.hid (HF0.out.noTrans f1)
      have c0_1 := f1.keepc c0_0
      have c1_1 := f1.keepc c1_0
      have c2_1 := f1.keepc c2_0
      have c3_1 := f1.keepc c3_0
      clear f1 HF0 c0_0 c1_0 c2_0 c3_0
      go_wp2_with fail
      refine (K1.out _).mono ?_
      rintro e w2 ⟨rfl, f2⟩
      have HF2 := Lib.hid (HF1.out.noTrans f2)
      have c0_2 := f2.keepc c0_1
      have c1_2 := f2.keepc c1_1
      have c2_2 := f2.keepc c2_1
      have c3_2 := f2.keepc c3_1
      clear f2 HF1 c0_1 c1_1 c2_1 c3_1
      go_wp2_with fail
      refine (K2.out _).mono ?_
      rintro e w3 ⟨rfl, f3⟩
      have HF3 := Lib.hid (HF2.out.noTrans f3)
      have c0_3 := f3.keepc c0_2
      have c1_3 := f3.keepc c1_2
      have c2_3 := f3.keepc c2_2
      have c3_3 := f3.keepc c3_2
      clear f3 HF2 c0_2 c1_2 c2_2 c3_2
      go_wp2_with fail
      go_ret
      exact ⟨by first | rfl | (simp; done) | (simp; omega), HF3.out⟩

    · have k4 : 0 ≤ s := by omega
      have k5 : s ≤ 109951162 := by omega
      clear k0 q2
      by_cases k6 : k < 0
      · rw [show syB o d s c sl k = false by simp [syB]; omega] at K1
        clear k1 l1 l2
        go_enter Try.func9, Try.ntmps9
        go_wp2_with fail
        rw [← HW.out]
        refine (awake_any _).mono ?_
        rintro e w1 ⟨rfl, f1⟩
        have HF1 := Lib.hid (HF0.out.noTrans f1)
        have c0_1 := f1.keepc c0_0
        have c1_1 := f1.keepc c1_0
        have c2_1 := f1.keepc c2_0
        have c3_1 := f1.keepc c3_0
        clear f1 HF0 c0_0 c1_0 c2_0 c3_0
        go_wp2_with fail
        refine (K1.out _).mono ?_
        rintro e w2 ⟨rfl, f2⟩
        have HF2 := Lib.hid (HF1.out.noTrans f2)
        have c0_2 := f2.keepc c0_1
        have c1_2 := f2.keepc c1_1
        have c2_2 := f2.keepc c2_1
        have c3_2 := f2.keepc c3_1
        clear f2 HF1 c0_1 c1_1 c2_1 c3_1
        go_wp2_with fail
        refine (K2.out _).mono ?_
        rintro e w3 ⟨rfl, f3⟩
        have HF3 := Lib.hid (HF2.out.noTrans f3)
        have c0_3 := f3.keepc c0_2
        have c1_3 := f3.keepc c1_2
        have c2_3 := f3.keepc c2_2
        have c3_3 := f3.keepc c3_2
        clear f3 HF2 c0_2 c1_2 c2_2 c3_2
        go_wp2_with fail
        go_ret
        exact ⟨by first | rfl | (simp; done) | (simp; omega), HF3.out⟩

      · have k7 : 0 ≤ k := by omega
        clear k6
        by_cases k2 : sl < s
        · rw [show syB o d s c sl k = false by simp [syB]; omega] at K1
          clear k1 l1 l2
          go_enter Try.func9, Try.ntmps9
          go_wp2_with fail
          rw [← HW.out]
          refine (awake_any _).mono ?_
          rintro e w1 ⟨rfl, f1⟩
          have HF1 := Lib.hid (HF0.out.noTrans f1)
          have c0_1 := f1.keepc c0_0
          have c1_1 := f1.keepc c1_0
          have c2_1 := f1.keepc c2_0
          have c3_1 := f1.keepc c3_0
          clear f1 HF0 c0_0 c1_0 c2_0 c3_0
          go_wp2_with fail
          refine (K1.out _).mono ?_
          rintro e w2 ⟨rfl, f2⟩
          have HF2 := Lib.hid (HF1.out.noTrans f2)
          have c0_2 := f2.keepc c0_1
          have c1_2 := f2.keepc c1_1
          have c2_2 := f2.keepc c2_1
          have c3_2 := f2.keepc c3_1
          clear f2 HF1 c0_1 c1_1 c2_1 c3_1
          go_wp2_with fail
          refine (K2.out _).mono ?_
          rintro e w3 ⟨rfl, f3⟩
          have HF3 := Lib.hid (HF2.out.noTrans f3)
          have c0_3 := f3.keepc c0_2
          have c1_3 := f3.keepc c1_2
          have c2_3 := f3.keepc c2_2
          have c3_3 := f3.keepc c3_2
          clear f3 HF2 c0_2 c1_2 c2_2 c3_2
          go_wp2_with fail
          go_ret
          exact ⟨by first | rfl | (simp; done) | (simp; omega), HF3.out⟩

        · have k3 : s ≤ sl := by omega
          rw [show syB o d s c sl k = decide (sl - s ≤ k) by simp [syB, k1, k4, k3]] at K1
          clear k1 k2 l1
          by_cases k8 : 1000000 < k
          · generalize decide (sl - s ≤ k) = q at *
            clear l2
            go_enter Try.func9, Try.ntmps9
            go_wp2_with fail
            rw [← HW.out]
            refine (awake_any _).mono ?_
            rintro e w1 ⟨rfl, f1⟩
            have HF1 := Lib.hid (HF0.out.noTrans f1)
            have c0_1 := f1.keepc c0_0
            have c1_1 := f1.keepc c1_0
            have c2_1 := f1.keepc c2_0
            have c3_1 := f1.keepc c3_0
            clear f1 HF0 c0_0 c1_0 c2_0 c3_0
            go_wp2_with fail
            refine (K1.out _).mono ?_
            rintro e w2 ⟨rfl, f2⟩
            have HF2 := Lib.hid (HF1.out.noTrans f2)
            have c0_2 := f2.keepc c0_1
            have c1_2 := f2.keepc c1_1
            have c2_2 := f2.keepc c2_1
            have c3_2 := f2.keepc c3_1
            clear f2 HF1 c0_1 c1_1 c2_1 c3_1
            go_wp2_with fail
            refine (K2.out _).mono ?_
            rintro e w3 ⟨rfl, f3⟩
            have HF3 := Lib.hid (HF2.out.noTrans f3)
            have c0_3 := f3.keepc c0_2
            have c1_3 := f3.keepc c1_2
            have c2_3 := f3.keepc c2_2
            have c3_3 := f3.keepc c3_2
            clear f3 HF2 c0_2 c1_2 c2_2 c3_2
            go_wp2_with fail
            go_ret
            exact ⟨by first | rfl | (simp; done) | (simp; omega), HF3.out⟩

          · have k9 : k ≤ 1000000 := by omega
            clear k8
            by_cases m1 : 1099511627776 < sl
            · generalize decide (sl - s ≤ k) = q at *
              go_enter Try.func9, Try.ntmps9
              go_wp2_with fail
              rw [← HW.out]
              refine (awake_any _).mono ?_
              rintro e w1 ⟨rfl, f1⟩
              have HF1 := Lib.hid (HF0.out.noTrans f1)
              have c0_1 := f1.keepc c0_0
              have c1_1 := f1.keepc c1_0
              have c2_1 := f1.keepc c2_0
              have c3_1 := f1.keepc c3_0
              clear f1 HF0 c0_0 c1_0 c2_0 c3_0
              go_wp2_with fail
              refine (K1.out _).mono ?_
              rintro e w2 ⟨rfl, f2⟩
              have HF2 := Lib.hid (HF1.out.noTrans f2)
              have c0_2 := f2.keepc c0_1
              have c1_2 := f2.keepc c1_1
              have c2_2 := f2.keepc c2_1
              have c3_2 := f2.keepc c3_1
              clear f2 HF1 c0_1 c1_1 c2_1 c3_1
              go_wp2_with fail
              refine (K2.out _).mono ?_
              rintro e w3 ⟨rfl, f3⟩
              have HF3 := Lib.hid (HF2.out.noTrans f3)
              have c0_3 := f3.keepc c0_2
              have c1_3 := f3.keepc c1_2
              have c2_3 := f3.keepc c2_2
              have c3_3 := f3.keepc c3_2
              clear f3 HF2 c0_2 c1_2 c2_2 c3_2
              go_wp2_with fail
              go_ret
              exact ⟨by first | rfl | (simp; done) | (simp; omega), HF3.out⟩

            · have m2 : sl ≤ 1099511627776 := by omega
              clear m1 l2
              by_cases m3 : sl ≤ s + k
              · rw [decide_eq_true (show sl - s ≤ k by omega)] at K1
                go_enter Try.func9, Try.ntmps9
                go_wp2_with fail
                rw [← HW.out]
                refine (awake_any _).mono ?_
                rintro e w1 ⟨rfl, f1⟩
                have HF1 := Lib.hid (HF0.out.noTrans f1)
                have c0_1 := f1.keepc c0_0
                have c1_1 := f1.keepc c1_0
                have c2_1 := f1.keepc c2_0
                have c3_1 := f1.keepc c3_0
                clear f1 HF0 c0_0 c1_0 c2_0 c3_0
                go_wp2_with fail
                refine (K1.out _).mono ?_
                rintro e w2 ⟨rfl, f2⟩
                have HF2 := Lib.hid (HF1.out.noTrans f2)
                have c0_2 := f2.keepc c0_1
                have c1_2 := f2.keepc c1_1
                have c2_2 := f2.keepc c2_1
                have c3_2 := f2.keepc c3_1
                clear f2 HF1 c0_1 c1_1 c2_1 c3_1
                go_wp2_with fail
                refine (K2.out _).mono ?_
                rintro e w3 ⟨rfl, f3⟩
                have HF3 := Lib.hid (HF2.out.noTrans f3)
                have c0_3 := f3.keepc c0_2
                have c1_3 := f3.keepc c1_2
                have c2_3 := f3.keepc c2_2
                have c3_3 := f3.keepc c3_2
                clear f3 HF2 c0_2 c1_2 c2_2 c3_2
                go_wp2_with fail
                go_ret
                exact ⟨by first | rfl | (simp; done) | (simp; omega), HF3.out⟩

              · have m4 : s + k < sl := by omega
                rw [decide_eq_false (show ¬ sl - s ≤ k by omega)] at K1
                go_enter Try.func9, Try.ntmps9
                go_wp2_with fail
                rw [← HW.out]
                refine (awake_any _).mono ?_
                rintro e w1 ⟨rfl, f1⟩
                have HF1 := Lib.hid (HF0.out.noTrans f1)
                have c0_1 := f1.keepc c0_0
                have c1_1 := f1.keepc c1_0
                have c2_1 := f1.keepc c2_0
                have c3_1 := f1.keepc c3_0
                clear f1 HF0 c0_0 c1_0 c2_0 c3_0
                go_wp2_with fail
                refine (K1.out _).mono ?_
                rintro e w2 ⟨rfl, f2⟩
                have HF2 := Lib.hid (HF1.out.noTrans f2)
                have c0_2 := f2.keepc c0_1
                have c1_2 := f2.keepc c1_1
                have c2_2 := f2.keepc c2_1
                have c3_2 := f2.keepc c3_1
                clear f2 HF1 c0_1 c1_1 c2_1 c3_1
                go_wp2_with fail
                refine (K2.out _).mono ?_
                rintro e w3 ⟨rfl, f3⟩
                have HF3 := Lib.hid (HF2.out.noTrans f3)
                have c0_3 := f3.keepc c0_2
                have c1_3 := f3.keepc c1_2
                have c2_3 := f3.keepc c2_2
                have c3_3 := f3.keepc c3_2
                clear f3 HF2 c0_2 c1_2 c2_2 c3_2
                go_wp2_with fail
                go_ret
                exact ⟨by first | rfl | (simp; done) | (simp; omega), HF3.out⟩


end Go.Proofs.Ytmkmefcafpgphaa
