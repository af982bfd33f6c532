/- Slots. -/
import Derived.Test.YtgddmmlkpajpmaaLw1
namespace Go.Proofs.Ytgddmmlkpajpmaa
set_option linter.unusedVariables false
open Go.RowKit

theorem slE_2 {a b d : Int} (h : slE a b d ≠ 0) : slV a b d = 0 ∧ slE a b d = 2 := by
  unfold slE at h
  by_cases hk : (isP a && isP b && isD d) = true
  · rw [if_pos hk] at h; exact absurd rfl h
  · rw [slV, slE, if_neg hk, if_neg hk]; exact ⟨rfl, rfl⟩
theorem slE_0 {a b d : Int} (h : slE a b d = 0) : isP a = true ∧ isP b = true ∧ isD d = true ∧ slV a b d = slF (a + b) d ∧ (0 ≤ a ∧ a ≤ 32) ∧ (0 ≤ b ∧ b ≤ 32) ∧ (0 ≤ d ∧ d ≤ 100000) := by
  unfold slE at h
  by_cases hk : (isP a && isP b && isD d) = true
  · have hv : slV a b d = slF (a + b) d := by simp only [slV, if_pos hk]
    obtain ⟨h12, h3⟩ := Bool.and_eq_true_iff.1 hk
    obtain ⟨h1, h2⟩ := Bool.and_eq_true_iff.1 h12
    exact ⟨h1, h2, h3, hv, isP_t.1 h1, isP_t.1 h2, isD_t.1 h3⟩
  · rw [if_neg hk] at h; exact absurd h (by decide)

set_option maxRecDepth 20000 in
set_option maxHeartbeats 4000000 in
theorem slots_law (a b d : Int) (w : World) (a2 : a ≤ 9223372036854775807) (d2 : d ≤ 9223372036854775807) : Calls Try.prog 8 #[.int .i64 a, .int .i64 b, .int .i64 d] w fun e w' => e = .returned (.bool true) ∧ Fr no w w' := by
  have HF0 := Lib.hid (Fr.refl no w)
  have K1 := Lib.hid (fun w => slots_any a b d w)
  by_cases he : slE a b d = 0
  · obtain ⟨pa, pb, pd, ev, ⟨a0, a1⟩, ⟨b0, b1⟩, ⟨d0, d1⟩⟩ := slE_0 he
    rw [he, ev] at K1
    obtain ⟨k0, k1, kf, ka⟩ := sl_ex (s := a + b) (by omega) (by omega) d0 d1
    have K2 := Lib.hid (fun w => spread_any a b (slF (a + b) d) d w)
    have K3 := Lib.hid (fun w => spread_any a b (slF (a + b) d + 1) d w)
    have K4 := Lib.hid (fun w => slots_any (a + 1) b d w)
    have K5 := Lib.hid (fun w => slots_any a b (d + 1) w)
    have pk : isK (slF (a + b) d) = true := isK_t.2 ⟨k0, k1⟩
    rw [show spV a b (slF (a + b) d) d = (a + b) * stF (slF (a + b) d) d by simp [spV, pa, pb, pd, pk], show spE a b (slF (a + b) d) d = 0 by simp [spE, pa, pb, pd, pk]] at K2
    have HD : slE (a + 1) b d = 0 → slV (a + 1) b d ≤ slF (a + b) d := by
      intro h
      obtain ⟨-, -, -, ev2, ⟨-, h1⟩, -, -⟩ := slE_0 h
      rw [ev2]
      exact sl_mono (by omega) (by omega) (by omega) d0 (Int.le_refl d) d1
    have HE : slE a b (d + 1) = 0 → slV a b (d + 1) ≤ slF (a + b) d := by
      intro h
      obtain ⟨-, -, -, ev2, -, -, ⟨-, h1⟩⟩ := slE_0 h
      rw [ev2]
      exact sl_mono (by omega) (by omega) (by omega) d0 (by omega) h1
    generalize hq1 : slV (a + 1) b d = x at *
    generalize hq2 : slV a b (d + 1) = y at *
    have HM : slF (a + b) d < 4096 → spE a b (slF (a + b) d + 1) d = 0 ∧ 1100 < spV a b (slF (a + b) d + 1) d := by
      intro h
      have pk2 : isK (slF (a + b) d + 1) = true := isK_t.2 ⟨by omega, by omega⟩
      rw [show spV a b (slF (a + b) d + 1) d = (a + b) * stF (slF (a + b) d + 1) d by simp [spV, pa, pb, pd, pk2], show spE a b (slF (a + b) d + 1) d = 0 by simp [spE, pa, pb, pd, pk2]]
      exact ⟨rfl, ka _ (by omega) (by omega)⟩
    obtain ⟨q0, q1⟩ := sp_bd (s := a + b) (by omega) (by omega) k0 k1 d0 d1
    generalize (a + b) * stF (slF (a + b) d) d = s at *
    clear pa pb pd ev pk ka hq1 hq2 he
    generalize slF (a + b) d = k at *
    generalize spV a b (k + 1) d = v at *
    generalize spE a b (k + 1) d = u at *
    generalize slE (a + 1) b d = g at *
    generalize slE a b (d + 1) = h at *
    by_cases hk : k < 4096
    · obtain ⟨hu, hv⟩ := HM hk
      subst hu
      clear HM
      by_cases eg : g = 0
      · have lg := HD eg
        subst eg
        clear HD
        by_cases eh : h = 0
        · have lh := HE eh
          subst eh
          clear HE
          go_enter Try.func8, Try.ntmps8
          go_wp2_with fail
          refine (awake_any _).mono ?_
          rintro e w1 ⟨rfl, f1⟩
          have HF1 := Lib.hid (HF0.out.noTrans f1)
          clear f1 HF0
          go_wp2_with fail
          refine (K1.out _).mono ?_
          rintro e w2 ⟨rfl, f2⟩
          have HF2 := Lib.hid (HF1.out.noTrans f2)
          clear f2 HF1
          go_wp2_with fail
          refine (K2.out _).mono ?_
          rintro e w3 ⟨rfl, f3⟩
          have HF3 := Lib.hid (HF2.out.noTrans f3)
          clear f3 HF2
          go_wp2_with fail
          refine (K3.out _).mono ?_
          rintro e w4 ⟨rfl, f4⟩
          have HF4 := Lib.hid (HF3.out.noTrans f4)
          clear f4 HF3
          go_wp2_with fail
          refine (K4.out _).mono ?_
          rintro e w5 ⟨rfl, f5⟩
          have HF5 := Lib.hid (HF4.out.noTrans f5)
          clear f5 HF4
          go_wp2_with fail
          refine (K5.out _).mono ?_
          rintro e w6 ⟨rfl, f6⟩
          have HF6 := Lib.hid (HF5.out.noTrans f6)
          clear f6 HF5
          go_wp2_with fail
          go_ret
          exact ⟨by first | rfl | (simp; done) | (simp; omega), HF6.out⟩

        · have rh : (h == 0) = false := by simpa using eh
          have sh : decide (h = 0) = false := by simpa using eh
          clear HE
          go_enter Try.func8, Try.ntmps8
          go_wp2_with fail
          refine (awake_any _).mono ?_
          rintro e w1 ⟨rfl, f1⟩
          have HF1 := Lib.hid (HF0.out.noTrans f1)
          clear f1 HF0
          go_wp2_with fail
          refine (K1.out _).mono ?_
          rintro e w2 ⟨rfl, f2⟩
          have HF2 := Lib.hid (HF1.out.noTrans f2)
          clear f2 HF1
          go_wp2_with fail
          refine (K2.out _).mono ?_
          rintro e w3 ⟨rfl, f3⟩
          have HF3 := Lib.hid (HF2.out.noTrans f3)
          clear f3 HF2
          go_wp2_with fail
          refine (K3.out _).mono ?_
          rintro e w4 ⟨rfl, f4⟩
          have HF4 := Lib.hid (HF3.out.noTrans f4)
          clear f4 HF3
          go_wp2_with fail
          refine (K4.out _).mono ?_
          rintro e w5 ⟨rfl, f5⟩
          have HF5 := Lib.hid (HF4.out.noTrans f5)
          clear f5 HF4
          go_wp2_with fail
          refine (K5.out _).mono ?_
          rintro e w6 ⟨rfl, f6⟩
          have HF6 := Lib.hid (HF5.out.noTrans f6)
          clear f6 HF5
          go_wp2_with fail
          go_ret
          exact ⟨by first | rfl | (simp; done) | (simp; omega), HF6.out⟩

      · have rg : (g == 0) = false := by simpa using eg
        have sg : decide (g = 0) = false := by simpa using eg
        clear HD
        by_cases eh : h = 0
        · have lh := HE eh
          subst eh
          clear HE
          go_enter Try.func8, Try.ntmps8
          go_wp2_with fail
          refine (awake_any _).mono ?_
          rintro e w1 ⟨rfl, f1⟩
          have HF1 := Lib.hid (HF0.out.noTrans f1)
          clear f1 HF0
          go_wp2_with fail
          refine (K1.out _).mono ?_
          rintro e w2 ⟨rfl, f2⟩
          have HF2 := Lib.hid (HF1.out.noTrans f2)
          clear f2 HF1
          go_wp2_with fail
          refine (K2.out _).mono ?_
          rintro e w3 ⟨rfl, f3⟩
          have HF3 := Lib.hid (HF2.out.noTrans f3)
          clear f3 HF2
          go_wp2_with fail
          refine (K3.out _).mono ?_
          rintro e w4 ⟨rfl, f4⟩
          have HF4 := Lib.hid (HF3.out.noTrans f4)
          clear f4 HF3
          go_wp2_with fail
          refine (K4.out _).mono ?_
          rintro e w5 ⟨rfl, f5⟩
          have HF5 := Lib.hid (HF4.out.noTrans f5)
          clear f5 HF4
          go_wp2_with fail
          refine (K5.out _).mono ?_
          rintro e w6 ⟨rfl, f6⟩
          have HF6 := Lib.hid (HF5.out.noTrans f6)
          clear f6 HF5
          go_wp2_with fail
          go_ret
          exact ⟨by first | rfl | (simp; done) | (simp; omega), HF6.out⟩

        · have rh : (h == 0) = false := by simpa using eh
          have sh : decide (h = 0) = false := by simpa using eh
          clear HE
          go_enter Try.func8, Try.ntmps8
          go_wp2_with fail
          refine (awake_any _).mono ?_
          rintro e w1 ⟨rfl, f1⟩
          have HF1 := Lib.hid (HF0.out.noTrans f1)
          clear f1 HF0
          go_wp2_with fail
          refine (K1.out _).mono ?_
          rintro e w2 ⟨rfl, f2⟩
          have HF2 := Lib.hid (HF1.out.noTrans f2)
          clear f2 HF1
          go_wp2_with fail
          refine (K2.out _).mono ?_
          rintro e w3 ⟨rfl, f3⟩
          have HF3 := Lib.hid (HF2.out.noTrans f3)
          clear f3 HF2
          go_wp2_with fail
          refine (K3.out _).mono ?_
          rintro e w4 ⟨rfl, f4⟩
          have HF4 := Lib.hid (HF3.out.noTrans f4)
          clear f4 HF3
          go_wp2_with fail
          refine (K4.out _).mono ?_
          rintro e w5 ⟨rfl, f5⟩
          have HF5 := Lib.hid (HF4.out.noTrans f5)
          clear f5 HF4
          go_wp2_with fail
          refine (K5.out _).mono ?_
          rintro e w6 ⟨rfl, f6⟩
          have HF6 := Lib.hid (HF5.out.noTrans f6)
          clear f6 HF5
          go_wp2_with fail
          go_ret
          exact ⟨by first | rfl | (simp; done) | (simp; omega), HF6.out⟩

    · obtain rfl : k = 4096 := by omega
      clear HM hk
      by_cases eg : g = 0
      · have lg := HD eg
        subst eg
        clear HD
        by_cases eh : h = 0
        · have lh := HE eh
          subst eh
          clear HE
          go_enter Try.func8, Try.ntmps8
          go_wp2_with fail
          refine (awake_any _).mono ?_
          rintro e w1 ⟨rfl, f1⟩
          have HF1 := Lib.hid (HF0.out.noTrans f1)
          clear f1 HF0
          go_wp2_with fail
          refine (K1.out _).mono ?_
          rintro e w2 ⟨rfl, f2⟩
          have HF2 := Lib.hid (HF1.out.noTrans f2)
          clear f2 HF1
          go_wp2_with fail
          refine (K2.out _).mono ?_
          rintro e w3 ⟨rfl, f3⟩
          have HF3 := Lib.hid (HF2.out.noTrans f3)
          clear f3 HF2
          go_wp2_with fail
          refine (K3.out _).mono ?_
          rintro e w4 ⟨rfl, f4⟩
          have HF4 := Lib.hid (HF3.out.noTrans f4)
          clear f4 HF3
          go_wp2_with fail
          refine (K4.out _).mono ?_
          rintro e w5 ⟨rfl, f5⟩
          have HF5 := Lib.hid (HF4.out.noTrans f5)
          clear f5 HF4
          go_wp2_with fail
          refine (K5.out _).mono ?_
          rintro e w6 ⟨rfl, f6⟩
          have HF6 := Lib.hid (HF5.out.noTrans f6)
          clear f6 HF5
          go_wp2_with fail
          go_ret
          exact ⟨by first | rfl | (simp; done) | (simp; omega), HF6.out⟩

        · have rh : (h == 0) = false := by simpa using eh
          have sh : decide (h = 0) = false := by simpa using eh
          clear HE
          go_enter Try.func8, Try.ntmps8
          go_wp2_with fail
          refine (awake_any _).mono ?_
          rintro e w1 ⟨rfl, f1⟩
          have HF1 := Lib.hid (HF0.out.noTrans f1)
          clear f1 HF0
          go_wp2_with fail
          refine (K1.out _).mono ?_
          rintro e w2 ⟨rfl, f2⟩
          have HF2 := Lib.hid (HF1.out.noTrans f2)
          clear f2 HF1
          go_wp2_with fail
          refine (K2.out _).mono ?_
          rintro e w3 ⟨rfl, f3⟩
          have HF3 := Lib.hid (HF2.out.noTrans f3)
          clear f3 HF2
          go_wp2_with fail
          refine (K3.out _).mono ?_
          rintro e w4 ⟨rfl, f4⟩
          have HF4 := Lib.hid (HF3.out.noTrans f4)
          clear f4 HF3
          go_wp2_with fail
          refine (K4.out _).mono ?_
          rintro e w5 ⟨rfl, f5⟩
          have HF5 := Lib.hid (HF4.out.noTrans f5)
          clear f5 HF4
          go_wp2_with fail
          refine (K5.out _).mono ?_
          rintro e w6 ⟨rfl, f6⟩
          have HF6 := Lib.hid (HF5.out.noTrans f6)
          clear f6 HF5
          go_wp2_with fail
          go_ret
          exact ⟨by first | rfl | (simp; done) | (simp; omega), HF6.out⟩

      · have rg : (g == 0) = false := by simpa using eg
        have sg : decide (g = 0) = false := by simpa using eg
        clear HD
        by_cases eh : h = 0
        · have lh := HE eh
          subst eh
          clear HE
          go_enter Try.func8, Try.ntmps8
          go_wp2_with fail
          refine (awake_any _).mono ?_
          rintro e w1 ⟨rfl, f1⟩
          have HF1 := Lib.hid (HF0.out.noTrans f1)
          clear f1 HF0
          go_wp2_with fail
          refine (K1.out _).mono ?_
          rintro e w2 ⟨rfl, f2⟩
          have HF2 := Lib.hid (HF1.out.noTrans f2)
          clear f2 HF1
          go_wp2_with fail
          refine (K2.out _).mono ?_
          rintro e w3 ⟨rfl, f3⟩
          have HF3 := Lib.hid (HF2.out.noTrans f3)
          clear f3 HF2
          go_wp2_with fail
          refine (K3.out _).mono ?_
          rintro e w4 ⟨rfl, f4⟩
          have HF4 := Lib.hid (HF3.out.noTrans f4)
          clear f4 HF3
          go_wp2_with fail
          refine (K4.out _).mono ?_
          rintro e w5 ⟨rfl, f5⟩
          have HF5 := Lib.hid (HF4.out.noTrans f5)
          clear f5 HF4
          go_wp2_with fail
          refine (K5.out _).mono ?_
          rintro e w6 ⟨rfl, f6⟩
          have HF6 := Lib.hid (HF5.out.noTrans f6)
          clear f6 HF5
          go_wp2_with fail
          go_ret
          exact ⟨by first | rfl | (simp; done) | (simp; omega), HF6.out⟩

        · have rh : (h == 0) = false := by simpa using eh
          have sh : decide (h = 0) = false := by simpa using eh
          clear HE
          go_enter Try.func8, Try.ntmps8
          go_wp2_with fail
          refine (awake_any _).mono ?_
          rintro e w1 ⟨rfl, f1⟩
          have HF1 := Lib.hid (HF0.out.noTrans f1)
          clear f1 HF0
          go_wp2_with fail
          refine (K1.out _).mono ?_
          rintro e w2 ⟨rfl, f2⟩
          have HF2 := Lib.hid (HF1.out.noTrans f2)
          clear f2 HF1
          go_wp2_with fail
          refine (K2.out _).mono ?_
          rintro e w3 ⟨rfl, f3⟩
          have HF3 := Lib.hid (HF2.out.noTrans f3)
          clear f3 HF2
          go_wp2_with fail
          refine (K3.out _).mono ?_
          rintro e w4 ⟨rfl, f4⟩
          have HF4 := Lib.hid (HF3.out.noTrans f4)
          clear f4 HF3
          go_wp2_with fail
          refine (K4.out _).mono ?_
          rintro e w5 ⟨rfl, f5⟩
          have HF5 := Lib.hid (HF4.out.noTrans f5)
          clear f5 HF4
          go_wp2_with fail
          refine (K5.out _).mono ?_
          rintro e w6 ⟨rfl, f6⟩
          have HF6 := Lib.hid (HF5.out.noTrans f6)
          clear f6 HF5
          go_wp2_with fail
          go_ret
          exact ⟨by first | rfl | (simp; done) | (simp; omega), HF6.out⟩

  · rw [(slE_2 he).1, (slE_2 he).2] at K1
    clear he
    go_enter Try.func8, Try.ntmps8
    go_wp2_with fail
    refine (awake_any _).mono ?_
    rintro e w1 ⟨rfl, f1⟩
    have HF1 := Lib.hid (HF0.out.noTrans f1)
    clear f1 HF0
    go_wp2_with fail
    refine (K1.out _).mono ?_
    rintro e w2 ⟨rfl, f2⟩
    have HF2 := Lib.hid (HF1.out.noTrans f2)
    clear f2 HF1
    go_wp2_with fail
    go_ret
    exact ⟨by first | rfl | (simp; done) | (simp; omega), HF2.out⟩


end Go.Proofs.Ytgddmmlkpajpmaa
