/- Lasts; Fits; Apart. -/
import Derived.Test.YtgddmmlkpajpmaaLw2
namespace Go.Proofs.Ytgddmmlkpajpmaa
set_option linter.unusedVariables false
open Go.RowKit

theorem lasts {o c t k D : Int} (k0 : 0 ≤ k) (k1 : k ≤ 4096) (D0 : 0 ≤ D) (D1 : D ≤ 100000) (c1 : -D ≤ c) (c2 : c ≤ D) : k * 10000 ≤ leF k D ∧ sh o c t + k * 10000 ≤ sh o c (t + leF k D) := by
  obtain ⟨b1, b2⟩ := leF_bd k0 k1 D0 D1
  have h := (le_le (n := k) (r := leF k D) D1).1 (Int.le_refl _)
  generalize leF k D = l at *
  have e : (t + l) * c = t * c + l * c := Int.add_mul ..
  have h1 : l * (-D) ≤ l * c := Int.mul_le_mul_of_nonneg_left c1 (by omega)
  rw [Int.mul_neg] at h1
  rw [Int.mul_sub] at h
  have h2 : 0 ≤ l * D := Int.mul_nonneg (by omega) D0
  unfold sh fl
  rw [e]
  generalize t * c = p at *
  generalize l * c = q at *
  generalize l * D = M at *
  constructor <;> omega

set_option maxRecDepth 20000 in
set_option maxHeartbeats 4000000 in
theorem lasts_law (o c t k D : Int) (w : World) (t1 : -9223372036854775808 ≤ t) (t2 : t ≤ 9223372036854775807) : Calls Try.prog 6 #[.agg #[.int .i64 o, .int .i64 c], .agg #[.int .i64 t, .int .i64 k, .int .i64 D]] w fun e w' => e = .returned (.bool true) ∧ Fr no w w' := by
  obtain ⟨hF, a0, a1⟩ := box_clock w o c
  obtain ⟨W1, hW1⟩ : ∃ W1, W1 = w.alloc (.cells #[.int .i64 o, .int .i64 c] 31 (0, 0)) := ⟨_, rfl⟩
  have hs : W1.heap.size = w.heap.size + 1 := by rw [hW1]; simp
  rw [← hW1] at hF a0 a1
  obtain ⟨hF2, c0_0, c1_0, c2_0⟩ := box3 W1 t k D
  obtain ⟨W, hW⟩ : ∃ W, W = W1.alloc (.cells #[.int .i64 t, .int .i64 k, .int .i64 D] 22 (0, 0)) := ⟨_, rfl⟩
  rw [← hW] at hF2 c0_0 c1_0 c2_0
  have hF3 := hF.noTrans hF2
  have a0_0 := hF2.keepc a0
  have a1_0 := hF2.keepc a1
  rw [hs] at c0_0 c1_0 c2_0
  rw [hW1] at hW
  have HW := Lib.hid hW
  have HF0 := Lib.hid hF3
  clear hF3 hW hF hF2 hW1 hs a0 a1
  have K1 := Lib.hid (fun w => length_any k D w)
  by_cases he : leE k D = 0
  · obtain ⟨hk, hD⟩ : isK k = true ∧ isD D = true := by
      unfold leE at he
      cases h1 : isK k <;> cases h2 : isD D <;> simp [h1, h2] at he ⊢
    obtain ⟨D0, D1⟩ := isD_t.1 hD
    obtain ⟨k0, k1⟩ := isK_t.1 hk
    obtain ⟨g1, g2⟩ := leF_bd k0 k1 D0 D1
    rw [he, show leV k D = leF k D by simp [leV, hk, hD]] at K1
    have K2 := Lib.hid (fun w => ldrift_any o c D w D0 D1)
    have HL := Lib.hid (fun c1 c2 => lasts (o := o) (c := c) (t := t) k0 k1 D0 D1 c1 c2)
    generalize leF k D = d at *
    clear he hk hD
    by_cases h1 : t < 0
    · clear t1 t2
      go_enter Try.func6, Try.ntmps6
      go_wp2_with fail
      rw [← HW.out]
      refine (awake_any _).mono ?_
      rintro e w1 ⟨rfl, f1⟩
      have HF1 := Lib.hid (HF0.out.noTrans f1)
      have a0_1 := f1.keepc a0_0
      have a1_1 := f1.keepc a1_0
      have c0_1 := f1.keepc c0_0
      have c1_1 := f1.keepc c1_0
      have c2_1 := f1.keepc c2_0
      clear f1 a0_0 a1_0 c0_0 c1_0 c2_0 HF0
      go_wp2_with fail
      go_quiet (fail)
      rename_i nq
      obtain ⟨v1, hv1⟩ : ∃ v, v = w1.drewN nq := ⟨_, rfl⟩
      have HF1 := Lib.hid (show Fr no w v1 by rw [hv1]; exact HF1.out.drewN nq)
      have a0_1 : v1.cell? ⟨w.heap.size, 0, none⟩ = some (.int .i64 o) := by rw [hv1]; simpa using a0_1
      have a1_1 : v1.cell? ⟨w.heap.size, 1, none⟩ = some (.int .i64 c) := by rw [hv1]; simpa using a1_1
      rw [← hv1]
      clear hv1 c0_1 c1_1 c2_1
      go_wp2_with fail
      refine (K1.out _).mono ?_
      rintro e w2 ⟨rfl, f2⟩
      have HF2 := Lib.hid (HF1.out.noTrans f2)
      have a0_2 := f2.keepc a0_1
      have a1_2 := f2.keepc a1_1
      clear f2 HF1 a0_1 a1_1
      go_wp2_with fail
      go_ret
      exact ⟨by first | rfl | (simp; done) | (simp; omega), HF2.out⟩

    have h2 : 0 ≤ t := by omega
    clear h1
    by_cases h1 : 1099511627776 - d < t
    · clear t1 t2
      go_enter Try.func6, Try.ntmps6
      go_wp2_with fail
      rw [← HW.out]
      refine (awake_any _).mono ?_
      rintro e w1 ⟨rfl, f1⟩
      have HF1 := Lib.hid (HF0.out.noTrans f1)
      have a0_1 := f1.keepc a0_0
      have a1_1 := f1.keepc a1_0
      have c0_1 := f1.keepc c0_0
      have c1_1 := f1.keepc c1_0
      have c2_1 := f1.keepc c2_0
      clear f1 a0_0 a1_0 c0_0 c1_0 c2_0 HF0
      go_wp2_with fail
      go_quiet (fail)
      rename_i nq
      obtain ⟨v1, hv1⟩ : ∃ v, v = w1.drewN nq := ⟨_, rfl⟩
      have HF1 := Lib.hid (show Fr no w v1 by rw [hv1]; exact HF1.out.drewN nq)
      have a0_1 : v1.cell? ⟨w.heap.size, 0, none⟩ = some (.int .i64 o) := by rw [hv1]; simpa using a0_1
      have a1_1 : v1.cell? ⟨w.heap.size, 1, none⟩ = some (.int .i64 c) := by rw [hv1]; simpa using a1_1
      rw [← hv1]
      clear hv1 c0_1 c1_1 c2_1
      go_wp2_with fail
      refine (K1.out _).mono ?_
      rintro e w2 ⟨rfl, f2⟩
      have HF2 := Lib.hid (HF1.out.noTrans f2)
      have a0_2 := f2.keepc a0_1
      have a1_2 := f2.keepc a1_1
      clear f2 HF1 a0_1 a1_1
      go_wp2_with fail
      go_ret
      exact ⟨by first | rfl | (simp; done) | (simp; omega), HF2.out⟩

    have h3 : t ≤ 1099511627776 - d := by omega
    clear h1 t1 t2
    cases ka : inR c (-D) D
    · rw [ka] at K2
      clear ka
      go_enter Try.func6, Try.ntmps6
      go_wp2_with fail
      rw [← HW.out]
      refine (awake_any _).mono ?_
      rintro e w1 ⟨rfl, f1⟩
      have HF1 := Lib.hid (HF0.out.noTrans f1)
      have a0_1 := f1.keepc a0_0
      have a1_1 := f1.keepc a1_0
      have c0_1 := f1.keepc c0_0
      have c1_1 := f1.keepc c1_0
      have c2_1 := f1.keepc c2_0
      clear f1 a0_0 a1_0 c0_0 c1_0 c2_0 HF0
      go_wp2_with fail
      go_quiet (fail)
      rename_i nq
      obtain ⟨v1, hv1⟩ : ∃ v, v = w1.drewN nq := ⟨_, rfl⟩
      have HF1 := Lib.hid (show Fr no w v1 by rw [hv1]; exact HF1.out.drewN nq)
      have a0_1 : v1.cell? ⟨w.heap.size, 0, none⟩ = some (.int .i64 o) := by rw [hv1]; simpa using a0_1
      have a1_1 : v1.cell? ⟨w.heap.size, 1, none⟩ = some (.int .i64 c) := by rw [hv1]; simpa using a1_1
      rw [← hv1]
      clear hv1 c0_1 c1_1 c2_1
      go_wp2_with fail
      refine (K1.out _).mono ?_
      rintro e w2 ⟨rfl, f2⟩
      have HF2 := Lib.hid (HF1.out.noTrans f2)
      have a0_2 := f2.keepc a0_1
      have a1_2 := f2.keepc a1_1
      clear f2 HF1 a0_1 a1_1
      go_wp2_with fail
      refine (K2.out _).mono ?_
      rintro e w3 ⟨rfl, f3⟩
      have HF3 := Lib.hid (HF2.out.noTrans f3)
      have a0_3 := f3.keepc a0_2
      have a1_3 := f3.keepc a1_2
      clear f3 HF2 a0_2 a1_2
      go_wp2_with fail
      go_ret
      exact ⟨by first | rfl | (simp; done) | (simp; omega), HF3.out⟩

    rw [ka] at K2
    obtain ⟨x1, x2⟩ := inR_t.1 ka
    obtain ⟨l1, l2⟩ := HL.out x1 x2
    have ht : isT t = true := isT_t.2 ⟨h2, by simp only [MT]; omega⟩
    have ht2 : isT (t + d) = true := isT_t.2 ⟨by omega, by simp only [MT]; omega⟩
    have K3 := Lib.hid (fun w => show_any o c t w)
    have K4 := Lib.hid (fun w => show_any o c (t + d) w)
    cases hc : okC o c
    · rw [show shV o c t = 0 by simp [shV, hc], show shE o c t = 1 by simp [shE, hc]] at K3
      clear ka hc x1 x2 l1 l2 ht ht2
      go_enter Try.func6, Try.ntmps6
      go_wp2_with fail
      rw [← HW.out]
      refine (awake_any _).mono ?_
      rintro e w1 ⟨rfl, f1⟩
      have HF1 := Lib.hid (HF0.out.noTrans f1)
      have a0_1 := f1.keepc a0_0
      have a1_1 := f1.keepc a1_0
      have c0_1 := f1.keepc c0_0
      have c1_1 := f1.keepc c1_0
      have c2_1 := f1.keepc c2_0
      clear f1 a0_0 a1_0 c0_0 c1_0 c2_0 HF0
      go_wp2_with fail
      go_quiet (fail)
      rename_i nq
      obtain ⟨v1, hv1⟩ : ∃ v, v = w1.drewN nq := ⟨_, rfl⟩
      have HF1 := Lib.hid (show Fr no w v1 by rw [hv1]; exact HF1.out.drewN nq)
      have a0_1 : v1.cell? ⟨w.heap.size, 0, none⟩ = some (.int .i64 o) := by rw [hv1]; simpa using a0_1
      have a1_1 : v1.cell? ⟨w.heap.size, 1, none⟩ = some (.int .i64 c) := by rw [hv1]; simpa using a1_1
      rw [← hv1]
      clear hv1 c0_1 c1_1 c2_1
      go_wp2_with fail
      refine (K1.out _).mono ?_
      rintro e w2 ⟨rfl, f2⟩
      have HF2 := Lib.hid (HF1.out.noTrans f2)
      have a0_2 := f2.keepc a0_1
      have a1_2 := f2.keepc a1_1
      clear f2 HF1 a0_1 a1_1
      go_wp2_with fail
      refine (K2.out _).mono ?_
      rintro e w3 ⟨rfl, f3⟩
      have HF3 := Lib.hid (HF2.out.noTrans f3)
      have a0_3 := f3.keepc a0_2
      have a1_3 := f3.keepc a1_2
      clear f3 HF2 a0_2 a1_2
      go_wp2_with fail
      refine (K3.out _).mono ?_
      rintro e w4 ⟨rfl, f4⟩
      have HF4 := Lib.hid (HF3.out.noTrans f4)
      have a0_4 := f4.keepc a0_3
      have a1_4 := f4.keepc a1_3
      clear f4 HF3 a0_3 a1_3
      go_wp2_with fail
      go_ret
      exact ⟨by first | rfl | (simp; done) | (simp; omega), HF4.out⟩

    · rw [show shV o c t = sh o c t by simp [shV, hc, ht], show shE o c t = 0 by simp [shE, hc, ht]] at K3
      rw [show shV o c (t + d) = sh o c (t + d) by simp [shV, hc, ht2], show shE o c (t + d) = 0 by simp [shE, hc, ht2]] at K4
      obtain ⟨u1, u2⟩ := fl_bd2 (OkC.of hc) (isT_t.1 ht).1 (isT_t.1 ht).2
      obtain ⟨u3, u4⟩ := fl_bd2 (OkC.of hc) (isT_t.1 ht2).1 (isT_t.1 ht2).2
      generalize sh o c t = p at *
      generalize sh o c (t + d) = q at *
      clear ka hc x1 x2 ht ht2 HL
      go_enter Try.func6, Try.ntmps6
      go_wp2_with fail
      rw [← HW.out]
      refine (awake_any _).mono ?_
      rintro e w1 ⟨rfl, f1⟩
      have HF1 := Lib.hid (HF0.out.noTrans f1)
      have a0_1 := f1.keepc a0_0
      have a1_1 := f1.keepc a1_0
      have c0_1 := f1.keepc c0_0
      have c1_1 := f1.keepc c1_0
      have c2_1 := f1.keepc c2_0
      clear f1 a0_0 a1_0 c0_0 c1_0 c2_0 HF0
      go_wp2_with fail
      go_quiet (fail)
      rename_i nq
      obtain ⟨v1, hv1⟩ : ∃ v, v = w1.drewN nq := ⟨_, rfl⟩
      have HF1 := Lib.hid (show Fr no w v1 by rw [hv1]; exact HF1.out.drewN nq)
      have a0_1 : v1.cell? ⟨w.heap.size, 0, none⟩ = some (.int .i64 o) := by rw [hv1]; simpa using a0_1
      have a1_1 : v1.cell? ⟨w.heap.size, 1, none⟩ = some (.int .i64 c) := by rw [hv1]; simpa using a1_1
      rw [← hv1]
      clear hv1 c0_1 c1_1 c2_1
      go_wp2_with fail
      refine (K1.out _).mono ?_
      rintro e w2 ⟨rfl, f2⟩
      have HF2 := Lib.hid (HF1.out.noTrans f2)
      have a0_2 := f2.keepc a0_1
      have a1_2 := f2.keepc a1_1
      clear f2 HF1 a0_1 a1_1
      go_wp2_with fail
      refine (K2.out _).mono ?_
      rintro e w3 ⟨rfl, f3⟩
      have HF3 := Lib.hid (HF2.out.noTrans f3)
      have a0_3 := f3.keepc a0_2
      have a1_3 := f3.keepc a1_2
      clear f3 HF2 a0_2 a1_2
      go_wp2_with fail
      refine (K3.out _).mono ?_
      rintro e w4 ⟨rfl, f4⟩
      have HF4 := Lib.hid (HF3.out.noTrans f4)
      have a0_4 := f4.keepc a0_3
      have a1_4 := f4.keepc a1_3
      clear f4 HF3 a0_3 a1_3
      go_wp2_with fail
      refine (K4.out _).mono ?_
      rintro e w5 ⟨rfl, f5⟩
      have HF5 := Lib.hid (HF4.out.noTrans f5)
      have a0_5 := f5.keepc a0_4
      have a1_5 := f5.keepc a1_4
      clear f5 HF4 a0_4 a1_4
      go_wp2_with fail
      go_ret
      exact ⟨by first | rfl | (simp; done) | (simp; omega), HF5.out⟩

  · generalize leE k D = r at *
    generalize leV k D = g at *
    have hr2 : (r == 0) = false := by simpa using he
    have hr3 : decide (r = 0) = false := by simpa using he
    clear t1 t2
    go_enter Try.func6, Try.ntmps6
    go_wp2_with fail
    rw [← HW.out]
    refine (awake_any _).mono ?_
    rintro e w1 ⟨rfl, f1⟩
    have HF1 := Lib.hid (HF0.out.noTrans f1)
    have a0_1 := f1.keepc a0_0
    have a1_1 := f1.keepc a1_0
    have c0_1 := f1.keepc c0_0
    have c1_1 := f1.keepc c1_0
    have c2_1 := f1.keepc c2_0
    clear f1 a0_0 a1_0 c0_0 c1_0 c2_0 HF0
    go_wp2_with fail
    go_quiet (fail)
    rename_i nq
    obtain ⟨v1, hv1⟩ : ∃ v, v = w1.drewN nq := ⟨_, rfl⟩
    have HF1 := Lib.hid (show Fr no w v1 by rw [hv1]; exact HF1.out.drewN nq)
    have a0_1 : v1.cell? ⟨w.heap.size, 0, none⟩ = some (.int .i64 o) := by rw [hv1]; simpa using a0_1
    have a1_1 : v1.cell? ⟨w.heap.size, 1, none⟩ = some (.int .i64 c) := by rw [hv1]; simpa using a1_1
    rw [← hv1]
    clear hv1 c0_1 c1_1 c2_1
    go_wp2_with fail
    refine (K1.out _).mono ?_
    rintro e w2 ⟨rfl, f2⟩
    have HF2 := Lib.hid (HF1.out.noTrans f2)
    have a0_2 := f2.keepc a0_1
    have a1_2 := f2.keepc a1_1
    clear f2 HF1 a0_1 a1_1
    go_wp2_with fail
    go_ret
    exact ⟨by first | rfl | (simp; done) | (simp; omega), HF2.out⟩


end Go.Proofs.Ytgddmmlkpajpmaa
