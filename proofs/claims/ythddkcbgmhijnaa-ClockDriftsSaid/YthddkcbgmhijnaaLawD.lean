/- ClockDrifts. -/
import Derived.Test.YthddkcbgmhijnaaLawC
namespace Go.Proofs.Ythddkcbgmhijnaa
set_option linter.unusedVariables false
open Go.RowKit
theorem fl_add {a b : Int} : fl a + fl b ≤ fl (a + b) ∧ fl (a + b) ≤ fl a + fl b + 1 := by unfold fl; omega
theorem fl_ab {x k : Int} (h1 : -k ≤ x) (h2 : x ≤ k) : -(k / 1000000000) - 1 ≤ fl x ∧ fl x ≤ k / 1000000000 := by unfold fl; omega
theorem drift {o d t n : Int} (hk : OkC o d) (hn : 0 ≤ n) : sh o d (t + n) - sh o d t - n ≤ n * 100000 / 1000000000 + 1 ∧ -(n * 100000 / 1000000000 + 1) ≤ sh o d (t + n) - sh o d t - n := by
  obtain ⟨-, -, d1, d2⟩ := hk
  have e : (t + n) * d = t * d + n * d := Int.add_mul ..
  have h1 : n * (-100000) ≤ n * d := Int.mul_le_mul_of_nonneg_left d1 hn
  have h2 : n * d ≤ n * 100000 := Int.mul_le_mul_of_nonneg_left d2 hn
  obtain ⟨a1, a2⟩ := fl_add (a := t * d) (b := n * d)
  obtain ⟨b1, b2⟩ := fl_ab (x := n * d) (k := n * 100000) (by omega) h2
  unfold sh
  rw [e]
  generalize n * 100000 / 1000000000 = q at *
  omega
set_option maxHeartbeats 4000000 in
theorem drifts_law (o d t n : Int) (w : World) (x1 : -9223372036854775808 ≤ t) (x2 : t ≤ 9223372036854775807) (x3 : -9223372036854775808 ≤ n) (x4 : n ≤ 9223372036854775807) : Calls Try.prog 7 #[.agg #[.int .i64 o, .int .i64 d], .int .i64 t, .int .i64 n] w fun e w' => e = .returned (.bool true) ∧ Fr no w w' := by
  obtain ⟨hF, c0_0, c1_0⟩ := box_clock w o d
  obtain ⟨W, hW⟩ : ∃ W, W = w.alloc (.cells #[.int .i64 o, .int .i64 d] 23 (0, 0)) := ⟨_, rfl⟩
  rw [← hW] at hF c0_0 c1_0
  have HW := Lib.hid hW
  have HF0 := Lib.hid hF
  clear hW hF
  by_cases h1 : n < 0
  · clear x1 x2 x3 x4
    go_enter Try.func7, Try.ntmps7
    go_wp2_with fail
    rw [← HW.out]
    refine (awake_any _).mono ?_
    rintro e w1 ⟨rfl, f1⟩
    have HF1 := Lib.hid (HF0.out.noTrans f1)
    have c0_1 := f1.keepc c0_0
    have c1_1 := f1.keepc c1_0
    clear f1 c0_0 c1_0
    go_wp2_with fail
    go_ret
    exact ⟨rfl, HF1.out⟩
  have n0 : 0 ≤ n := by omega
  clear h1
  by_cases h2 : 1099511627776 < n
  · clear x1 x2 x3
    go_enter Try.func7, Try.ntmps7
    go_wp2_with fail
    rw [← HW.out]
    refine (awake_any _).mono ?_
    rintro e w1 ⟨rfl, f1⟩
    have HF1 := Lib.hid (HF0.out.noTrans f1)
    have c0_1 := f1.keepc c0_0
    have c1_1 := f1.keepc c1_0
    clear f1 c0_0 c1_0
    go_wp2_with fail
    go_ret
    exact ⟨rfl, HF1.out⟩
  have n1 : n ≤ 1099511627776 := by omega
  clear h2
  by_cases h3 : t < 0
  · clear x1 x2 x3 x4
    go_enter Try.func7, Try.ntmps7
    go_wp2_with fail
    rw [← HW.out]
    refine (awake_any _).mono ?_
    rintro e w1 ⟨rfl, f1⟩
    have HF1 := Lib.hid (HF0.out.noTrans f1)
    have c0_1 := f1.keepc c0_0
    have c1_1 := f1.keepc c1_0
    clear f1 c0_0 c1_0
    go_wp2_with fail
    go_ret
    exact ⟨rfl, HF1.out⟩
  have t0 : 0 ≤ t := by omega
  clear h3
  by_cases h4 : 1099511627776 - n < t
  · clear x1 x3 x4
    go_enter Try.func7, Try.ntmps7
    go_wp2_with fail
    rw [← HW.out]
    refine (awake_any _).mono ?_
    rintro e w1 ⟨rfl, f1⟩
    have HF1 := Lib.hid (HF0.out.noTrans f1)
    have c0_1 := f1.keepc c0_0
    have c1_1 := f1.keepc c1_0
    clear f1 c0_0 c1_0
    go_wp2_with fail
    go_ret
    exact ⟨rfl, HF1.out⟩
  have t1 : t ≤ 1099511627776 - n := by omega
  clear h4 x1 x2 x3 x4
  have K1 := Lib.hid (fun w => show_any o d t w)
  have K2 := Lib.hid (fun w => show_any o d (t + n) w)
  cases hk : okC o d
  · rw [(shE_1 (t := t) hk).1, (shE_1 (t := t) hk).2] at K1
    rw [(shE_1 (t := t + n) hk).1, (shE_1 (t := t + n) hk).2] at K2
    clear hk
    go_enter Try.func7, Try.ntmps7
    go_wp2_with fail
    rw [← HW.out]
    refine (awake_any _).mono ?_
    rintro e w1 ⟨rfl, f1⟩
    have HF1 := Lib.hid (HF0.out.noTrans f1)
    have c0_1 := f1.keepc c0_0
    have c1_1 := f1.keepc c1_0
    clear f1 c0_0 c1_0
    go_wp2_with fail
    refine (K1.out _).mono ?_
    rintro e w2 ⟨rfl, f2⟩
    have HF2 := Lib.hid (HF1.out.noTrans f2)
    have c0_2 := f2.keepc c0_1
    have c1_2 := f2.keepc c1_1
    clear f2 c0_1 c1_1
    go_wp2_with fail
    refine (K2.out _).mono ?_
    rintro e w3 ⟨rfl, f3⟩
    have HF3 := Lib.hid (HF2.out.noTrans f3)
    have c0_3 := f3.keepc c0_2
    have c1_3 := f3.keepc c1_2
    clear f3 c0_2 c1_2
    go_wp2_with fail
    go_ret
    exact ⟨rfl, HF3.out⟩
  · have ht : isT t = true := isT_t.2 ⟨t0, by simp only [MT]; omega⟩
    have ht2 : isT (t + n) = true := isT_t.2 ⟨by omega, by simp only [MT]; omega⟩
    rw [(shE_0 hk ht).1, (shE_0 hk ht).2] at K1
    rw [(shE_0 hk ht2).1, (shE_0 hk ht2).2] at K2
    obtain ⟨u1, u2⟩ := fl_bd2 (OkC.of hk) t0 (show t ≤ MT by simp only [MT]; omega)
    obtain ⟨u3, u4⟩ := fl_bd2 (OkC.of hk) (show 0 ≤ t + n by omega) (show t + n ≤ MT by simp only [MT]; omega)
    have HD := Lib.hid (drift (t := t) (OkC.of hk) n0)
    generalize sh o d t = v at *
    generalize sh o d (t + n) = v2 at *
    have q0 : 0 ≤ n * 100000 / 1000000000 := by omega
    have q1 : n * 100000 / 1000000000 ≤ 109951162 := by omega
    have q2 : 0 ≤ n * 100000 := by omega
    obtain ⟨dd1, dd2⟩ := HD.out
    clear hk ht ht2 HD
    go_enter Try.func7, Try.ntmps7
    go_wp2_with fail
    rw [← HW.out]
    refine (awake_any _).mono ?_
    rintro e w1 ⟨rfl, f1⟩
    have HF1 := Lib.hid (HF0.out.noTrans f1)
    have c0_1 := f1.keepc c0_0
    have c1_1 := f1.keepc c1_0
    clear f1 c0_0 c1_0
    go_wp2_with fail
    refine (K1.out _).mono ?_
    rintro e w2 ⟨rfl, f2⟩
    have HF2 := Lib.hid (HF1.out.noTrans f2)
    have c0_2 := f2.keepc c0_1
    have c1_2 := f2.keepc c1_1
    clear f2 c0_1 c1_1
    go_wp2_with fail
    refine (K2.out _).mono ?_
    rintro e w3 ⟨rfl, f3⟩
    have HF3 := Lib.hid (HF2.out.noTrans f3)
    have c0_3 := f3.keepc c0_2
    have c1_3 := f3.keepc c1_2
    clear f3 c0_2 c1_2
    go_wp2_with fail
    go_ret
    exact ⟨by first | (simp; done) | (simp; omega), HF3.out⟩
end Go.Proofs.Ythddkcbgmhijnaa
