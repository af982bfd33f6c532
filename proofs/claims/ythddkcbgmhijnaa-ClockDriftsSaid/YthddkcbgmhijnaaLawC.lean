/- ClockForward. -/
import Derived.Test.YthddkcbgmhijnaaAwk
namespace Go.Proofs.Ythddkcbgmhijnaa
set_option linter.unusedVariables false
open Go.RowKit
theorem sh_step {o d t : Int} (hk : OkC o d) : sh o d t ≤ sh o d (t + 1) ∧ sh o d (t + 1) ≤ sh o d t + 2 := by
  refine ⟨sh_mono hk.d1 (by omega), ?_⟩
  obtain ⟨-, -, d1, d2⟩ := hk
  have e : (t + 1) * d = t * d + d := by rw [Int.add_mul, Int.one_mul]
  unfold sh fl
  rw [e]
  omega
theorem shE_0 {o d t : Int} (hk : okC o d = true) (ht : isT t = true) : shV o d t = sh o d t ∧ shE o d t = 0 := by simp [shV, shE, hk, ht]
theorem shE_1 {o d t : Int} (hk : okC o d = false) : shV o d t = 0 ∧ shE o d t = 1 := by simp [shV, shE, hk]
theorem shE_2 {o d t : Int} (hk : okC o d = true) (ht : isT t = false) : shV o d t = 0 ∧ shE o d t = 2 := by simp [shV, shE, hk, ht]
set_option maxHeartbeats 4000000 in
theorem forward_law (o d t : Int) (w : World) (x1 : -9223372036854775808 ≤ t) (x2 : t ≤ 9223372036854775807) : Calls Try.prog 6 #[.agg #[.int .i64 o, .int .i64 d], .int .i64 t] w fun e w' => e = .returned (.bool true) ∧ Fr no w w' := by
  obtain ⟨hF, c0_0, c1_0⟩ := box_clock w o d
  obtain ⟨W, hW⟩ : ∃ W, W = w.alloc (.cells #[.int .i64 o, .int .i64 d] 23 (0, 0)) := ⟨_, rfl⟩
  rw [← hW] at hF c0_0 c1_0
  have HW := Lib.hid hW
  have HF0 := Lib.hid hF
  clear hW hF
  have K1 := Lib.hid (fun w => show_any o d t w)
  cases hk : okC o d
  · rw [(shE_1 (t := t) hk).1, (shE_1 (t := t) hk).2] at K1
    clear hk
    go_enter Try.func6, Try.ntmps6
    go_wp2_with fail
    rw [← HW.out]
    refine (awake_any _).mono ?_
    rintro e w1 ⟨rfl, f1⟩
    have HF1 := Lib.hid (HF0.out.noTrans f1)
    have c0_1 := f1.keepc c0_0
    have c1_1 := f1.keepc c1_0
    clear f1 c0_0 c1_0
    go_wp2_with fail
    refine (K1.out _).mono ?_
    rintro e w2 ⟨rfl, f2⟩
    have HF2 := Lib.hid (HF1.out.noTrans f2)
    have c0_2 := f2.keepc c0_1
    have c1_2 := f2.keepc c1_1
    clear f2 c0_1 c1_1
    go_wp2_with fail
    go_ret
    exact ⟨by simp, HF2.out⟩
  · cases ht : isT t
    · rw [(shE_2 hk ht).1, (shE_2 hk ht).2] at K1
      clear hk ht
      go_enter Try.func6, Try.ntmps6
      go_wp2_with fail
      rw [← HW.out]
      refine (awake_any _).mono ?_
      rintro e w1 ⟨rfl, f1⟩
      have HF1 := Lib.hid (HF0.out.noTrans f1)
      have c0_1 := f1.keepc c0_0
      have c1_1 := f1.keepc c1_0
      clear f1 c0_0 c1_0
      go_wp2_with fail
      refine (K1.out _).mono ?_
      rintro e w2 ⟨rfl, f2⟩
      have HF2 := Lib.hid (HF1.out.noTrans f2)
      have c0_2 := f2.keepc c0_1
      have c1_2 := f2.keepc c1_1
      clear f2 c0_1 c1_1
      go_wp2_with fail
      go_ret
      exact ⟨by simp, HF2.out⟩
    · rw [(shE_0 hk ht).1, (shE_0 hk ht).2] at K1
      obtain ⟨t0, t1⟩ := isT_t.1 ht
      simp only [MT] at t1
      by_cases hm : t = 1099511627776
      · subst hm
        generalize sh o d 1099511627776 = v at *
        clear hk ht t0 t1
        go_enter Try.func6, Try.ntmps6
        go_wp2_with fail
        rw [← HW.out]
        refine (awake_any _).mono ?_
        rintro e w1 ⟨rfl, f1⟩
        have HF1 := Lib.hid (HF0.out.noTrans f1)
        have c0_1 := f1.keepc c0_0
        have c1_1 := f1.keepc c1_0
        clear f1 c0_0 c1_0
        go_wp2_with fail
        refine (K1.out _).mono ?_
        rintro e w2 ⟨rfl, f2⟩
        have HF2 := Lib.hid (HF1.out.noTrans f2)
        have c0_2 := f2.keepc c0_1
        have c1_2 := f2.keepc c1_1
        clear f2 c0_1 c1_1
        go_wp2_with fail
        go_ret
        exact ⟨by simp, HF2.out⟩
      · have ht2 : isT (t + 1) = true := isT_t.2 ⟨by omega, by simp only [MT]; omega⟩
        have K2 := Lib.hid (fun w => show_any o d (t + 1) w)
        rw [(shE_0 hk ht2).1, (shE_0 hk ht2).2] at K2
        obtain ⟨s1, s2⟩ := sh_step (t := t) (OkC.of hk)
        obtain ⟨u1, u2⟩ := fl_bd2 (OkC.of hk) t0 (show t ≤ MT by simp only [MT]; omega)
        have hm2 : (t == 1099511627776) = false := by simpa using hm
        have t2 : t ≤ 1099511627775 := by omega
        generalize sh o d t = v at *
        generalize sh o d (t + 1) = v2 at *
        clear hk ht ht2
        go_enter Try.func6, Try.ntmps6
        go_wp2_with fail
        rw [← HW.out]
        refine (awake_any _).mono ?_
        rintro e w1 ⟨rfl, f1⟩
        have HF1 := Lib.hid (HF0.out.noTrans f1)
        have c0_1 := f1.keepc c0_0
        have c1_1 := f1.keepc c1_0
        clear f1 c0_0 c1_0
        go_wp2_with fail
        refine (K1.out _).mono ?_
        rintro e w2 ⟨rfl, f2⟩
        have HF2 := Lib.hid (HF1.out.noTrans f2)
        have c0_2 := f2.keepc c0_1
        have c1_2 := f2.keepc c1_1
        clear f2 c0_1 c1_1
        go_wp2_with fail
        refine (K2.out _).mono ?_
        rintro e w3 ⟨rfl, f3⟩
        have HF3 := Lib.hid (HF2.out.noTrans f3)
        have c0_3 := f3.keepc c0_2
        have c1_3 := f3.keepc c1_2
        clear f3 c0_2 c1_2
        go_wp2_with fail
        go_ret
        exact ⟨by first | (simp; done) | (simp; omega), HF3.out⟩
end Go.Proofs.Ythddkcbgmhijnaa
