/- What is wrong with a field: 'checkUnsigned', 'checkSigned', 'checkText'; 'Width'. -/
import Derived.Test.YtelpdihaonoedaaRows
import Derived.Test.YtelpdihaonoedaaBase
namespace Go.Proofs.Ytelpdihaonoedaa
open Go.RowKit

def uErr (width n : Int) : Int := if 1 ≤ width ∧ width ≤ 63 then (if n / 2 ^ width.toNat = 0 then 0 else 2) else 1
def sErr (width n : Int) : Int := if 2 ≤ width ∧ width ≤ 63 then (if n / 2 ^ (width.toNat - 1) = 0 ∨ n / 2 ^ (width.toNat - 1) = -1 then 0 else 2) else 1
def tErr (most len : Int) : Int := if 1 ≤ most ∧ most ≤ 4095 then (if len > most then 8 else 0) else 1

def between (a b x : Int) : Bool := decide (a ≤ x) && decide (x ≤ b)

theorem isUnsigned_any (x : Int) (w : World) : Calls Try.prog 124 #[.int .i64 x] w fun e w' => e = .returned (.bool (between 1 63 x)) ∧ w' = w := by
  by_cases h : 1 ≤ x <;> by_cases h2 : x ≤ 63
  all_goals
    go_enter Try.func124, Try.ntmps124
    go_wp2
    go_ret
    exact ⟨by simp [between, h, h2], rfl⟩
theorem isSigned_any (x : Int) (w : World) : Calls Try.prog 125 #[.int .i64 x] w fun e w' => e = .returned (.bool (between 2 63 x)) ∧ w' = w := by
  by_cases h : 2 ≤ x <;> by_cases h2 : x ≤ 63
  all_goals
    go_enter Try.func125, Try.ntmps125
    go_wp2
    go_ret
    exact ⟨by simp [between, h, h2], rfl⟩
theorem isText_any (x : Int) (w : World) : Calls Try.prog 126 #[.int .i64 x] w fun e w' => e = .returned (.bool (between 1 4095 x)) ∧ w' = w := by
  by_cases h : 1 ≤ x <;> by_cases h2 : x ≤ 4095
  all_goals
    go_enter Try.func126, Try.ntmps126
    go_wp2
    go_ret
    exact ⟨by simp [between, h, h2], rfl⟩

set_option maxHeartbeats 400000 in
theorem checkUnsigned_any (width n : Int) (w : World) :
    Calls Try.prog 108 #[.int .i64 width, .int .i64 n] w fun e w' => e = .returned (.int .i64 (uErr width n)) ∧ w' = w := by
  by_cases h : 1 ≤ width ∧ width ≤ 63
  · obtain ⟨h1, h2⟩ := h
    by_cases h3 : n / 2 ^ width.toNat = 0
    · have hb : (n / 2 ^ width.toNat != 0) = false := by simp [h3]
      have HF := Lib.hid (show uErr width n = 0 by simp [uErr, h1, h2, h3])
      clear h3
      go_enter Try.func108, Try.ntmps108
      go_wp2
      go_ret
      rw [HF.out]; exact ⟨rfl, rfl⟩
    · have hb : (n / 2 ^ width.toNat != 0) = true := by simp [h3]
      have HF := Lib.hid (show uErr width n = 2 by simp [uErr, h1, h2, h3])
      clear h3
      go_enter Try.func108, Try.ntmps108
      go_wp2
      go_ret
      rw [HF.out]; exact ⟨rfl, rfl⟩
  · have HF := Lib.hid (show uErr width n = 1 by simp [uErr, h])
    have hb : between 1 63 width = false := by simp only [between, Bool.and_eq_false_iff, decide_eq_false_iff_not]; omega
    go_enter Try.func108, Try.ntmps108
    go_wp2_with (go_at_call 124; refine (isUnsigned_any _ _).mono ?_; rintro e w' ⟨rfl, rfl⟩)
    go_ret
    rw [HF.out]; exact ⟨rfl, rfl⟩

set_option maxHeartbeats 400000 in
theorem checkSigned_any (width n : Int) (w : World) :
    Calls Try.prog 112 #[.int .i64 width, .int .i64 n] w fun e w' => e = .returned (.int .i64 (sErr width n)) ∧ w' = w := by
  by_cases h : 2 ≤ width ∧ width ≤ 63
  · obtain ⟨h1, h2⟩ := h
    by_cases h3 : n / 2 ^ (width.toNat - 1) = 0
    · have hb : (n / 2 ^ (width.toNat - 1) != 0) = false := by simp [h3]
      have HF := Lib.hid (show sErr width n = 0 by simp [sErr, h1, h2, h3])
      clear h3
      go_enter Try.func112, Try.ntmps112
      go_wp2
      go_ret
      rw [HF.out]; exact ⟨rfl, rfl⟩
    · have hb : (n / 2 ^ (width.toNat - 1) != 0) = true := by simp [h3]
      by_cases h4 : n / 2 ^ (width.toNat - 1) = -1
      · have hb2 : (n / 2 ^ (width.toNat - 1) != -1) = false := by simp [h4]
        have HF := Lib.hid (show sErr width n = 0 by simp [sErr, h1, h2, h4])
        clear h3 h4
        go_enter Try.func112, Try.ntmps112
        go_wp2
        go_ret
        rw [HF.out]; exact ⟨rfl, rfl⟩
      · have hb2 : (n / 2 ^ (width.toNat - 1) != -1) = true := by simp [h4]
        have HF := Lib.hid (show sErr width n = 2 by simp [sErr, h1, h2, h3, h4])
        clear h3 h4
        go_enter Try.func112, Try.ntmps112
        go_wp2
        go_ret
        rw [HF.out]; exact ⟨rfl, rfl⟩
  · have HF := Lib.hid (show sErr width n = 1 by simp [sErr, h])
    have hb : between 2 63 width = false := by simp only [between, Bool.and_eq_false_iff, decide_eq_false_iff_not]; omega
    go_enter Try.func112, Try.ntmps112
    go_wp2_with (go_at_call 125; refine (isSigned_any _ _).mono ?_; rintro e w' ⟨rfl, rfl⟩)
    go_ret
    rw [HF.out]; exact ⟨rfl, rfl⟩

set_option maxHeartbeats 400000 in
theorem checkText_any (most : Int) (s : ByteArray) (w : World) :
    Calls Try.prog 116 #[.int .i64 most, .string s] w fun e w' => e = .returned (.int .i64 (tErr most s.size)) ∧ w' = w := by
  by_cases h : 1 ≤ most ∧ most ≤ 4095
  · obtain ⟨h1, h2⟩ := h
    by_cases h3 : most < s.size
    · have HF := Lib.hid (show tErr most s.size = 8 by simp [tErr, h1, h2, h3])
      go_enter Try.func116, Try.ntmps116
      go_wp2
      go_ret
      rw [HF.out]; exact ⟨rfl, rfl⟩
    · have HF := Lib.hid (show tErr most s.size = 0 by simp [tErr, h1, h2, h3])
      go_enter Try.func116, Try.ntmps116
      go_wp2
      go_ret
      rw [HF.out]; exact ⟨rfl, rfl⟩
  · have HF := Lib.hid (show tErr most s.size = 1 by simp [tErr, h])
    have hb : between 1 4095 most = false := by simp only [between, Bool.and_eq_false_iff, decide_eq_false_iff_not]; omega
    go_enter Try.func116, Try.ntmps116
    go_wp2_with (go_at_call 126; refine (isText_any _ _).mono ?_; rintro e w' ⟨rfl, rfl⟩)
    go_ret
    rw [HF.out]; exact ⟨rfl, rfl⟩
end Go.Proofs.Ytelpdihaonoedaa
