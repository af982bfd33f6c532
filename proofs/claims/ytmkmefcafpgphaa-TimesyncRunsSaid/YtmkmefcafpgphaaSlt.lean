/- Slot, Begin, Send: the program's and the document's. -/
import Derived.Test.YtmkmefcafpgphaaRcR
namespace Go.Proofs.Ytmkmefcafpgphaa
set_option linter.unusedVariables false
open Go.RowKit

theorem fl_bd2 {o d t : Int} (hk : OkC o d) (t0 : 0 ≤ t) (t1 : t ≤ MT) : -1099621578939 ≤ sh o d t ∧ sh o d t ≤ 2199133206714 := by
  obtain ⟨f1, f2⟩ := fl_bd (mul_lo hk.d1 t0 t1) (mul_hi hk.d2 t0 t1)
  obtain ⟨o1, o2, -, -⟩ := hk
  simp only [MT] at t1
  unfold sh
  omega
theorem shV_bd (o d t : Int) : -1099621578939 ≤ shV o d t ∧ shV o d t ≤ 2199133206714 := by
  unfold shV
  split
  · rename_i h
    simp only [Bool.and_eq_true] at h
    exact fl_bd2 (OkC.of h.1) (isT_t.1 h.2).1 (isT_t.1 h.2).2
  · omega
/-- Of a slot. -/
def csE (o d s : Int) : Int := if okC o d then (if inR s 0 109951162 then 0 else 2) else 1
noncomputable def inV (o d s x : Int) : Int := if csE o d s = 0 then rcV o d (s * 10000 + x) else 0
def inE (o d s x : Int) : Int := if csE o d s = 0 then rcE o d (s * 10000 + x) else csE o d s
theorem csE_1 {o d s : Int} (h : okC o d = false) : csE o d s = 1 := by simp [csE, h]
theorem csE_2 {o d s : Int} (h : okC o d = true) (h2 : inR s 0 109951162 = false) : csE o d s = 2 := by simp [csE, h, h2]
theorem csE_0 {o d s : Int} (h : okC o d = true) (h2 : inR s 0 109951162 = true) : csE o d s = 0 := by simp [csE, h, h2]
theorem csE_0' {o d s : Int} (h : csE o d s = 0) : okC o d = true ∧ inR s 0 109951162 = true := by
  unfold csE at h
  cases h1 : okC o d <;> cases h2 : inR s 0 109951162 <;> simp [h1, h2] at h ⊢
set_option maxHeartbeats 2000000 in
theorem checkSlot_any (o d s : Int) (w : World) : Calls Try.prog 57 #[.agg #[.int .i64 o, .int .i64 d], .int .i64 s] w fun e w' => e = .returned (.int .i64 (csE o d s)) ∧ Fr no w w' := by
  obtain ⟨hF, c0, c1⟩ := box_clock w o d
  obtain ⟨W, hW⟩ : ∃ W, W = w.alloc (.cells #[.int .i64 o, .int .i64 d] 23 (0, 0)) := ⟨_, rfl⟩
  rw [← hW] at hF c0 c1
  have HW := Lib.hid hW
  have HF := Lib.hid hF
  clear hW hF
  have HC := Lib.hid (check_any o d W)
  have HI := Lib.hid (fun w => within_any s 0 109951162 w)
  cases hk : okC o d
  · rw [erC_1 hk] at HC
    have HR := Lib.hid (csE_1 (s := s) hk)
    clear hk
    go_enter Try.func57, Try.ntmps57
    go_wp2_with fail
    rw [← HW.out]
    refine HC.out.mono ?_
    rintro e w1 ⟨rfl, f1⟩
    have HF1 := Lib.hid (HF.out.noTrans f1)
    clear f1
    go_wp2_with fail
    go_ret
    rw [HR.out]
    exact ⟨rfl, HF1.out⟩
  · rw [erC_0 hk] at HC
    cases hi : inR s 0 109951162
    · rw [hi] at HI
      have HR := Lib.hid (csE_2 hk hi)
      clear hk hi
      go_enter Try.func57, Try.ntmps57
      go_wp2_with fail
      rw [← HW.out]
      refine HC.out.mono ?_
      rintro e w1 ⟨rfl, f1⟩
      have HF1 := Lib.hid (HF.out.noTrans f1)
      clear f1
      go_wp2_with fail
      refine (HI.out _).mono ?_
      rintro e w2 ⟨rfl, rfl⟩
      go_wp2_with fail
      go_ret
      rw [HR.out]
      exact ⟨rfl, HF1.out⟩
    · rw [hi] at HI
      have HR := Lib.hid (csE_0 hk hi)
      clear hk hi
      go_enter Try.func57, Try.ntmps57
      go_wp2_with fail
      rw [← HW.out]
      refine HC.out.mono ?_
      rintro e w1 ⟨rfl, f1⟩
      have HF1 := Lib.hid (HF.out.noTrans f1)
      clear f1
      go_wp2_with fail
      refine (HI.out _).mono ?_
      rintro e w2 ⟨rfl, rfl⟩
      go_wp2_with fail
      go_ret
      rw [HR.out]
      exact ⟨rfl, HF1.out⟩
theorem sending_any (s : Int) (w : World) (s0 : 0 ≤ s) (s1 : s ≤ 109951162) : Calls Try.prog 60 #[.int .i64 s] w fun e w' => e = .returned (.int .i64 (s * 10000 + 2120)) ∧ w' = w := by
  go_enter Try.func60, Try.ntmps60
  go_wp2_with fail
  go_ret
  exact ⟨rfl, rfl⟩
set_option maxHeartbeats 2000000 in
theorem send_any (o d s : Int) (w : World) : Calls Try.prog 32 #[.agg #[.int .i64 o, .int .i64 d], .int .i64 s] w fun e w' => e = .returned (.tuple #[.int .i64 (inV o d s 2120), .int .i64 (inE o d s 2120)]) ∧ Fr no w w' := by
  obtain ⟨hF, c0, c1⟩ := box_clock w o d
  obtain ⟨W, hW⟩ : ∃ W, W = w.alloc (.cells #[.int .i64 o, .int .i64 d] 23 (0, 0)) := ⟨_, rfl⟩
  rw [← hW] at hF c0 c1
  have HW := Lib.hid hW
  have HF := Lib.hid hF
  clear hW hF
  have HC := Lib.hid (checkSlot_any o d s W)
  by_cases hr : csE o d s = 0
  · have HR := Lib.hid (show inV o d s 2120 = rcV o d (s * 10000 + 2120) ∧ inE o d s 2120 = rcE o d (s * 10000 + 2120) by simp [inV, inE, hr])
    obtain ⟨hk, hi⟩ := csE_0' hr
    have HK := Lib.hid (OkC.of hk)
    obtain ⟨s0, s1⟩ := inR_t.1 hi
    clear hk hi
    rw [hr] at HC
    clear hr
    go_enter Try.func32, Try.ntmps32
    go_wp2_with fail
    rw [← HW.out]
    refine HC.out.mono ?_
    rintro e w1 ⟨rfl, f1⟩
    have HF1 := Lib.hid (HF.out.noTrans f1)
    have d0 := f1.keepc c0
    have d1 := f1.keepc c1
    clear f1
    go_wp2_with fail
    refine (dialOf_any o d _).mono ?_
    rintro e w3 ⟨rfl, hb, f3⟩
    have HF3 := Lib.hid (HF1.out.noTrans f3)
    have HS := Lib.hid (dreach_any o d (s * 10000 + 2120) _ w3 HK.out (two_cells hb).1 (two_cells hb).2.1)
    clear f3 hb
    go_wp2_with fail
    refine (sending_any s _ s0 s1).mono ?_
    rintro e w5 ⟨rfl, rfl⟩
    go_wp2_with fail
    refine (HS.out).mono ?_
    rintro e w4 ⟨rfl, f4⟩
    have HF4 := Lib.hid (HF3.out.noTrans f4)
    clear f4
    go_wp2_with fail
    go_ret2
    rw [HR.out.1, HR.out.2]
    exact ⟨rfl, HF4.out⟩
  · have HR := Lib.hid (show inV o d s 2120 = 0 ∧ inE o d s 2120 = csE o d s by simp [inV, inE, hr])
    generalize csE o d s = r at *
    have hr2 : (r == 0) = false := by simpa using hr
    go_enter Try.func32, Try.ntmps32
    go_wp2_with fail
    rw [← HW.out]
    refine HC.out.mono ?_
    rintro e w1 ⟨rfl, f1⟩
    have HF1 := Lib.hid (HF.out.noTrans f1)
    clear f1
    go_wp2_with fail
    go_ret2
    rw [HR.out.1, HR.out.2]
    exact ⟨rfl, HF1.out⟩
set_option maxHeartbeats 2000000 in
theorem in_any (o d s x : Int) (w : World) (x0 : 0 ≤ x) (x1 : x ≤ 10000) : Calls Try.prog 77 #[.agg #[.int .i64 o, .int .i64 d], .int .i64 s, .int .i64 x] w fun e w' => e = .returned (.tuple #[.int .i64 (inV o d s x), .int .i64 (inE o d s x)]) ∧ Fr no w w' := by
  obtain ⟨hF, c0, c1⟩ := box_clock w o d
  obtain ⟨W, hW⟩ : ∃ W, W = w.alloc (.cells #[.int .i64 o, .int .i64 d] 23 (0, 0)) := ⟨_, rfl⟩
  rw [← hW] at hF c0 c1
  have HW := Lib.hid hW
  have HF := Lib.hid hF
  clear hW hF
  have HC := Lib.hid (checkR_any o d W)
  cases hk : okC o d
  · rw [erC_1 hk] at HC
    have HR := Lib.hid (show inV o d s x = 0 ∧ inE o d s x = 1 by simp [inV, inE, csE_1 hk])
    clear hk
    go_enter Try.func77, Try.ntmps77
    go_wp2_with fail
    rw [← HW.out]
    refine HC.out.mono ?_
    rintro e w1 ⟨rfl, f1⟩
    have HF1 := Lib.hid (HF.out.noTrans f1)
    clear f1
    go_wp2_with fail
    go_ret2
    rw [HR.out.1, HR.out.2]
    exact ⟨rfl, HF1.out⟩
  · rw [erC_0 hk] at HC
    by_cases hs0 : s < 0
    · have HR := Lib.hid (show inV o d s x = 0 ∧ inE o d s x = 2 by simp [inV, inE, csE_2 hk (show inR s 0 109951162 = false by simp [inR]; omega)])
      clear hk
      go_enter Try.func77, Try.ntmps77
      go_wp2_with fail
      rw [← HW.out]
      refine HC.out.mono ?_
      rintro e w1 ⟨rfl, f1⟩
      have HF1 := Lib.hid (HF.out.noTrans f1)
      clear f1
      go_wp2_with fail
      go_ret2
      rw [HR.out.1, HR.out.2]
      exact ⟨rfl, HF1.out⟩
    have s0 : 0 ≤ s := by omega
    clear hs0
    by_cases hs1 : 109951162 < s
    · have HR := Lib.hid (show inV o d s x = 0 ∧ inE o d s x = 2 by simp [inV, inE, csE_2 hk (show inR s 0 109951162 = false by simp [inR]; omega)])
      clear hk
      go_enter Try.func77, Try.ntmps77
      go_wp2_with fail
      rw [← HW.out]
      refine HC.out.mono ?_
      rintro e w1 ⟨rfl, f1⟩
      have HF1 := Lib.hid (HF.out.noTrans f1)
      clear f1
      go_wp2_with fail
      go_ret2
      rw [HR.out.1, HR.out.2]
      exact ⟨rfl, HF1.out⟩
    have s1 : s ≤ 109951162 := by omega
    clear hs1
    have HR := Lib.hid (show inV o d s x = reV o d (s * 10000 + x) ∧ inE o d s x = reE o d (s * 10000 + x) by simp [inV, inE, reV, reE, hk, csE_0 hk (show inR s 0 109951162 = true by simp [inR]; omega)])
    clear hk
    go_enter Try.func77, Try.ntmps77
    go_wp2_with fail
    rw [← HW.out]
    refine HC.out.mono ?_
    rintro e w1 ⟨rfl, f1⟩
    have HF1 := Lib.hid (HF.out.noTrans f1)
    have d0 := f1.keepc c0
    have d1 := f1.keepc c1
    clear f1
    go_wp2_with fail
    refine (reachR_any o d (s * 10000 + x) _ (by omega) (by omega)).mono ?_
    rintro e w4 ⟨rfl, f4⟩
    have HF4 := Lib.hid (HF1.out.noTrans f4)
    clear f4
    go_wp2_with fail
    go_ret2
    rw [HR.out.1, HR.out.2]
    exact ⟨rfl, HF4.out⟩
theorem sendR_any (o d s : Int) (w : World) : Calls Try.prog 72 #[.agg #[.int .i64 o, .int .i64 d], .int .i64 s] w fun e w' => e = .returned (.tuple #[.int .i64 (inV o d s 2120), .int .i64 (inE o d s 2120)]) ∧ Fr no w w' := by
  obtain ⟨hF, c0, c1⟩ := box_clock w o d
  obtain ⟨W, hW⟩ : ∃ W, W = w.alloc (.cells #[.int .i64 o, .int .i64 d] 23 (0, 0)) := ⟨_, rfl⟩
  rw [← hW] at hF c0 c1
  have HW := Lib.hid hW
  have HF := Lib.hid hF
  clear hW hF
  have HC := Lib.hid (in_any o d s 2120 W (by omega) (by omega))
  go_enter Try.func72, Try.ntmps72
  go_wp2_with fail
  rw [← HW.out]
  refine HC.out.mono ?_
  rintro e w1 ⟨rfl, f1⟩
  have HF1 := Lib.hid (HF.out.noTrans f1)
  clear f1
  go_wp2_with fail
  go_ret2
  exact ⟨rfl, HF1.out⟩
end Go.Proofs.Ytmkmefcafpgphaa
