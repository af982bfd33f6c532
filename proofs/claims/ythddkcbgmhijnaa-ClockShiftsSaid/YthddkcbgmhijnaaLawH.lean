/- ClockShifts. -/
import Derived.Test.YthddkcbgmhijnaaLawG
namespace Go.Proofs.Ythddkcbgmhijnaa
set_option linter.unusedVariables false
open Go.RowKit
theorem apE_swap (oa da ob db t : Int) : apE ob db oa da t = apE oa da ob db t := by
  unfold apE; cases okC oa da <;> cases okC ob db <;> rfl
theorem ap_0 {oa da ob db t : Int} (h : apE oa da ob db t = 0) : (okC oa da = true ∧ okC ob db = true ∧ isT t = true) ∧ apV oa da ob db t = sh ob db t - sh oa da t ∧ apV ob db oa da t = sh oa da t - sh ob db t := by
  unfold apE at h
  cases ha : okC oa da <;> cases hb : okC ob db <;> cases ht : isT t <;> simp [ha, hb, ht, apV] at h ⊢
theorem ap_1 {oa da ob db t : Int} (h : apE oa da ob db t ≠ 0) : apV oa da ob db t = 0 ∧ apV ob db oa da t = 0 := by
  unfold apE at h
  cases ha : okC oa da <;> cases hb : okC ob db <;> cases ht : isT t <;> simp [ha, hb, ht, apV] at h ⊢
theorem ad_0 {o d b : Int} (h : adE o d b = 0) : (okC o d = true ∧ okC (o + b) d = true) ∧ (adO o d b = o + b ∧ adD o d b = d) ∧ (adO (o + b) d (-b) = o ∧ adD (o + b) d (-b) = d ∧ adE (o + b) d (-b) = 0) := by
  unfold adE at h
  by_cases hb : adB o d b = true
  · have h1 := hb
    unfold adB at h1
    simp only [Bool.and_eq_true] at h1
    have e : o + b + -b = o := by omega
    have h2 : adB (o + b) d (-b) = true := by simp [adB, e, h1.1, h1.2]
    refine ⟨h1, by simp [adO, adD, hb], ?_⟩
    simp [adO, adD, adE, h2, e]
  · simp [hb] at h
theorem ad_1 {o d b : Int} (h : adE o d b ≠ 0) : adE o d b = 1 := by
  unfold adE at h ⊢
  split at h
  · exact absurd rfl h
  · rename_i hb; simp [hb]
theorem sh_add (o d b t : Int) : sh (o + b) d t = sh o d t + b := by unfold sh; omega
set_option maxHeartbeats 4000000 in
theorem shifts_law (oa da ob db b t : Int) (w : World) (x1 : -9223372036854775808 ≤ b) (x2 : b ≤ 9223372036854775807) : Calls Try.prog 10 #[.agg #[.int .i64 oa, .int .i64 da], .agg #[.int .i64 ob, .int .i64 db], .agg #[.int .i64 b, .int .i64 t]] w fun e w' => e = .returned (.bool true) ∧ Fr no w w' := by
  obtain ⟨W, hW⟩ : ∃ W, W = ((w.alloc (.cells #[.int .i64 oa, .int .i64 da] 23 (0, 0))).alloc (.cells #[.int .i64 ob, .int .i64 db] 23 (0, 0))).alloc (.cells #[.int .i64 b, .int .i64 t] 33 (0, 0)) := ⟨_, rfl⟩
  obtain ⟨hF, m0, m1, m2, m3, m4, m5⟩ := three_box w oa da ob db b t
  rw [← hW] at hF m0 m1 m2 m3 m4 m5
  have HW := Lib.hid hW
  have HF0 := Lib.hid hF
  have q0_0 := m0
  have q1_0 := m1
  have q2_0 := m2
  have q3_0 := m3
  have q4_0 := m4
  have q5_0 := m5
  clear hW hF m0 m1 m2 m3 m4 m5
  have K1 := Lib.hid (fun w => adjust_any oa da b w x1 x2)
  have K2 := Lib.hid (fun w => show_any oa da t w)
  have K5 := Lib.hid (fun w => apart_any oa da ob db t w)
  have K6 := Lib.hid (fun w => apart_any ob db oa da t w)
  have K7 := Lib.hid (fun w => show_any ob db t w)
  rw [apE_swap] at K6
  by_cases ha : adE oa da b = 0
  · obtain ⟨⟨ka0, kc0⟩, ⟨a1, a2⟩, a3, a4, a5⟩ := ad_0 ha
    rw [ha, a1, a2] at K1
    obtain ⟨e1, e2, -, -⟩ := OkC.of ka0
    obtain ⟨e3, e4, -, -⟩ := OkC.of kc0
    have K4 := Lib.hid (fun w => adjust_any (oa + b) da (-b) w (by omega) (by omega))
    rw [a3, a4, a5] at K4
    clear a1 a2 a3 a4 a5
    cases kt0 : isT t
    · have hp : apE oa da ob db t ≠ 0 := by intro h; rw [(ap_0 h).1.2.2] at kt0; cases kt0
      rw [(shE_2 ka0 kt0).1, (shE_2 ka0 kt0).2] at K2
      obtain ⟨m1, m2⟩ := ap_1 hp
      rw [m1] at K5
      rw [m2] at K6
      have hp2 : (apE oa da ob db t == 0) = false := by simpa using hp
      clear m1 m2 hp
      generalize apE oa da ob db t = g at *
      generalize shV ob db t = v7 at *
      generalize shE ob db t = e7 at *
      clear kt0 ka0 kc0 ha
      go_enter Try.func10, Try.ntmps10
      go_wp2_with fail
      rw [← HW.out]
      refine (awake_any _).mono ?_
      rintro e w1 ⟨rfl, f1⟩
      have HF1 := Lib.hid (HF0.out.noTrans f1)
      have q0_1 := f1.keepc q0_0
      have q1_1 := f1.keepc q1_0
      have q2_1 := f1.keepc q2_0
      have q3_1 := f1.keepc q3_0
      have q4_1 := f1.keepc q4_0
      have q5_1 := f1.keepc q5_0
      clear f1 q0_0 q1_0 q2_0 q3_0 q4_0 q5_0
      go_wp2_with fail
      have r4 : ∀ p : Past w1, p.u.cell? ⟨w.heap.size + 1 + 1, 0, none⟩ = some (.int .i64 b) := fun p => p.h.keepc q4_1
      have r5 : ∀ p : Past w1, p.u.cell? ⟨w.heap.size + 1 + 1, 1, none⟩ = some (.int .i64 t) := fun p => p.h.keepc q5_1
      refine wp_region_past (by kernel_rfl) (by kernel_rfl) ?_
      repeat (go_big_quiet_step (first | rfl | fail))
      refine wpQuiet_nil ?_
      intro wv hp
      have hv := past_out hp
      have HFv := Lib.hid (HF1.out.noTrans hv)
      have q0_v := hv.keepc q0_1
      have q1_v := hv.keepc q1_1
      have q2_v := hv.keepc q2_1
      have q3_v := hv.keepc q3_1
      have q4_v := hv.keepc q4_1
      have q5_v := hv.keepc q5_1
      clear hp hv r4 r5 q0_1 q1_1 q2_1 q3_1 q4_1 q5_1
      go_wp2_with fail
      refine (K1.out _).mono ?_
      rintro e w2 ⟨rfl, f2⟩
      have HG2 := Lib.hid (HFv.out.noTrans f2)
      have q0_a := f2.keepc q0_v
      have q1_a := f2.keepc q1_v
      have q2_a := f2.keepc q2_v
      have q3_a := f2.keepc q3_v
      have q4_a := f2.keepc q4_v
      have q5_a := f2.keepc q5_v
      clear f2 q0_v q1_v q2_v q3_v q4_v q5_v
      have lq0 := lt_of_cell q0_a
      have lq2 := lt_of_cell q2_a
      have lq4 := lt_of_cell q4_a
      go_wp2_with fail
      clear lq0 lq2 lq4
      obtain ⟨u2, hu2⟩ : ∃ u2, u2 = w2.alloc (.cells #[.int .i64 (oa + b), .int .i64 da] 23 (0, 0)) := ⟨_, rfl⟩
      have k2 : Fr no w2 u2 := by rw [hu2]; exact new_clock _ _
      have hz2 : u2.heap[w2.heap.size]? = some (.cells #[.int .i64 (oa + b), .int .i64 da] 23 (0, 0)) := by rw [hu2]; exact heap_alloc_new w2 _
      obtain ⟨y0_2, y1_2, -, -⟩ := two_cells hz2
      have HF2 := Lib.hid (HG2.out.noTrans k2)
      have q0_2 := k2.keepc q0_a
      have q1_2 := k2.keepc q1_a
      have q2_2 := k2.keepc q2_a
      have q3_2 := k2.keepc q3_a
      have q4_2 := k2.keepc q4_a
      have q5_2 := k2.keepc q5_a
      have HU2 := Lib.hid hu2
      rw [← HU2.out]
      clear k2 hz2 hu2 q0_a q1_a q2_a q3_a q4_a q5_a
      refine (K2.out _).mono ?_
      rintro e w3 ⟨rfl, f3⟩
      have HF3 := Lib.hid (HF2.out.noTrans f3)
      have q0_3 := f3.keepc q0_2
      have q1_3 := f3.keepc q1_2
      have q2_3 := f3.keepc q2_2
      have q3_3 := f3.keepc q3_2
      have q4_3 := f3.keepc q4_2
      have q5_3 := f3.keepc q5_2
      have y0_3 := f3.keepc y0_2
      have y1_3 := f3.keepc y1_2
      clear f3 q0_2 q1_2 q2_2 q3_2 q4_2 q5_2 y0_2 y1_2
      go_wp2_with fail
      refine (K5.out _).mono ?_
      rintro e w4 ⟨rfl, f4⟩
      have HF4 := Lib.hid (HF3.out.noTrans f4)
      have q0_4 := f4.keepc q0_3
      have q1_4 := f4.keepc q1_3
      have q2_4 := f4.keepc q2_3
      have q3_4 := f4.keepc q3_3
      have q4_4 := f4.keepc q4_3
      have q5_4 := f4.keepc q5_3
      have y0_4 := f4.keepc y0_3
      have y1_4 := f4.keepc y1_3
      clear f4 q0_3 q1_3 q2_3 q3_3 q4_3 q5_3 y0_3 y1_3
      go_wp2_with fail
      refine (K6.out _).mono ?_
      rintro e w5 ⟨rfl, f5⟩
      have HF5 := Lib.hid (HF4.out.noTrans f5)
      have q0_5 := f5.keepc q0_4
      have q1_5 := f5.keepc q1_4
      have q2_5 := f5.keepc q2_4
      have q3_5 := f5.keepc q3_4
      have q4_5 := f5.keepc q4_4
      have q5_5 := f5.keepc q5_4
      have y0_5 := f5.keepc y0_4
      have y1_5 := f5.keepc y1_4
      clear f5 q0_4 q1_4 q2_4 q3_4 q4_4 q5_4 y0_4 y1_4
      go_wp2_with fail
      refine (K7.out _).mono ?_
      rintro e w6 ⟨rfl, f6⟩
      have HF6 := Lib.hid (HF5.out.noTrans f6)
      have q0_6 := f6.keepc q0_5
      have q1_6 := f6.keepc q1_5
      have q2_6 := f6.keepc q2_5
      have q3_6 := f6.keepc q3_5
      have q4_6 := f6.keepc q4_5
      have q5_6 := f6.keepc q5_5
      have y0_6 := f6.keepc y0_5
      have y1_6 := f6.keepc y1_5
      clear f6 q0_5 q1_5 q2_5 q3_5 q4_5 q5_5 y0_5 y1_5
      go_wp2_with fail
      go_ret
      exact ⟨by first | rfl | (simp; done) | (simp; omega), HF6.out⟩
    · have K3 := Lib.hid (fun w => show_any (oa + b) da t w)
      rw [(shE_0 kc0 kt0).1, (shE_0 kc0 kt0).2, sh_add] at K3
      obtain ⟨u5, u6⟩ := fl_bd2 (OkC.of ka0) (isT_t.1 kt0).1 (isT_t.1 kt0).2
      by_cases hp : apE oa da ob db t = 0
      · obtain ⟨⟨ka, kb, kt⟩, m1, m2⟩ := ap_0 hp
        rw [hp] at K5 K6
        rw [m1] at K5
        rw [m2] at K6
        rw [(shE_0 ka kt).1, (shE_0 ka kt).2] at K2
        rw [(shE_0 kb kt).1, (shE_0 kb kt).2] at K7
        obtain ⟨u1, u2⟩ := fl_bd2 (OkC.of ka) (isT_t.1 kt).1 (isT_t.1 kt).2
        obtain ⟨u3, u4⟩ := fl_bd2 (OkC.of kb) (isT_t.1 kt).1 (isT_t.1 kt).2
        clear ka kb kt m1 m2 hp
        generalize sh oa da t = sa at *
        generalize sh ob db t = sb at *
        clear kt0 ka0 kc0 ha
        go_enter Try.func10, Try.ntmps10
        go_wp2_with fail
        rw [← HW.out]
        refine (awake_any _).mono ?_
        rintro e w1 ⟨rfl, f1⟩
        have HF1 := Lib.hid (HF0.out.noTrans f1)
        have q0_1 := f1.keepc q0_0
        have q1_1 := f1.keepc q1_0
        have q2_1 := f1.keepc q2_0
        have q3_1 := f1.keepc q3_0
        have q4_1 := f1.keepc q4_0
        have q5_1 := f1.keepc q5_0
        clear f1 q0_0 q1_0 q2_0 q3_0 q4_0 q5_0
        go_wp2_with fail
        have r4 : ∀ p : Past w1, p.u.cell? ⟨w.heap.size + 1 + 1, 0, none⟩ = some (.int .i64 b) := fun p => p.h.keepc q4_1
        have r5 : ∀ p : Past w1, p.u.cell? ⟨w.heap.size + 1 + 1, 1, none⟩ = some (.int .i64 t) := fun p => p.h.keepc q5_1
        refine wp_region_past (by kernel_rfl) (by kernel_rfl) ?_
        repeat (go_big_quiet_step (first | rfl | fail))
        refine wpQuiet_nil ?_
        intro wv hp
        have hv := past_out hp
        have HFv := Lib.hid (HF1.out.noTrans hv)
        have q0_v := hv.keepc q0_1
        have q1_v := hv.keepc q1_1
        have q2_v := hv.keepc q2_1
        have q3_v := hv.keepc q3_1
        have q4_v := hv.keepc q4_1
        have q5_v := hv.keepc q5_1
        clear hp hv r4 r5 q0_1 q1_1 q2_1 q3_1 q4_1 q5_1
        go_wp2_with fail
        refine (K1.out _).mono ?_
        rintro e w2 ⟨rfl, f2⟩
        have HG2 := Lib.hid (HFv.out.noTrans f2)
        have q0_a := f2.keepc q0_v
        have q1_a := f2.keepc q1_v
        have q2_a := f2.keepc q2_v
        have q3_a := f2.keepc q3_v
        have q4_a := f2.keepc q4_v
        have q5_a := f2.keepc q5_v
        clear f2 q0_v q1_v q2_v q3_v q4_v q5_v
        have lq0 := lt_of_cell q0_a
        have lq2 := lt_of_cell q2_a
        have lq4 := lt_of_cell q4_a
        go_wp2_with fail
        clear lq0 lq2 lq4
        obtain ⟨u2, hu2⟩ : ∃ u2, u2 = w2.alloc (.cells #[.int .i64 (oa + b), .int .i64 da] 23 (0, 0)) := ⟨_, rfl⟩
        have k2 : Fr no w2 u2 := by rw [hu2]; exact new_clock _ _
        have hz2 : u2.heap[w2.heap.size]? = some (.cells #[.int .i64 (oa + b), .int .i64 da] 23 (0, 0)) := by rw [hu2]; exact heap_alloc_new w2 _
        obtain ⟨y0_2, y1_2, -, -⟩ := two_cells hz2
        have HF2 := Lib.hid (HG2.out.noTrans k2)
        have q0_2 := k2.keepc q0_a
        have q1_2 := k2.keepc q1_a
        have q2_2 := k2.keepc q2_a
        have q3_2 := k2.keepc q3_a
        have q4_2 := k2.keepc q4_a
        have q5_2 := k2.keepc q5_a
        have HU2 := Lib.hid hu2
        rw [← HU2.out]
        clear k2 hz2 hu2 q0_a q1_a q2_a q3_a q4_a q5_a
        refine (K2.out _).mono ?_
        rintro e w3 ⟨rfl, f3⟩
        have HF3 := Lib.hid (HF2.out.noTrans f3)
        have q0_3 := f3.keepc q0_2
        have q1_3 := f3.keepc q1_2
        have q2_3 := f3.keepc q2_2
        have q3_3 := f3.keepc q3_2
        have q4_3 := f3.keepc q4_2
        have q5_3 := f3.keepc q5_2
        have y0_3 := f3.keepc y0_2
        have y1_3 := f3.keepc y1_2
        clear f3 q0_2 q1_2 q2_2 q3_2 q4_2 q5_2 y0_2 y1_2
        go_wp2_with fail
        refine (K3.out _).mono ?_
        rintro e w4 ⟨rfl, f4⟩
        have HF4 := Lib.hid (HF3.out.noTrans f4)
        have q0_4 := f4.keepc q0_3
        have q1_4 := f4.keepc q1_3
        have q2_4 := f4.keepc q2_3
        have q3_4 := f4.keepc q3_3
        have q4_4 := f4.keepc q4_3
        have q5_4 := f4.keepc q5_3
        have y0_4 := f4.keepc y0_3
        have y1_4 := f4.keepc y1_3
        clear f4 q0_3 q1_3 q2_3 q3_3 q4_3 q5_3 y0_3 y1_3
        go_wp2_with fail
        refine (K4.out _).mono ?_
        rintro e w5 ⟨rfl, f5⟩
        have HG5 := Lib.hid (HF4.out.noTrans f5)
        have q0_a := f5.keepc q0_4
        have q1_a := f5.keepc q1_4
        have q2_a := f5.keepc q2_4
        have q3_a := f5.keepc q3_4
        have q4_a := f5.keepc q4_4
        have q5_a := f5.keepc q5_4
        have y0_a := f5.keepc y0_4
        have y1_a := f5.keepc y1_4
        clear f5 q0_4 q1_4 q2_4 q3_4 q4_4 q5_4 y0_4 y1_4
        have lq0 := lt_of_cell q0_a
        have lq2 := lt_of_cell q2_a
        have lq4 := lt_of_cell q4_a
        have ly0 := lt_of_cell y0_a
        go_wp2_with fail
        clear lq0 lq2 lq4 ly0
        obtain ⟨u5, hu5⟩ : ∃ u5, u5 = w5.alloc (.cells #[.int .i64 oa, .int .i64 da] 23 (0, 0)) := ⟨_, rfl⟩
        have k5 : Fr no w5 u5 := by rw [hu5]; exact new_clock _ _
        have hz5 : u5.heap[w5.heap.size]? = some (.cells #[.int .i64 oa, .int .i64 da] 23 (0, 0)) := by rw [hu5]; exact heap_alloc_new w5 _
        obtain ⟨z0_5, z1_5, -, -⟩ := two_cells hz5
        have HF5 := Lib.hid (HG5.out.noTrans k5)
        have q0_5 := k5.keepc q0_a
        have q1_5 := k5.keepc q1_a
        have q2_5 := k5.keepc q2_a
        have q3_5 := k5.keepc q3_a
        have q4_5 := k5.keepc q4_a
        have q5_5 := k5.keepc q5_a
        have y0_5 := k5.keepc y0_a
        have y1_5 := k5.keepc y1_a
        have HU5 := Lib.hid hu5
        rw [← HU5.out]
        clear k5 hz5 hu5 q0_a q1_a q2_a q3_a q4_a q5_a y0_a y1_a
        refine (K5.out _).mono ?_
        rintro e w6 ⟨rfl, f6⟩
        have HF6 := Lib.hid (HF5.out.noTrans f6)
        have q0_6 := f6.keepc q0_5
        have q1_6 := f6.keepc q1_5
        have q2_6 := f6.keepc q2_5
        have q3_6 := f6.keepc q3_5
        have q4_6 := f6.keepc q4_5
        have q5_6 := f6.keepc q5_5
        have y0_6 := f6.keepc y0_5
        have y1_6 := f6.keepc y1_5
        have z0_6 := f6.keepc z0_5
        have z1_6 := f6.keepc z1_5
        clear f6 q0_5 q1_5 q2_5 q3_5 q4_5 q5_5 y0_5 y1_5 z0_5 z1_5
        go_wp2_with fail
        refine (K6.out _).mono ?_
        rintro e w7 ⟨rfl, f7⟩
        have HF7 := Lib.hid (HF6.out.noTrans f7)
        have q0_7 := f7.keepc q0_6
        have q1_7 := f7.keepc q1_6
        have q2_7 := f7.keepc q2_6
        have q3_7 := f7.keepc q3_6
        have q4_7 := f7.keepc q4_6
        have q5_7 := f7.keepc q5_6
        have y0_7 := f7.keepc y0_6
        have y1_7 := f7.keepc y1_6
        have z0_7 := f7.keepc z0_6
        have z1_7 := f7.keepc z1_6
        clear f7 q0_6 q1_6 q2_6 q3_6 q4_6 q5_6 y0_6 y1_6 z0_6 z1_6
        go_wp2_with fail
        refine (K7.out _).mono ?_
        rintro e w8 ⟨rfl, f8⟩
        have HF8 := Lib.hid (HF7.out.noTrans f8)
        have q0_8 := f8.keepc q0_7
        have q1_8 := f8.keepc q1_7
        have q2_8 := f8.keepc q2_7
        have q3_8 := f8.keepc q3_7
        have q4_8 := f8.keepc q4_7
        have q5_8 := f8.keepc q5_7
        have y0_8 := f8.keepc y0_7
        have y1_8 := f8.keepc y1_7
        have z0_8 := f8.keepc z0_7
        have z1_8 := f8.keepc z1_7
        clear f8 q0_7 q1_7 q2_7 q3_7 q4_7 q5_7 y0_7 y1_7 z0_7 z1_7
        go_wp2_with fail
        go_ret
        exact ⟨by first | rfl | (simp; done) | (simp; omega), HF8.out⟩
      · obtain ⟨m1, m2⟩ := ap_1 hp
        rw [m1] at K5
        rw [m2] at K6
        have hp2 : (apE oa da ob db t == 0) = false := by simpa using hp
        clear m1 m2 hp
        generalize apE oa da ob db t = g at *
        rw [(shE_0 ka0 kt0).1, (shE_0 ka0 kt0).2] at K2
        generalize shV ob db t = v7 at *
        generalize shE ob db t = e7 at *
        generalize sh oa da t = sa at *
        clear kt0 ka0 kc0 ha
        go_enter Try.func10, Try.ntmps10
        go_wp2_with fail
        rw [← HW.out]
        refine (awake_any _).mono ?_
        rintro e w1 ⟨rfl, f1⟩
        have HF1 := Lib.hid (HF0.out.noTrans f1)
        have q0_1 := f1.keepc q0_0
        have q1_1 := f1.keepc q1_0
        have q2_1 := f1.keepc q2_0
        have q3_1 := f1.keepc q3_0
        have q4_1 := f1.keepc q4_0
        have q5_1 := f1.keepc q5_0
        clear f1 q0_0 q1_0 q2_0 q3_0 q4_0 q5_0
        go_wp2_with fail
        have r4 : ∀ p : Past w1, p.u.cell? ⟨w.heap.size + 1 + 1, 0, none⟩ = some (.int .i64 b) := fun p => p.h.keepc q4_1
        have r5 : ∀ p : Past w1, p.u.cell? ⟨w.heap.size + 1 + 1, 1, none⟩ = some (.int .i64 t) := fun p => p.h.keepc q5_1
        refine wp_region_past (by kernel_rfl) (by kernel_rfl) ?_
        repeat (go_big_quiet_step (first | rfl | fail))
        refine wpQuiet_nil ?_
        intro wv hp
        have hv := past_out hp
        have HFv := Lib.hid (HF1.out.noTrans hv)
        have q0_v := hv.keepc q0_1
        have q1_v := hv.keepc q1_1
        have q2_v := hv.keepc q2_1
        have q3_v := hv.keepc q3_1
        have q4_v := hv.keepc q4_1
        have q5_v := hv.keepc q5_1
        clear hp hv r4 r5 q0_1 q1_1 q2_1 q3_1 q4_1 q5_1
        go_wp2_with fail
        refine (K1.out _).mono ?_
        rintro e w2 ⟨rfl, f2⟩
        have HG2 := Lib.hid (HFv.out.noTrans f2)
        have q0_a := f2.keepc q0_v
        have q1_a := f2.keepc q1_v
        have q2_a := f2.keepc q2_v
        have q3_a := f2.keepc q3_v
        have q4_a := f2.keepc q4_v
        have q5_a := f2.keepc q5_v
        clear f2 q0_v q1_v q2_v q3_v q4_v q5_v
        have lq0 := lt_of_cell q0_a
        have lq2 := lt_of_cell q2_a
        have lq4 := lt_of_cell q4_a
        go_wp2_with fail
        clear lq0 lq2 lq4
        obtain ⟨u2, hu2⟩ : ∃ u2, u2 = w2.alloc (.cells #[.int .i64 (oa + b), .int .i64 da] 23 (0, 0)) := ⟨_, rfl⟩
        have k2 : Fr no w2 u2 := by rw [hu2]; exact new_clock _ _
        have hz2 : u2.heap[w2.heap.size]? = some (.cells #[.int .i64 (oa + b), .int .i64 da] 23 (0, 0)) := by rw [hu2]; exact heap_alloc_new w2 _
        obtain ⟨y0_2, y1_2, -, -⟩ := two_cells hz2
        have HF2 := Lib.hid (HG2.out.noTrans k2)
        have q0_2 := k2.keepc q0_a
        have q1_2 := k2.keepc q1_a
        have q2_2 := k2.keepc q2_a
        have q3_2 := k2.keepc q3_a
        have q4_2 := k2.keepc q4_a
        have q5_2 := k2.keepc q5_a
        have HU2 := Lib.hid hu2
        rw [← HU2.out]
        clear k2 hz2 hu2 q0_a q1_a q2_a q3_a q4_a q5_a
        refine (K2.out _).mono ?_
        rintro e w3 ⟨rfl, f3⟩
        have HF3 := Lib.hid (HF2.out.noTrans f3)
        have q0_3 := f3.keepc q0_2
        have q1_3 := f3.keepc q1_2
        have q2_3 := f3.keepc q2_2
        have q3_3 := f3.keepc q3_2
        have q4_3 := f3.keepc q4_2
        have q5_3 := f3.keepc q5_2
        have y0_3 := f3.keepc y0_2
        have y1_3 := f3.keepc y1_2
        clear f3 q0_2 q1_2 q2_2 q3_2 q4_2 q5_2 y0_2 y1_2
        go_wp2_with fail
        refine (K3.out _).mono ?_
        rintro e w4 ⟨rfl, f4⟩
        have HF4 := Lib.hid (HF3.out.noTrans f4)
        have q0_4 := f4.keepc q0_3
        have q1_4 := f4.keepc q1_3
        have q2_4 := f4.keepc q2_3
        have q3_4 := f4.keepc q3_3
        have q4_4 := f4.keepc q4_3
        have q5_4 := f4.keepc q5_3
        have y0_4 := f4.keepc y0_3
        have y1_4 := f4.keepc y1_3
        clear f4 q0_3 q1_3 q2_3 q3_3 q4_3 q5_3 y0_3 y1_3
        go_wp2_with fail
        refine (K4.out _).mono ?_
        rintro e w5 ⟨rfl, f5⟩
        have HG5 := Lib.hid (HF4.out.noTrans f5)
        have q0_a := f5.keepc q0_4
        have q1_a := f5.keepc q1_4
        have q2_a := f5.keepc q2_4
        have q3_a := f5.keepc q3_4
        have q4_a := f5.keepc q4_4
        have q5_a := f5.keepc q5_4
        have y0_a := f5.keepc y0_4
        have y1_a := f5.keepc y1_4
        clear f5 q0_4 q1_4 q2_4 q3_4 q4_4 q5_4 y0_4 y1_4
        have lq0 := lt_of_cell q0_a
        have lq2 := lt_of_cell q2_a
        have lq4 := lt_of_cell q4_a
        have ly0 := lt_of_cell y0_a
        go_wp2_with fail
        clear lq0 lq2 lq4 ly0
        obtain ⟨u5, hu5⟩ : ∃ u5, u5 = w5.alloc (.cells #[.int .i64 oa, .int .i64 da] 23 (0, 0)) := ⟨_, rfl⟩
        have k5 : Fr no w5 u5 := by rw [hu5]; exact new_clock _ _
        have hz5 : u5.heap[w5.heap.size]? = some (.cells #[.int .i64 oa, .int .i64 da] 23 (0, 0)) := by rw [hu5]; exact heap_alloc_new w5 _
        obtain ⟨z0_5, z1_5, -, -⟩ := two_cells hz5
        have HF5 := Lib.hid (HG5.out.noTrans k5)
        have q0_5 := k5.keepc q0_a
        have q1_5 := k5.keepc q1_a
        have q2_5 := k5.keepc q2_a
        have q3_5 := k5.keepc q3_a
        have q4_5 := k5.keepc q4_a
        have q5_5 := k5.keepc q5_a
        have y0_5 := k5.keepc y0_a
        have y1_5 := k5.keepc y1_a
        have HU5 := Lib.hid hu5
        rw [← HU5.out]
        clear k5 hz5 hu5 q0_a q1_a q2_a q3_a q4_a q5_a y0_a y1_a
        refine (K5.out _).mono ?_
        rintro e w6 ⟨rfl, f6⟩
        have HF6 := Lib.hid (HF5.out.noTrans f6)
        have q0_6 := f6.keepc q0_5
        have q1_6 := f6.keepc q1_5
        have q2_6 := f6.keepc q2_5
        have q3_6 := f6.keepc q3_5
        have q4_6 := f6.keepc q4_5
        have q5_6 := f6.keepc q5_5
        have y0_6 := f6.keepc y0_5
        have y1_6 := f6.keepc y1_5
        have z0_6 := f6.keepc z0_5
        have z1_6 := f6.keepc z1_5
        clear f6 q0_5 q1_5 q2_5 q3_5 q4_5 q5_5 y0_5 y1_5 z0_5 z1_5
        go_wp2_with fail
        refine (K6.out _).mono ?_
        rintro e w7 ⟨rfl, f7⟩
        have HF7 := Lib.hid (HF6.out.noTrans f7)
        have q0_7 := f7.keepc q0_6
        have q1_7 := f7.keepc q1_6
        have q2_7 := f7.keepc q2_6
        have q3_7 := f7.keepc q3_6
        have q4_7 := f7.keepc q4_6
        have q5_7 := f7.keepc q5_6
        have y0_7 := f7.keepc y0_6
        have y1_7 := f7.keepc y1_6
        have z0_7 := f7.keepc z0_6
        have z1_7 := f7.keepc z1_6
        clear f7 q0_6 q1_6 q2_6 q3_6 q4_6 q5_6 y0_6 y1_6 z0_6 z1_6
        go_wp2_with fail
        refine (K7.out _).mono ?_
        rintro e w8 ⟨rfl, f8⟩
        have HF8 := Lib.hid (HF7.out.noTrans f8)
        have q0_8 := f8.keepc q0_7
        have q1_8 := f8.keepc q1_7
        have q2_8 := f8.keepc q2_7
        have q3_8 := f8.keepc q3_7
        have q4_8 := f8.keepc q4_7
        have q5_8 := f8.keepc q5_7
        have y0_8 := f8.keepc y0_7
        have y1_8 := f8.keepc y1_7
        have z0_8 := f8.keepc z0_7
        have z1_8 := f8.keepc z1_7
        clear f8 q0_7 q1_7 q2_7 q3_7 q4_7 q5_7 y0_7 y1_7 z0_7 z1_7
        go_wp2_with fail
        go_ret
        exact ⟨by first | rfl | (simp; done) | (simp; omega), HF8.out⟩
  · rw [ad_1 ha] at K1
    generalize adO oa da b = v1 at *
    generalize adD oa da b = v2 at *
    by_cases hp : apE oa da ob db t = 0
    · obtain ⟨⟨ka, kb, kt⟩, m1, m2⟩ := ap_0 hp
      rw [hp] at K5 K6
      rw [m1] at K5
      rw [m2] at K6
      rw [(shE_0 ka kt).1, (shE_0 ka kt).2] at K2
      rw [(shE_0 kb kt).1, (shE_0 kb kt).2] at K7
      obtain ⟨u1, u2⟩ := fl_bd2 (OkC.of ka) (isT_t.1 kt).1 (isT_t.1 kt).2
      obtain ⟨u3, u4⟩ := fl_bd2 (OkC.of kb) (isT_t.1 kt).1 (isT_t.1 kt).2
      clear ka kb kt m1 m2 hp
      generalize sh oa da t = sa at *
      generalize sh ob db t = sb at *
      clear ha
      go_enter Try.func10, Try.ntmps10
      go_wp2_with fail
      rw [← HW.out]
      refine (awake_any _).mono ?_
      rintro e w1 ⟨rfl, f1⟩
      have HF1 := Lib.hid (HF0.out.noTrans f1)
      have q0_1 := f1.keepc q0_0
      have q1_1 := f1.keepc q1_0
      have q2_1 := f1.keepc q2_0
      have q3_1 := f1.keepc q3_0
      have q4_1 := f1.keepc q4_0
      have q5_1 := f1.keepc q5_0
      clear f1 q0_0 q1_0 q2_0 q3_0 q4_0 q5_0
      go_wp2_with fail
      have r4 : ∀ p : Past w1, p.u.cell? ⟨w.heap.size + 1 + 1, 0, none⟩ = some (.int .i64 b) := fun p => p.h.keepc q4_1
      have r5 : ∀ p : Past w1, p.u.cell? ⟨w.heap.size + 1 + 1, 1, none⟩ = some (.int .i64 t) := fun p => p.h.keepc q5_1
      refine wp_region_past (by kernel_rfl) (by kernel_rfl) ?_
      repeat (go_big_quiet_step (first | rfl | fail))
      refine wpQuiet_nil ?_
      intro wv hp
      have hv := past_out hp
      have HFv := Lib.hid (HF1.out.noTrans hv)
      have q0_v := hv.keepc q0_1
      have q1_v := hv.keepc q1_1
      have q2_v := hv.keepc q2_1
      have q3_v := hv.keepc q3_1
      have q4_v := hv.keepc q4_1
      have q5_v := hv.keepc q5_1
      clear hp hv r4 r5 q0_1 q1_1 q2_1 q3_1 q4_1 q5_1
      go_wp2_with fail
      refine (K1.out _).mono ?_
      rintro e w2 ⟨rfl, f2⟩
      have HG2 := Lib.hid (HFv.out.noTrans f2)
      have q0_a := f2.keepc q0_v
      have q1_a := f2.keepc q1_v
      have q2_a := f2.keepc q2_v
      have q3_a := f2.keepc q3_v
      have q4_a := f2.keepc q4_v
      have q5_a := f2.keepc q5_v
      clear f2 q0_v q1_v q2_v q3_v q4_v q5_v
      have lq0 := lt_of_cell q0_a
      have lq2 := lt_of_cell q2_a
      have lq4 := lt_of_cell q4_a
      go_wp2_with fail
      clear lq0 lq2 lq4
      obtain ⟨u2, hu2⟩ : ∃ u2, u2 = w2.alloc (.cells #[.int .i64 v1, .int .i64 v2] 23 (0, 0)) := ⟨_, rfl⟩
      have k2 : Fr no w2 u2 := by rw [hu2]; exact new_clock _ _
      have hz2 : u2.heap[w2.heap.size]? = some (.cells #[.int .i64 v1, .int .i64 v2] 23 (0, 0)) := by rw [hu2]; exact heap_alloc_new w2 _
      obtain ⟨y0_2, y1_2, -, -⟩ := two_cells hz2
      have HF2 := Lib.hid (HG2.out.noTrans k2)
      have q0_2 := k2.keepc q0_a
      have q1_2 := k2.keepc q1_a
      have q2_2 := k2.keepc q2_a
      have q3_2 := k2.keepc q3_a
      have q4_2 := k2.keepc q4_a
      have q5_2 := k2.keepc q5_a
      have HU2 := Lib.hid hu2
      rw [← HU2.out]
      clear k2 hz2 hu2 q0_a q1_a q2_a q3_a q4_a q5_a
      refine (K2.out _).mono ?_
      rintro e w3 ⟨rfl, f3⟩
      have HF3 := Lib.hid (HF2.out.noTrans f3)
      have q0_3 := f3.keepc q0_2
      have q1_3 := f3.keepc q1_2
      have q2_3 := f3.keepc q2_2
      have q3_3 := f3.keepc q3_2
      have q4_3 := f3.keepc q4_2
      have q5_3 := f3.keepc q5_2
      have y0_3 := f3.keepc y0_2
      have y1_3 := f3.keepc y1_2
      clear f3 q0_2 q1_2 q2_2 q3_2 q4_2 q5_2 y0_2 y1_2
      go_wp2_with fail
      refine (K5.out _).mono ?_
      rintro e w4 ⟨rfl, f4⟩
      have HF4 := Lib.hid (HF3.out.noTrans f4)
      have q0_4 := f4.keepc q0_3
      have q1_4 := f4.keepc q1_3
      have q2_4 := f4.keepc q2_3
      have q3_4 := f4.keepc q3_3
      have q4_4 := f4.keepc q4_3
      have q5_4 := f4.keepc q5_3
      have y0_4 := f4.keepc y0_3
      have y1_4 := f4.keepc y1_3
      clear f4 q0_3 q1_3 q2_3 q3_3 q4_3 q5_3 y0_3 y1_3
      go_wp2_with fail
      refine (K6.out _).mono ?_
      rintro e w5 ⟨rfl, f5⟩
      have HF5 := Lib.hid (HF4.out.noTrans f5)
      have q0_5 := f5.keepc q0_4
      have q1_5 := f5.keepc q1_4
      have q2_5 := f5.keepc q2_4
      have q3_5 := f5.keepc q3_4
      have q4_5 := f5.keepc q4_4
      have q5_5 := f5.keepc q5_4
      have y0_5 := f5.keepc y0_4
      have y1_5 := f5.keepc y1_4
      clear f5 q0_4 q1_4 q2_4 q3_4 q4_4 q5_4 y0_4 y1_4
      go_wp2_with fail
      refine (K7.out _).mono ?_
      rintro e w6 ⟨rfl, f6⟩
      have HF6 := Lib.hid (HF5.out.noTrans f6)
      have q0_6 := f6.keepc q0_5
      have q1_6 := f6.keepc q1_5
      have q2_6 := f6.keepc q2_5
      have q3_6 := f6.keepc q3_5
      have q4_6 := f6.keepc q4_5
      have q5_6 := f6.keepc q5_5
      have y0_6 := f6.keepc y0_5
      have y1_6 := f6.keepc y1_5
      clear f6 q0_5 q1_5 q2_5 q3_5 q4_5 q5_5 y0_5 y1_5
      go_wp2_with fail
      go_ret
      exact ⟨by first | rfl | (simp; done) | (simp; omega), HF6.out⟩
    · obtain ⟨m1, m2⟩ := ap_1 hp
      rw [m1] at K5
      rw [m2] at K6
      have hp2 : (apE oa da ob db t == 0) = false := by simpa using hp
      clear m1 m2 hp
      generalize apE oa da ob db t = g at *
      generalize shV ob db t = v7 at *
      generalize shE ob db t = e7 at *
      generalize shV oa da t = v8 at *
      generalize shE oa da t = e8 at *
      clear ha
      go_enter Try.func10, Try.ntmps10
      go_wp2_with fail
      rw [← HW.out]
      refine (awake_any _).mono ?_
      rintro e w1 ⟨rfl, f1⟩
      have HF1 := Lib.hid (HF0.out.noTrans f1)
      have q0_1 := f1.keepc q0_0
      have q1_1 := f1.keepc q1_0
      have q2_1 := f1.keepc q2_0
      have q3_1 := f1.keepc q3_0
      have q4_1 := f1.keepc q4_0
      have q5_1 := f1.keepc q5_0
      clear f1 q0_0 q1_0 q2_0 q3_0 q4_0 q5_0
      go_wp2_with fail
      have r4 : ∀ p : Past w1, p.u.cell? ⟨w.heap.size + 1 + 1, 0, none⟩ = some (.int .i64 b) := fun p => p.h.keepc q4_1
      have r5 : ∀ p : Past w1, p.u.cell? ⟨w.heap.size + 1 + 1, 1, none⟩ = some (.int .i64 t) := fun p => p.h.keepc q5_1
      refine wp_region_past (by kernel_rfl) (by kernel_rfl) ?_
      repeat (go_big_quiet_step (first | rfl | fail))
      refine wpQuiet_nil ?_
      intro wv hp
      have hv := past_out hp
      have HFv := Lib.hid (HF1.out.noTrans hv)
      have q0_v := hv.keepc q0_1
      have q1_v := hv.keepc q1_1
      have q2_v := hv.keepc q2_1
      have q3_v := hv.keepc q3_1
      have q4_v := hv.keepc q4_1
      have q5_v := hv.keepc q5_1
      clear hp hv r4 r5 q0_1 q1_1 q2_1 q3_1 q4_1 q5_1
      go_wp2_with fail
      refine (K1.out _).mono ?_
      rintro e w2 ⟨rfl, f2⟩
      have HG2 := Lib.hid (HFv.out.noTrans f2)
      have q0_a := f2.keepc q0_v
      have q1_a := f2.keepc q1_v
      have q2_a := f2.keepc q2_v
      have q3_a := f2.keepc q3_v
      have q4_a := f2.keepc q4_v
      have q5_a := f2.keepc q5_v
      clear f2 q0_v q1_v q2_v q3_v q4_v q5_v
      have lq0 := lt_of_cell q0_a
      have lq2 := lt_of_cell q2_a
      have lq4 := lt_of_cell q4_a
      go_wp2_with fail
      clear lq0 lq2 lq4
      obtain ⟨u2, hu2⟩ : ∃ u2, u2 = w2.alloc (.cells #[.int .i64 v1, .int .i64 v2] 23 (0, 0)) := ⟨_, rfl⟩
      have k2 : Fr no w2 u2 := by rw [hu2]; exact new_clock _ _
      have hz2 : u2.heap[w2.heap.size]? = some (.cells #[.int .i64 v1, .int .i64 v2] 23 (0, 0)) := by rw [hu2]; exact heap_alloc_new w2 _
      obtain ⟨y0_2, y1_2, -, -⟩ := two_cells hz2
      have HF2 := Lib.hid (HG2.out.noTrans k2)
      have q0_2 := k2.keepc q0_a
      have q1_2 := k2.keepc q1_a
      have q2_2 := k2.keepc q2_a
      have q3_2 := k2.keepc q3_a
      have q4_2 := k2.keepc q4_a
      have q5_2 := k2.keepc q5_a
      have HU2 := Lib.hid hu2
      rw [← HU2.out]
      clear k2 hz2 hu2 q0_a q1_a q2_a q3_a q4_a q5_a
      refine (K2.out _).mono ?_
      rintro e w3 ⟨rfl, f3⟩
      have HF3 := Lib.hid (HF2.out.noTrans f3)
      have q0_3 := f3.keepc q0_2
      have q1_3 := f3.keepc q1_2
      have q2_3 := f3.keepc q2_2
      have q3_3 := f3.keepc q3_2
      have q4_3 := f3.keepc q4_2
      have q5_3 := f3.keepc q5_2
      have y0_3 := f3.keepc y0_2
      have y1_3 := f3.keepc y1_2
      clear f3 q0_2 q1_2 q2_2 q3_2 q4_2 q5_2 y0_2 y1_2
      go_wp2_with fail
      refine (K5.out _).mono ?_
      rintro e w4 ⟨rfl, f4⟩
      have HF4 := Lib.hid (HF3.out.noTrans f4)
      have q0_4 := f4.keepc q0_3
      have q1_4 := f4.keepc q1_3
      have q2_4 := f4.keepc q2_3
      have q3_4 := f4.keepc q3_3
      have q4_4 := f4.keepc q4_3
      have q5_4 := f4.keepc q5_3
      have y0_4 := f4.keepc y0_3
      have y1_4 := f4.keepc y1_3
      clear f4 q0_3 q1_3 q2_3 q3_3 q4_3 q5_3 y0_3 y1_3
      go_wp2_with fail
      refine (K6.out _).mono ?_
      rintro e w5 ⟨rfl, f5⟩
      have HF5 := Lib.hid (HF4.out.noTrans f5)
      have q0_5 := f5.keepc q0_4
      have q1_5 := f5.keepc q1_4
      have q2_5 := f5.keepc q2_4
      have q3_5 := f5.keepc q3_4
      have q4_5 := f5.keepc q4_4
      have q5_5 := f5.keepc q5_4
      have y0_5 := f5.keepc y0_4
      have y1_5 := f5.keepc y1_4
      clear f5 q0_4 q1_4 q2_4 q3_4 q4_4 q5_4 y0_4 y1_4
      go_wp2_with fail
      refine (K7.out _).mono ?_
      rintro e w6 ⟨rfl, f6⟩
      have HF6 := Lib.hid (HF5.out.noTrans f6)
      have q0_6 := f6.keepc q0_5
      have q1_6 := f6.keepc q1_5
      have q2_6 := f6.keepc q2_5
      have q3_6 := f6.keepc q3_5
      have q4_6 := f6.keepc q4_5
      have q5_6 := f6.keepc q5_5
      have y0_6 := f6.keepc y0_5
      have y1_6 := f6.keepc y1_5
      clear f6 q0_5 q1_5 q2_5 q3_5 q4_5 q5_5 y0_5 y1_5
      go_wp2_with fail
      go_ret
      exact ⟨by first | rfl | (simp; done) | (simp; omega), HF6.out⟩
end Go.Proofs.Ythddkcbgmhijnaa
