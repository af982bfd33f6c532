/- ClockAdjusts. -/
import Derived.Test.YthddkcbgmhijnaaLawF
namespace Go.Proofs.Ythddkcbgmhijnaa
set_option linter.unusedVariables false
open Go.RowKit
theorem three_box (w : World) (oa da ob db b t : Int) :
    Fr no w (((w.alloc (.cells #[.int .i64 oa, .int .i64 da] 23 (0, 0))).alloc (.cells #[.int .i64 ob, .int .i64 db] 23 (0, 0))).alloc (.cells #[.int .i64 b, .int .i64 t] 33 (0, 0)))
    ∧ (((w.alloc (.cells #[.int .i64 oa, .int .i64 da] 23 (0, 0))).alloc (.cells #[.int .i64 ob, .int .i64 db] 23 (0, 0))).alloc (.cells #[.int .i64 b, .int .i64 t] 33 (0, 0))).cell? ⟨w.heap.size, 0, none⟩ = some (.int .i64 oa)
    ∧ (((w.alloc (.cells #[.int .i64 oa, .int .i64 da] 23 (0, 0))).alloc (.cells #[.int .i64 ob, .int .i64 db] 23 (0, 0))).alloc (.cells #[.int .i64 b, .int .i64 t] 33 (0, 0))).cell? ⟨w.heap.size, 1, none⟩ = some (.int .i64 da)
    ∧ (((w.alloc (.cells #[.int .i64 oa, .int .i64 da] 23 (0, 0))).alloc (.cells #[.int .i64 ob, .int .i64 db] 23 (0, 0))).alloc (.cells #[.int .i64 b, .int .i64 t] 33 (0, 0))).cell? ⟨w.heap.size + 1, 0, none⟩ = some (.int .i64 ob)
    ∧ (((w.alloc (.cells #[.int .i64 oa, .int .i64 da] 23 (0, 0))).alloc (.cells #[.int .i64 ob, .int .i64 db] 23 (0, 0))).alloc (.cells #[.int .i64 b, .int .i64 t] 33 (0, 0))).cell? ⟨w.heap.size + 1, 1, none⟩ = some (.int .i64 db)
    ∧ (((w.alloc (.cells #[.int .i64 oa, .int .i64 da] 23 (0, 0))).alloc (.cells #[.int .i64 ob, .int .i64 db] 23 (0, 0))).alloc (.cells #[.int .i64 b, .int .i64 t] 33 (0, 0))).cell? ⟨w.heap.size + 1 + 1, 0, none⟩ = some (.int .i64 b)
    ∧ (((w.alloc (.cells #[.int .i64 oa, .int .i64 da] 23 (0, 0))).alloc (.cells #[.int .i64 ob, .int .i64 db] 23 (0, 0))).alloc (.cells #[.int .i64 b, .int .i64 t] 33 (0, 0))).cell? ⟨w.heap.size + 1 + 1, 1, none⟩ = some (.int .i64 t) := by
  obtain ⟨f, a0, a1, b0, b1⟩ := two_box w oa da ob db
  have hn : ((w.alloc (.cells #[.int .i64 oa, .int .i64 da] 23 (0, 0))).alloc (.cells #[.int .i64 ob, .int .i64 db] 23 (0, 0))).heap.size = w.heap.size + 1 + 1 := by simp
  generalize (w.alloc (.cells #[.int .i64 oa, .int .i64 da] 23 (0, 0))).alloc (.cells #[.int .i64 ob, .int .i64 db] 23 (0, 0)) = V at *
  have h := heap_alloc_new V (.cells #[.int .i64 b, .int .i64 t] 33 (0, 0))
  rw [hn] at h
  have k : Fr no V (V.alloc (.cells #[.int .i64 b, .int .i64 t] 33 (0, 0))) := (Fr.refl no V).alloc _
  exact ⟨f.noTrans k, k.keepc a0, k.keepc a1, k.keepc b0, k.keepc b1, (two_cells h).1, (two_cells h).2.1⟩
/-- A clock is stored into a new cell. -/
theorem new_clock {w : World} (o d : Int) : Fr no w (w.alloc (.cells #[.int .i64 o, .int .i64 d] 23 (0, 0))) := (Fr.refl no w).alloc _
set_option maxHeartbeats 4000000 in
theorem adjusts_law (oa da ob db b t : Int) (w : World) (x1 : -9223372036854775808 ≤ b) (x2 : b ≤ 9223372036854775807) : Calls Try.prog 5 #[.agg #[.int .i64 oa, .int .i64 da], .agg #[.int .i64 ob, .int .i64 db], .agg #[.int .i64 b, .int .i64 t]] w fun e w' => e = .returned (.bool true) ∧ Fr no w w' := by
  obtain ⟨W, hW⟩ : ∃ W, W = ((w.alloc (.cells #[.int .i64 oa, .int .i64 da] 23 (0, 0))).alloc (.cells #[.int .i64 ob, .int .i64 db] 23 (0, 0))).alloc (.cells #[.int .i64 b, .int .i64 t] 33 (0, 0)) := ⟨_, rfl⟩
  obtain ⟨hF, m0, m1, m2, m3, m4, m5⟩ := three_box w oa da ob db b t
  rw [← hW] at hF m0 m1 m2 m3 m4 m5
  have HW := Lib.hid hW
  have HF0 := Lib.hid hF
  have q0_0 := m0
  have q1_0 := m1
  have q2_0 := m2
  have q3_0 := m3
  have q4_0 := m4
  have q5_0 := m5
  clear hW hF m0 m1 m2 m3 m4 m5
  have K1 := Lib.hid (fun w => adjust_any oa da b w x1 x2)
  have K2 := Lib.hid (fun w => adjustR_any oa da b w x1 x2)
  have K3 := Lib.hid (fun w => apart_any oa da ob db t w)
  have K4 := Lib.hid (fun w => apartR_any oa da ob db t w)
  generalize adO oa da b = v1 at *
  generalize adD oa da b = v2 at *
  generalize adE oa da b = e1 at *
  generalize apV oa da ob db t = v3 at *
  generalize apE oa da ob db t = e3 at *
  go_enter Try.func5, Try.ntmps5
  go_wp2_with fail
  rw [← HW.out]
  refine (awake_any _).mono ?_
  rintro e w1 ⟨rfl, f1⟩
  have HF1 := Lib.hid (HF0.out.noTrans f1)
  have q0_1 := f1.keepc q0_0
  have q1_1 := f1.keepc q1_0
  have q2_1 := f1.keepc q2_0
  have q3_1 := f1.keepc q3_0
  have q4_1 := f1.keepc q4_0
  have q5_1 := f1.keepc q5_0
  clear f1 q0_0 q1_0 q2_0 q3_0 q4_0 q5_0
  go_wp2_with fail
  refine (K1.out _).mono ?_
  rintro e w2 ⟨rfl, f2⟩
  have HG2 := Lib.hid (HF1.out.noTrans f2)
  have q0_a := f2.keepc q0_1
  have q1_a := f2.keepc q1_1
  have q2_a := f2.keepc q2_1
  have q3_a := f2.keepc q3_1
  have q4_a := f2.keepc q4_1
  have q5_a := f2.keepc q5_1
  clear f2 q0_1 q1_1 q2_1 q3_1 q4_1 q5_1
  have lq0 := lt_of_cell q0_a
  have lq2 := lt_of_cell q2_a
  have lq4 := lt_of_cell q4_a
  go_wp2_with fail
  clear lq0 lq2 lq4
  obtain ⟨u2, hu2⟩ : ∃ u2, u2 = w2.alloc (.cells #[.int .i64 v1, .int .i64 v2] 23 (0, 0)) := ⟨_, rfl⟩
  have k2 : Fr no w2 u2 := by rw [hu2]; exact new_clock _ _
  have hz2 : u2.heap[w2.heap.size]? = some (.cells #[.int .i64 v1, .int .i64 v2] 23 (0, 0)) := by rw [hu2]; exact heap_alloc_new w2 _
  obtain ⟨y0_2, y1_2, -, -⟩ := two_cells hz2
  have HF2 := Lib.hid (HG2.out.noTrans k2)
  have q0_2 := k2.keepc q0_a
  have q1_2 := k2.keepc q1_a
  have q2_2 := k2.keepc q2_a
  have q3_2 := k2.keepc q3_a
  have q4_2 := k2.keepc q4_a
  have q5_2 := k2.keepc q5_a
  have HU2 := Lib.hid hu2
  rw [← HU2.out]
  clear k2 hz2 hu2 q0_a q1_a q2_a q3_a q4_a q5_a
  refine (K2.out _).mono ?_
  rintro e w3 ⟨rfl, f3⟩
  have HG3 := Lib.hid (HF2.out.noTrans f3)
  have q0_a := f3.keepc q0_2
  have q1_a := f3.keepc q1_2
  have q2_a := f3.keepc q2_2
  have q3_a := f3.keepc q3_2
  have q4_a := f3.keepc q4_2
  have q5_a := f3.keepc q5_2
  have y0_a := f3.keepc y0_2
  have y1_a := f3.keepc y1_2
  clear f3 q0_2 q1_2 q2_2 q3_2 q4_2 q5_2 y0_2 y1_2
  have lq0 := lt_of_cell q0_a
  have lq2 := lt_of_cell q2_a
  have lq4 := lt_of_cell q4_a
  have ly0 := lt_of_cell y0_a
  go_wp2_with fail
  clear lq0 lq2 lq4 ly0
  obtain ⟨u3, hu3⟩ : ∃ u3, u3 = w3.alloc (.cells #[.int .i64 v1, .int .i64 v2] 23 (0, 0)) := ⟨_, rfl⟩
  have k3 : Fr no w3 u3 := by rw [hu3]; exact new_clock _ _
  have hz3 : u3.heap[w3.heap.size]? = some (.cells #[.int .i64 v1, .int .i64 v2] 23 (0, 0)) := by rw [hu3]; exact heap_alloc_new w3 _
  obtain ⟨z0_3, z1_3, -, -⟩ := two_cells hz3
  have HF3 := Lib.hid (HG3.out.noTrans k3)
  have q0_3 := k3.keepc q0_a
  have q1_3 := k3.keepc q1_a
  have q2_3 := k3.keepc q2_a
  have q3_3 := k3.keepc q3_a
  have q4_3 := k3.keepc q4_a
  have q5_3 := k3.keepc q5_a
  have y0_3 := k3.keepc y0_a
  have y1_3 := k3.keepc y1_a
  have HU3 := Lib.hid hu3
  rw [← HU3.out]
  clear k3 hz3 hu3 q0_a q1_a q2_a q3_a q4_a q5_a y0_a y1_a
  refine (K3.out _).mono ?_
  rintro e w4 ⟨rfl, f4⟩
  have HF4 := Lib.hid (HF3.out.noTrans f4)
  have q0_4 := f4.keepc q0_3
  have q1_4 := f4.keepc q1_3
  have q2_4 := f4.keepc q2_3
  have q3_4 := f4.keepc q3_3
  have q4_4 := f4.keepc q4_3
  have q5_4 := f4.keepc q5_3
  have y0_4 := f4.keepc y0_3
  have y1_4 := f4.keepc y1_3
  have z0_4 := f4.keepc z0_3
  have z1_4 := f4.keepc z1_3
  clear f4 q0_3 q1_3 q2_3 q3_3 q4_3 q5_3 y0_3 y1_3 z0_3 z1_3
  go_wp2_with fail
  refine (K4.out _).mono ?_
  rintro e w5 ⟨rfl, f5⟩
  have HF5 := Lib.hid (HF4.out.noTrans f5)
  have q0_5 := f5.keepc q0_4
  have q1_5 := f5.keepc q1_4
  have q2_5 := f5.keepc q2_4
  have q3_5 := f5.keepc q3_4
  have q4_5 := f5.keepc q4_4
  have q5_5 := f5.keepc q5_4
  have y0_5 := f5.keepc y0_4
  have y1_5 := f5.keepc y1_4
  have z0_5 := f5.keepc z0_4
  have z1_5 := f5.keepc z1_4
  clear f5 q0_4 q1_4 q2_4 q3_4 q4_4 q5_4 y0_4 y1_4 z0_4 z1_4
  go_wp2_with fail
  go_ret
  exact ⟨by simp, HF5.out⟩
end Go.Proofs.Ythddkcbgmhijnaa
