/- awake; Numbers; Frames. -/
import Derived.Test.YtgddmmlkpajpmaaArf
import Derived.Test.YtgddmmlkpajpmaaSlo
namespace Go.Proofs.Ytgddmmlkpajpmaa
set_option linter.unusedVariables false
open Go.RowKit

theorem ex_a : grV 1000000 100000 = 202 ∧ grE 1000000 100000 = 0 := by decide
theorem ex_b : leV 100 100000 = 1000102 ∧ leE 100 100000 = 0 := by decide
theorem ex_c : stV 100 100000 = 203 ∧ leE 100 100000 = 0 := by decide
theorem ex_d : spV 2 3 100 100000 = 1015 ∧ spE 2 3 100 100000 = 0 := by decide
theorem ex_k : slV 2 3 100000 = 108 ∧ slE 2 3 100000 = 0 := by
  have h : Sl 5 100000 108 := by
    refine ⟨by omega, by omega, by decide, fun j h1 h2 => ?_⟩
    have h3 := sp_mono (s := 5) (S := 5) (n := 109) (m := j) (d := 100000) (D := 100000) (by omega) (by omega) (by omega) (by omega) (by omega) (by omega) h2 (by omega)
    have h4 : (1100 : Int) < 5 * stF 109 100000 := by decide
    omega
  exact ⟨h.eq, rfl⟩
theorem ex_rc0 : Rc 0 0 2120 2120 := by
  refine ⟨by omega, by omega, fun t t0 t1 => ?_, fun t t0 t1 => ?_⟩ <;> simp only [sh, fl, Int.mul_zero] <;> omega
theorem ex_t : enV 0 0 0 = 8208 ∧ enE 0 0 0 = 0 := by
  have h0 : csE 0 0 0 = 0 := by decide
  have h1 : ¬ sh 0 0 1099511627776 < 2120 := by decide
  have h2 : (0 : Int) * 10000 + 2120 = 2120 := by decide
  have h3 : inV 0 0 0 2120 = 2120 ∧ inE 0 0 0 2120 = 0 := by
    simp only [inV, inE, h0, rcV, rcE, h2, if_neg h1, if_true]
    exact ⟨ex_rc0.eq, trivial⟩
  simp only [enV, enE, h3.1, h3.2]
  decide

set_option maxHeartbeats 2000000 in
theorem awake_any (w : World) : Calls Try.prog 11 #[] w fun e w' => e = .returned (.bool true) ∧ Fr no w w' := by
  have K0 := Lib.hid (fun w => growth_any 1000000 100000 w)
  rw [ex_a.1, ex_a.2] at K0
  have K1 := Lib.hid (fun w => length_any 100 100000 w)
  rw [ex_b.1, ex_b.2] at K1
  have K2 := Lib.hid (fun w => step_any 100 100000 w)
  rw [ex_c.1, ex_c.2] at K2
  have K3 := Lib.hid (fun w => spread_any 2 3 100 100000 w)
  rw [ex_d.1, ex_d.2] at K3
  have K4 := Lib.hid (fun w => slots_any 2 3 100000 w)
  rw [ex_k.1, ex_k.2] at K4
  have K5 := Lib.hid (fun w => end_any 0 0 0 w)
  rw [ex_t.1, ex_t.2] at K5
  have HF0 := Lib.hid (Fr.refl no w)
  go_enter Try.func11, Try.ntmps11
  go_wp2_with fail
  refine (K0.out _).mono ?_
  rintro e w1 ⟨rfl, f1⟩
  have HF1 := Lib.hid (HF0.out.noTrans f1)
  clear f1 
  go_wp2_with fail
  refine (K1.out _).mono ?_
  rintro e w2 ⟨rfl, f2⟩
  have HF2 := Lib.hid (HF1.out.noTrans f2)
  clear f2 
  go_wp2_with fail
  refine (K2.out _).mono ?_
  rintro e w3 ⟨rfl, f3⟩
  have HF3 := Lib.hid (HF2.out.noTrans f3)
  clear f3 
  go_wp2_with fail
  refine (K3.out _).mono ?_
  rintro e w4 ⟨rfl, f4⟩
  have HF4 := Lib.hid (HF3.out.noTrans f4)
  clear f4 
  go_wp2_with fail
  refine (K4.out _).mono ?_
  rintro e w5 ⟨rfl, f5⟩
  have HF5 := Lib.hid (HF4.out.noTrans f5)
  clear f5 
  go_wp2_with fail
  refine (K5.out _).mono ?_
  rintro e w6 ⟨rfl, f6⟩
  have HF6 := Lib.hid (HF5.out.noTrans f6)
  clear f6 
  go_wp2_with fail
  go_ret
  exact ⟨rfl, HF6.out⟩

theorem box3 (w : World) (a b c : Int) : Fr no w (w.alloc (.cells #[.int .i64 a, .int .i64 b, .int .i64 c] 22 (0, 0))) ∧ (w.alloc (.cells #[.int .i64 a, .int .i64 b, .int .i64 c] 22 (0, 0))).cell? ⟨w.heap.size, 0, none⟩ = some (.int .i64 a) ∧ (w.alloc (.cells #[.int .i64 a, .int .i64 b, .int .i64 c] 22 (0, 0))).cell? ⟨w.heap.size, 1, none⟩ = some (.int .i64 b) ∧ (w.alloc (.cells #[.int .i64 a, .int .i64 b, .int .i64 c] 22 (0, 0))).cell? ⟨w.heap.size, 2, none⟩ = some (.int .i64 c) := by
  obtain ⟨h0, h1, h2, -⟩ := three_cells (heap_alloc_new w (.cells #[.int .i64 a, .int .i64 b, .int .i64 c] 22 (0, 0)))
  exact ⟨(Fr.refl no w).alloc _, h0, h1, h2⟩

set_option maxRecDepth 20000 in
set_option maxHeartbeats 4000000 in
theorem numbers_law (t d x y z : Int) (w : World) : Calls Try.prog 3 #[.int .i64 t, .int .i64 d, .agg #[.int .i64 x, .int .i64 y, .int .i64 z]] w fun e w' => e = .returned (.bool true) ∧ Fr no w w' := by
  obtain ⟨hF, c0_0, c1_0, c2_0⟩ := box3 w x y z
  obtain ⟨W, hW⟩ : ∃ W, W = w.alloc (.cells #[.int .i64 x, .int .i64 y, .int .i64 z] 22 (0, 0)) := ⟨_, rfl⟩
  rw [← hW] at hF c0_0 c1_0 c2_0
  have HW := Lib.hid hW
  have HF0 := Lib.hid hF
  clear hW hF
  have K0 := Lib.hid (fun w => awake_any w)
  have K1 := Lib.hid (fun w => growth_any t d w)
  have K2 := Lib.hid (fun w => growthR_any t d w)
  have K3 := Lib.hid (fun w => length_any x d w)
  have K4 := Lib.hid (fun w => lengthR_any x d w)
  have K5 := Lib.hid (fun w => step_any x d w)
  have K6 := Lib.hid (fun w => stepR_any x d w)
  have K7 := Lib.hid (fun w => spread_any y z x d w)
  have K8 := Lib.hid (fun w => spreadR_any y z x d w)
  have K9 := Lib.hid (fun w => slots_any y z d w)
  have K10 := Lib.hid (fun w => slotsR_any y z d w)
  generalize grV t d = g0 at *
  generalize grE t d = g1 at *
  generalize leV x d = g2 at *
  generalize leE x d = g3 at *
  generalize stV x d = g4 at *
  generalize spV y z x d = g5 at *
  generalize spE y z x d = g6 at *
  generalize slV y z d = g7 at *
  generalize slE y z d = g8 at *
  go_enter Try.func3, Try.ntmps3
  go_wp2_with fail
  rw [← HW.out]
  refine (K0.out _).mono ?_
  rintro e w1 ⟨rfl, f1⟩
  have HF1 := Lib.hid (HF0.out.noTrans f1)
  have c0_1 := f1.keepc c0_0
  have c1_1 := f1.keepc c1_0
  have c2_1 := f1.keepc c2_0
  clear f1 c0_0 c1_0 c2_0
  go_wp2_with fail
  refine (K1.out _).mono ?_
  rintro e w2 ⟨rfl, f2⟩
  have HF2 := Lib.hid (HF1.out.noTrans f2)
  have c0_2 := f2.keepc c0_1
  have c1_2 := f2.keepc c1_1
  have c2_2 := f2.keepc c2_1
  clear f2 c0_1 c1_1 c2_1
  go_wp2_with fail
  refine (K2.out _).mono ?_
  rintro e w3 ⟨rfl, f3⟩
  have HF3 := Lib.hid (HF2.out.noTrans f3)
  have c0_3 := f3.keepc c0_2
  have c1_3 := f3.keepc c1_2
  have c2_3 := f3.keepc c2_2
  clear f3 c0_2 c1_2 c2_2
  go_wp2_with fail
  refine (K3.out _).mono ?_
  rintro e w4 ⟨rfl, f4⟩
  have HF4 := Lib.hid (HF3.out.noTrans f4)
  have c0_4 := f4.keepc c0_3
  have c1_4 := f4.keepc c1_3
  have c2_4 := f4.keepc c2_3
  clear f4 c0_3 c1_3 c2_3
  go_wp2_with fail
  refine (K4.out _).mono ?_
  rintro e w5 ⟨rfl, f5⟩
  have HF5 := Lib.hid (HF4.out.noTrans f5)
  have c0_5 := f5.keepc c0_4
  have c1_5 := f5.keepc c1_4
  have c2_5 := f5.keepc c2_4
  clear f5 c0_4 c1_4 c2_4
  go_wp2_with fail
  refine (K5.out _).mono ?_
  rintro e w6 ⟨rfl, f6⟩
  have HF6 := Lib.hid (HF5.out.noTrans f6)
  have c0_6 := f6.keepc c0_5
  have c1_6 := f6.keepc c1_5
  have c2_6 := f6.keepc c2_5
  clear f6 c0_5 c1_5 c2_5
  go_wp2_with fail
  refine (K6.out _).mono ?_
  rintro e w7 ⟨rfl, f7⟩
  have HF7 := Lib.hid (HF6.out.noTrans f7)
  have c0_7 := f7.keepc c0_6
  have c1_7 := f7.keepc c1_6
  have c2_7 := f7.keepc c2_6
  clear f7 c0_6 c1_6 c2_6
  go_wp2_with fail
  refine (K7.out _).mono ?_
  rintro e w8 ⟨rfl, f8⟩
  have HF8 := Lib.hid (HF7.out.noTrans f8)
  have c0_8 := f8.keepc c0_7
  have c1_8 := f8.keepc c1_7
  have c2_8 := f8.keepc c2_7
  clear f8 c0_7 c1_7 c2_7
  go_wp2_with fail
  refine (K8.out _).mono ?_
  rintro e w9 ⟨rfl, f9⟩
  have HF9 := Lib.hid (HF8.out.noTrans f9)
  have c0_9 := f9.keepc c0_8
  have c1_9 := f9.keepc c1_8
  have c2_9 := f9.keepc c2_8
  clear f9 c0_8 c1_8 c2_8
  go_wp2_with fail
  refine (K9.out _).mono ?_
  rintro e w10 ⟨rfl, f10⟩
  have HF10 := Lib.hid (HF9.out.noTrans f10)
  have c0_10 := f10.keepc c0_9
  have c1_10 := f10.keepc c1_9
  have c2_10 := f10.keepc c2_9
  clear f10 c0_9 c1_9 c2_9
  go_wp2_with fail
  refine (K10.out _).mono ?_
  rintro e w11 ⟨rfl, f11⟩
  have HF11 := Lib.hid (HF10.out.noTrans f11)
  have c0_11 := f11.keepc c0_10
  have c1_11 := f11.keepc c1_10
  have c2_11 := f11.keepc c2_10
  clear f11 c0_10 c1_10 c2_10
  go_wp2_with fail
  go_ret
  exact ⟨rfl, HF11.out⟩

set_option maxRecDepth 20000 in
set_option maxHeartbeats 4000000 in
theorem frames_law (oa da ob db s : Int) (w : World) : Calls Try.prog 4 #[.agg #[.int .i64 oa, .int .i64 da], .agg #[.int .i64 ob, .int .i64 db], .int .i64 s] w fun e w' => e = .returned (.bool true) ∧ Fr no w w' := by
  have hT := two_box w oa da ob db
  obtain ⟨W, hW⟩ : ∃ W, W = (w.alloc (.cells #[.int .i64 oa, .int .i64 da] 31 (0, 0))).alloc (.cells #[.int .i64 ob, .int .i64 db] 31 (0, 0)) := ⟨_, rfl⟩
  rw [← hW] at hT
  have HW := Lib.hid hW
  obtain ⟨hF, a0_0, a1_0, b0_0, b1_0⟩ := hT
  have HF0 := Lib.hid hF
  clear hW hF
  have K0 := Lib.hid (fun w => awake_any w)
  have K1 := Lib.hid (fun w => end_any oa da s w)
  have K2 := Lib.hid (fun w => endR_any oa da s w)
  have K3 := Lib.hid (fun w => fits_any oa da ob db s w)
  have K4 := Lib.hid (fun w => fitsR_any oa da ob db s w)
  have K5 := Lib.hid (fun w => late_any oa da ob db s w)
  have K6 := Lib.hid (fun w => lateR_any oa da ob db s w)
  generalize enV oa da s = g0 at *
  generalize enE oa da s = g1 at *
  generalize fiB oa da ob db s = g2 at *
  generalize laV oa da ob db s = g3 at *
  generalize arE oa da ob db s = g4 at *
  go_enter Try.func4, Try.ntmps4
  go_wp2_with fail
  rw [← HW.out]
  refine (K0.out _).mono ?_
  rintro e w1 ⟨rfl, f1⟩
  have HF1 := Lib.hid (HF0.out.noTrans f1)
  have a0_1 := f1.keepc a0_0
  have a1_1 := f1.keepc a1_0
  have b0_1 := f1.keepc b0_0
  have b1_1 := f1.keepc b1_0
  clear f1 a0_0 a1_0 b0_0 b1_0
  go_wp2_with fail
  refine (K1.out _).mono ?_
  rintro e w2 ⟨rfl, f2⟩
  have HF2 := Lib.hid (HF1.out.noTrans f2)
  have a0_2 := f2.keepc a0_1
  have a1_2 := f2.keepc a1_1
  have b0_2 := f2.keepc b0_1
  have b1_2 := f2.keepc b1_1
  clear f2 a0_1 a1_1 b0_1 b1_1
  go_wp2_with fail
  refine (K2.out _).mono ?_
  rintro e w3 ⟨rfl, f3⟩
  have HF3 := Lib.hid (HF2.out.noTrans f3)
  have a0_3 := f3.keepc a0_2
  have a1_3 := f3.keepc a1_2
  have b0_3 := f3.keepc b0_2
  have b1_3 := f3.keepc b1_2
  clear f3 a0_2 a1_2 b0_2 b1_2
  go_wp2_with fail
  refine (K3.out _).mono ?_
  rintro e w4 ⟨rfl, f4⟩
  have HF4 := Lib.hid (HF3.out.noTrans f4)
  have a0_4 := f4.keepc a0_3
  have a1_4 := f4.keepc a1_3
  have b0_4 := f4.keepc b0_3
  have b1_4 := f4.keepc b1_3
  clear f4 a0_3 a1_3 b0_3 b1_3
  go_wp2_with fail
  refine (K4.out _).mono ?_
  rintro e w5 ⟨rfl, f5⟩
  have HF5 := Lib.hid (HF4.out.noTrans f5)
  have a0_5 := f5.keepc a0_4
  have a1_5 := f5.keepc a1_4
  have b0_5 := f5.keepc b0_4
  have b1_5 := f5.keepc b1_4
  clear f5 a0_4 a1_4 b0_4 b1_4
  go_wp2_with fail
  refine (K5.out _).mono ?_
  rintro e w6 ⟨rfl, f6⟩
  have HF6 := Lib.hid (HF5.out.noTrans f6)
  have a0_6 := f6.keepc a0_5
  have a1_6 := f6.keepc a1_5
  have b0_6 := f6.keepc b0_5
  have b1_6 := f6.keepc b1_5
  clear f6 a0_5 a1_5 b0_5 b1_5
  go_wp2_with fail
  refine (K6.out _).mono ?_
  rintro e w7 ⟨rfl, f7⟩
  have HF7 := Lib.hid (HF6.out.noTrans f7)
  have a0_7 := f7.keepc a0_6
  have a1_7 := f7.keepc a1_6
  have b0_7 := f7.keepc b0_6
  have b1_7 := f7.keepc b1_6
  clear f7 a0_6 a1_6 b0_6 b1_6
  go_wp2_with fail
  go_ret
  exact ⟨by first | rfl | simp, HF7.out⟩

end Go.Proofs.Ytgddmmlkpajpmaa
