/- Grows; Lasts. -/
import Derived.Test.YtgddmmlkpajpmaaLw1
import Derived.BigQuiet
namespace Go.Proofs.Ytgddmmlkpajpmaa
set_option linter.unusedVariables false
open Go.RowKit

theorem ldrift_any (o d D : Int) (w : World) (D0 : 0 ≤ D) (D1 : D ≤ 100000) : Calls Try.prog 28 #[.agg #[.int .i64 o, .int .i64 d], .int .i64 D] w fun e w' => e = .returned (.bool (inR d (-D) D)) ∧ Fr no w w' := by
  obtain ⟨hF, c0, c1⟩ := box_clock w o d
  obtain ⟨W, hW⟩ : ∃ W, W = w.alloc (.cells #[.int .i64 o, .int .i64 d] 31 (0, 0)) := ⟨_, rfl⟩
  rw [← hW] at hF c0 c1
  have HW := Lib.hid hW
  have HF := Lib.hid hF
  clear hW hF
  by_cases h1 : -D ≤ d
  · have HR := Lib.hid (show inR d (-D) D = decide (d ≤ D) by simp [inR, h1])
    go_enter Try.func28, Try.ntmps28
    go_wp2_with fail
    rw [← HW.out]
    go_wp2_with fail
    go_ret
    rw [HR.out]
    exact ⟨rfl, HF.out⟩
  · have HR := Lib.hid (show inR d (-D) D = false by simp [inR, h1])
    have h3 : d < -D := by omega
    clear h1
    go_enter Try.func28, Try.ntmps28
    go_wp2_with fail
    rw [← HW.out]
    go_wp2_with fail
    go_ret
    rw [HR.out]
    exact ⟨rfl, HF.out⟩
/-- the absolute value -/
def sz (n : Int) : Int := if n < 0 then -n else n
theorem sz_le {n k : Int} : sz n ≤ k ↔ -k ≤ n ∧ n ≤ k := by unfold sz; split <;> omega
theorem sz_bd {n : Int} (h1 : -9000000000000000000 ≤ n) (h2 : n ≤ 9000000000000000000) : 0 ≤ sz n ∧ sz n ≤ 9000000000000000000 := by unfold sz; split <;> omega
theorem size_any (n : Int) (w : World) (h1 : -9000000000000000000 ≤ n) (h2 : n ≤ 9000000000000000000) : Calls Try.prog 31 #[.int .i64 n] w fun e w' => e = .returned (.int .i64 (sz n)) ∧ w' = w := by
  by_cases h : n < 0
  · have hz := Lib.hid (show sz n = -n by simp [sz, h])
    have hm : (if n < -n then -n else n) = -n := if_pos (by omega)
    go_enter Try.func31, Try.ntmps31
    go_wp2_with fail
    go_ret
    rw [hz.out]
    first | exact ⟨rfl, rfl⟩ | exact ⟨by simp [hm], rfl⟩
  · have hz := Lib.hid (show sz n = n by simp [sz, h])
    have hm : (if n < -n then -n else n) = n := if_neg (by omega)
    go_enter Try.func31, Try.ntmps31
    go_wp2_with fail
    go_ret
    rw [hz.out]
    first | exact ⟨rfl, rfl⟩ | exact ⟨by simp [hm], rfl⟩

theorem grow {oa da ob db t d D r : Int} (d0 : 0 ≤ d) (a1 : -D ≤ da) (a2 : da ≤ D) (b1 : -D ≤ db) (b2 : db ≤ D) (r0 : 0 ≤ r) (r2 : r ≤ 2) :
    -(1 + grF d D) ≤ sh (ob + (r - 1 - (sh ob db t - sh oa da t))) db (t + d) - sh oa da (t + d) ∧ sh (ob + (r - 1 - (sh ob db t - sh oa da t))) db (t + d) - sh oa da (t + d) ≤ 1 + grF d D := by
  have e1 : (t + d) * db = t * db + d * db := Int.add_mul ..
  have e2 : (t + d) * da = t * da + d * da := Int.add_mul ..
  have h1 : d * (-D) ≤ d * db := Int.mul_le_mul_of_nonneg_left b1 d0
  have h2 : d * db ≤ d * D := Int.mul_le_mul_of_nonneg_left b2 d0
  have h3 : d * (-D) ≤ d * da := Int.mul_le_mul_of_nonneg_left a1 d0
  have h4 : d * da ≤ d * D := Int.mul_le_mul_of_nonneg_left a2 d0
  rw [Int.mul_neg] at h1 h3
  unfold sh fl grF
  rw [e1, e2, Int.mul_assoc]
  generalize t * db = p at *
  generalize d * db = q at *
  generalize t * da = p2 at *
  generalize d * da = q2 at *
  generalize d * D = M at *
  omega

set_option maxRecDepth 20000 in
set_option maxHeartbeats 4000000 in
theorem grows_law (oa da ob db t d D : Int) (w : World) (t1 : -9223372036854775808 ≤ t) (t2 : t ≤ 9223372036854775807) : Calls Try.prog 5 #[.agg #[.int .i64 oa, .int .i64 da], .agg #[.int .i64 ob, .int .i64 db], .agg #[.int .i64 t, .int .i64 d, .int .i64 D]] w fun e w' => e = .returned (.bool true) ∧ Fr no w w' := by
  have hT := two_box w oa da ob db
  obtain ⟨W1, hW1⟩ : ∃ W1, W1 = (w.alloc (.cells #[.int .i64 oa, .int .i64 da] 31 (0, 0))).alloc (.cells #[.int .i64 ob, .int .i64 db] 31 (0, 0)) := ⟨_, rfl⟩
  have hb0 : W1.heap[w.heap.size + 1]? = some (.cells #[.int .i64 ob, .int .i64 db] 31 (0, 0)) := by
    rw [hW1]; simpa using heap_alloc_new (w.alloc (.cells #[.int .i64 oa, .int .i64 da] 31 (0, 0))) (.cells #[.int .i64 ob, .int .i64 db] 31 (0, 0))
  have hs : W1.heap.size = w.heap.size + 2 := by rw [hW1]; simp
  rw [← hW1] at hT
  obtain ⟨hF, a0, a1, -, -⟩ := hT
  obtain ⟨hF2, c0_0, c1_0, c2_0⟩ := box3 W1 t d D
  obtain ⟨W, hW⟩ : ∃ W, W = W1.alloc (.cells #[.int .i64 t, .int .i64 d, .int .i64 D] 22 (0, 0)) := ⟨_, rfl⟩
  rw [← hW] at hF2 c0_0 c1_0 c2_0
  have hF3 := hF.noTrans hF2
  have a0_0 := hF2.keepc a0
  have a1_0 := hF2.keepc a1
  have hb_0 := hF2.blk hb0 (fun h => h)
  rw [hs] at c0_0 c1_0 c2_0
  rw [hW1] at hW
  have HW := Lib.hid hW
  have HB0 := Lib.hid hb_0
  have HF0 := Lib.hid hF3
  clear hF3 hW hF hF2 hW1 hs a0 a1 hb0 hb_0 W1
  have K1 := Lib.hid (fun w => growth_any d D w)
  by_cases he : grE d D = 0
  · obtain ⟨hd, hD⟩ : isT d = true ∧ isD D = true := by
      unfold grE at he
      cases h1 : isT d <;> cases h2 : isD D <;> simp [h1, h2] at he ⊢
    obtain ⟨D0, D1⟩ := isD_t.1 hD
    obtain ⟨d0, d1⟩ := isT_t.1 hd
    simp only [MT] at d1
    obtain ⟨g1, g2⟩ := grF_bd d0 d1 D0 D1
    rw [he, show grV d D = grF d D by simp [grV, hd, hD]] at K1
    have K2 := Lib.hid (fun w => ldrift_any oa da D w D0 D1)
    have K3 := Lib.hid (fun w => ldrift_any ob db D w D0 D1)
    clear he hd hD
    by_cases h1 : t < 0
    · generalize grF d D = g at *
      clear t1 t2
      go_enter Try.func5, Try.ntmps5
      go_wp2_with fail
      rw [← HW.out]
      refine (awake_any _).mono ?_
      rintro e w1 ⟨rfl, f1⟩
      have HF1 := Lib.hid ((HF0.out.noTrans f1).drewN 9)
      clear HF1
      have HF1 := Lib.hid (HF0.out.noTrans f1)
      have HB1 := Lib.hid (f1.blk HB0.out (fun h => h))
      have a0_1 := f1.keepc a0_0
      have a1_1 := f1.keepc a1_0
      have c0_1 := f1.keepc c0_0
      have c1_1 := f1.keepc c1_0
      have c2_1 := f1.keepc c2_0
      clear f1 a0_0 a1_0 c0_0 c1_0 c2_0 HB0 HF0
      go_wp2_with fail
      go_quiet (fail)
      rename_i nq
      obtain ⟨v1, hv1⟩ : ∃ v, v = w1.drewN nq := ⟨_, rfl⟩
      have HF1 := Lib.hid (show Fr no w v1 by rw [hv1]; exact HF1.out.drewN nq)
      have HB1 := Lib.hid (show v1.heap[w.heap.size + 1]? = some (.cells #[.int .i64 ob, .int .i64 db] 31 (0, 0)) by rw [hv1]; exact HB1.out)
      have a0_1 : v1.cell? ⟨w.heap.size, 0, none⟩ = some (.int .i64 oa) := by rw [hv1]; simpa using a0_1
      have a1_1 : v1.cell? ⟨w.heap.size, 1, none⟩ = some (.int .i64 da) := by rw [hv1]; simpa using a1_1
      rw [← hv1]
      clear hv1 c0_1 c1_1 c2_1
      go_wp2_with fail
      refine (K1.out _).mono ?_
      rintro e w2 ⟨rfl, f2⟩
      have HF2 := Lib.hid (HF1.out.noTrans f2)
      have HB2 := Lib.hid (f2.blk HB1.out (fun h => h))
      have a0_2 := f2.keepc a0_1
      have a1_2 := f2.keepc a1_1
      obtain ⟨b0_2, b1_2, g0_2, g1_2⟩ := two_cells HB2.out
      clear f2 a0_1 a1_1 HF1
      go_wp2_with fail
      go_ret
      exact ⟨rfl, HF2.out⟩

    have h2 : 0 ≤ t := by omega
    clear h1
    by_cases h1 : 1099511627776 - d < t
    · generalize grF d D = g at *
      clear t1 t2
      go_enter Try.func5, Try.ntmps5
      go_wp2_with fail
      rw [← HW.out]
      refine (awake_any _).mono ?_
      rintro e w1 ⟨rfl, f1⟩
      have HF1 := Lib.hid ((HF0.out.noTrans f1).drewN 9)
      clear HF1
      have HF1 := Lib.hid (HF0.out.noTrans f1)
      have HB1 := Lib.hid (f1.blk HB0.out (fun h => h))
      have a0_1 := f1.keepc a0_0
      have a1_1 := f1.keepc a1_0
      have c0_1 := f1.keepc c0_0
      have c1_1 := f1.keepc c1_0
      have c2_1 := f1.keepc c2_0
      clear f1 a0_0 a1_0 c0_0 c1_0 c2_0 HB0 HF0
      go_wp2_with fail
      go_quiet (fail)
      rename_i nq
      obtain ⟨v1, hv1⟩ : ∃ v, v = w1.drewN nq := ⟨_, rfl⟩
      have HF1 := Lib.hid (show Fr no w v1 by rw [hv1]; exact HF1.out.drewN nq)
      have HB1 := Lib.hid (show v1.heap[w.heap.size + 1]? = some (.cells #[.int .i64 ob, .int .i64 db] 31 (0, 0)) by rw [hv1]; exact HB1.out)
      have a0_1 : v1.cell? ⟨w.heap.size, 0, none⟩ = some (.int .i64 oa) := by rw [hv1]; simpa using a0_1
      have a1_1 : v1.cell? ⟨w.heap.size, 1, none⟩ = some (.int .i64 da) := by rw [hv1]; simpa using a1_1
      rw [← hv1]
      clear hv1 c0_1 c1_1 c2_1
      go_wp2_with fail
      refine (K1.out _).mono ?_
      rintro e w2 ⟨rfl, f2⟩
      have HF2 := Lib.hid (HF1.out.noTrans f2)
      have HB2 := Lib.hid (f2.blk HB1.out (fun h => h))
      have a0_2 := f2.keepc a0_1
      have a1_2 := f2.keepc a1_1
      obtain ⟨b0_2, b1_2, g0_2, g1_2⟩ := two_cells HB2.out
      clear f2 a0_1 a1_1 HF1
      go_wp2_with fail
      go_ret
      exact ⟨rfl, HF2.out⟩

    have h3 : t ≤ 1099511627776 - d := by omega
    clear h1 t1 t2
    cases ka : inR da (-D) D
    · rw [ka] at K2
      generalize grF d D = g at *
      clear ka
      go_enter Try.func5, Try.ntmps5
      go_wp2_with fail
      rw [← HW.out]
      refine (awake_any _).mono ?_
      rintro e w1 ⟨rfl, f1⟩
      have HF1 := Lib.hid ((HF0.out.noTrans f1).drewN 9)
      clear HF1
      have HF1 := Lib.hid (HF0.out.noTrans f1)
      have HB1 := Lib.hid (f1.blk HB0.out (fun h => h))
      have a0_1 := f1.keepc a0_0
      have a1_1 := f1.keepc a1_0
      have c0_1 := f1.keepc c0_0
      have c1_1 := f1.keepc c1_0
      have c2_1 := f1.keepc c2_0
      clear f1 a0_0 a1_0 c0_0 c1_0 c2_0 HB0 HF0
      go_wp2_with fail
      go_quiet (fail)
      rename_i nq
      obtain ⟨v1, hv1⟩ : ∃ v, v = w1.drewN nq := ⟨_, rfl⟩
      have HF1 := Lib.hid (show Fr no w v1 by rw [hv1]; exact HF1.out.drewN nq)
      have HB1 := Lib.hid (show v1.heap[w.heap.size + 1]? = some (.cells #[.int .i64 ob, .int .i64 db] 31 (0, 0)) by rw [hv1]; exact HB1.out)
      have a0_1 : v1.cell? ⟨w.heap.size, 0, none⟩ = some (.int .i64 oa) := by rw [hv1]; simpa using a0_1
      have a1_1 : v1.cell? ⟨w.heap.size, 1, none⟩ = some (.int .i64 da) := by rw [hv1]; simpa using a1_1
      rw [← hv1]
      clear hv1 c0_1 c1_1 c2_1
      go_wp2_with fail
      refine (K1.out _).mono ?_
      rintro e w2 ⟨rfl, f2⟩
      have HF2 := Lib.hid (HF1.out.noTrans f2)
      have HB2 := Lib.hid (f2.blk HB1.out (fun h => h))
      have a0_2 := f2.keepc a0_1
      have a1_2 := f2.keepc a1_1
      obtain ⟨b0_2, b1_2, g0_2, g1_2⟩ := two_cells HB2.out
      clear f2 a0_1 a1_1 HF1
      go_wp2_with fail
      refine (K2.out _).mono ?_
      rintro e w3 ⟨rfl, f3⟩
      have HF3 := Lib.hid (HF2.out.noTrans f3)
      have HB3 := Lib.hid (f3.blk HB2.out (fun h => h))
      have a0_3 := f3.keepc a0_2
      have a1_3 := f3.keepc a1_2
      obtain ⟨b0_3, b1_3, g0_3, g1_3⟩ := two_cells HB3.out
      clear f3 a0_2 a1_2 HF2 b0_2 b1_2 g0_2 g1_2 HB2
      go_wp2_with fail
      go_ret
      exact ⟨rfl, HF3.out⟩

    rw [ka] at K2
    cases kb : inR db (-D) D
    · rw [kb] at K3
      generalize grF d D = g at *
      clear ka kb
      go_enter Try.func5, Try.ntmps5
      go_wp2_with fail
      rw [← HW.out]
      refine (awake_any _).mono ?_
      rintro e w1 ⟨rfl, f1⟩
      have HF1 := Lib.hid ((HF0.out.noTrans f1).drewN 9)
      clear HF1
      have HF1 := Lib.hid (HF0.out.noTrans f1)
      have HB1 := Lib.hid (f1.blk HB0.out (fun h => h))
      have a0_1 := f1.keepc a0_0
      have a1_1 := f1.keepc a1_0
      have c0_1 := f1.keepc c0_0
      have c1_1 := f1.keepc c1_0
      have c2_1 := f1.keepc c2_0
      clear f1 a0_0 a1_0 c0_0 c1_0 c2_0 HB0 HF0
      go_wp2_with fail
      go_quiet (fail)
      rename_i nq
      obtain ⟨v1, hv1⟩ : ∃ v, v = w1.drewN nq := ⟨_, rfl⟩
      have HF1 := Lib.hid (show Fr no w v1 by rw [hv1]; exact HF1.out.drewN nq)
      have HB1 := Lib.hid (show v1.heap[w.heap.size + 1]? = some (.cells #[.int .i64 ob, .int .i64 db] 31 (0, 0)) by rw [hv1]; exact HB1.out)
      have a0_1 : v1.cell? ⟨w.heap.size, 0, none⟩ = some (.int .i64 oa) := by rw [hv1]; simpa using a0_1
      have a1_1 : v1.cell? ⟨w.heap.size, 1, none⟩ = some (.int .i64 da) := by rw [hv1]; simpa using a1_1
      rw [← hv1]
      clear hv1 c0_1 c1_1 c2_1
      go_wp2_with fail
      refine (K1.out _).mono ?_
      rintro e w2 ⟨rfl, f2⟩
      have HF2 := Lib.hid (HF1.out.noTrans f2)
      have HB2 := Lib.hid (f2.blk HB1.out (fun h => h))
      have a0_2 := f2.keepc a0_1
      have a1_2 := f2.keepc a1_1
      obtain ⟨b0_2, b1_2, g0_2, g1_2⟩ := two_cells HB2.out
      clear f2 a0_1 a1_1 HF1
      go_wp2_with fail
      refine (K2.out _).mono ?_
      rintro e w3 ⟨rfl, f3⟩
      have HF3 := Lib.hid (HF2.out.noTrans f3)
      have HB3 := Lib.hid (f3.blk HB2.out (fun h => h))
      have a0_3 := f3.keepc a0_2
      have a1_3 := f3.keepc a1_2
      obtain ⟨b0_3, b1_3, g0_3, g1_3⟩ := two_cells HB3.out
      clear f3 a0_2 a1_2 HF2 b0_2 b1_2 g0_2 g1_2 HB2
      go_wp2_with fail
      refine (K3.out _).mono ?_
      rintro e w4 ⟨rfl, f4⟩
      have HF4 := Lib.hid (HF3.out.noTrans f4)
      have HB4 := Lib.hid (f4.blk HB3.out (fun h => h))
      have a0_4 := f4.keepc a0_3
      have a1_4 := f4.keepc a1_3
      obtain ⟨b0_4, b1_4, g0_4, g1_4⟩ := two_cells HB4.out
      clear f4 a0_3 a1_3 HF3 b0_3 b1_3 g0_3 g1_3 HB3
      go_wp2_with fail
      go_ret
      exact ⟨rfl, HF4.out⟩

    rw [kb] at K3
    have K4 := Lib.hid (fun w => apart_any oa da ob db t w)
    by_cases hp : apE oa da ob db t = 0
    · obtain ⟨oka, okb⟩ : okC oa da = true ∧ okC ob db = true := by
        unfold apE at hp
        cases x1 : okC oa da <;> cases x2 : okC ob db <;> simp [x1, x2] at hp ⊢
      have ht : isT t = true := isT_t.2 ⟨h2, by simp only [MT]; omega⟩
      obtain ⟨u1, u2⟩ := fl_bd2 (OkC.of oka) h2 (isT_t.1 ht).2
      obtain ⟨u3, u4⟩ := fl_bd2 (OkC.of okb) h2 (isT_t.1 ht).2
      rw [hp, show apV oa da ob db t = sh ob db t - sh oa da t by simp [apV, oka, okb, ht]] at K4
      obtain ⟨a1', a2'⟩ := inR_t.1 ka
      obtain ⟨b1', b2'⟩ := inR_t.1 kb
      have r0 : 0 ≤ t % 3 := Int.emod_nonneg t (by decide)
      have r2 : t % 3 < 3 := Int.emod_lt_of_pos t (by decide)
      have HG := Lib.hid (grow (oa := oa) (ob := ob) (t := t) d0 a1' a2' b1' b2' r0 (by omega))
      have K5 := Lib.hid (fun b w b1 b2 => adjust_any ob db b w b1 b2)
      clear hp ka kb
      obtain ⟨n, hn⟩ : ∃ n, n = sh ob db t - sh oa da t := ⟨_, rfl⟩
      rw [← hn] at K4 HG
      have n1 : -4398754785653 ≤ n := by omega
      have n2 : n ≤ 4398754785653 := by omega
      clear hn u1 u2 u3 u4
      obtain ⟨b, hb⟩ : ∃ b, b = t % 3 - 1 - n := ⟨_, rfl⟩
      rw [← hb] at HG
      have HBB := Lib.hid hb
      have HK5 := Lib.hid (fun w => adjust_any ob db b w (by omega) (by omega))
      have hb1 : -4398754785663 ≤ b := by omega
      have hb2 : b ≤ 4398754785663 := by omega
      clear K5 hb r0 r2
      by_cases hq : adE ob db b = 0
      · have hok : okC (ob + b) db = true ∧ adO ob db b = ob + b ∧ adD ob db b = db := by
          unfold adE at hq
          cases x : adB ob db b
          · rw [x] at hq; cases hq
          · simp [adO, adD, x]
            unfold adB at x
            exact (Bool.and_eq_true_iff.1 x).2
        rw [hq, hok.2.1, hok.2.2] at HK5
        have ht2 : isT (t + d) = true := isT_t.2 ⟨by omega, by simp only [MT]; omega⟩
        have K6 := Lib.hid (fun w => apart_any oa da (ob + b) db (t + d) w)
        obtain ⟨u1, u2⟩ := fl_bd2 (OkC.of oka) (isT_t.1 ht2).1 (isT_t.1 ht2).2
        obtain ⟨u3, u4⟩ := fl_bd2 (OkC.of hok.1) (isT_t.1 ht2).1 (isT_t.1 ht2).2
        rw [show apV oa da (ob + b) db (t + d) = sh (ob + b) db (t + d) - sh oa da (t + d) by simp [apV, oka, hok.1, ht2], show apE oa da (ob + b) db (t + d) = 0 by simp [apE, oka, hok.1, ht2]] at K6
        obtain ⟨m, hm⟩ : ∃ m, m = sh (ob + b) db (t + d) - sh oa da (t + d) := ⟨_, rfl⟩
        rw [← hm] at K6 HG
        have K7 := Lib.hid (fun w => size_any m w (by omega) (by omega))
        obtain ⟨z0, z1⟩ := sz_bd (n := m) (by omega) (by omega)
        have hz : sz m ≤ 1 + grF d D := sz_le.2 HG.out
        obtain ⟨⟨y1, y2⟩, -⟩ := okC_t.1 hok.1
        generalize sz m = z at *
        generalize grF d D = g at *
        clear hq hok ht2 hm u1 u2 u3 u4 HG oka okb ht
        go_enter Try.func5, Try.ntmps5
        go_wp2_with fail
        rw [← HW.out]
        refine (awake_any _).mono ?_
        rintro e w1 ⟨rfl, f1⟩
        have HF1 := Lib.hid ((HF0.out.noTrans f1).drewN 9)
        clear HF1
        have HF1 := Lib.hid (HF0.out.noTrans f1)
        have HB1 := Lib.hid (f1.blk HB0.out (fun h => h))
        have a0_1 := f1.keepc a0_0
        have a1_1 := f1.keepc a1_0
        have c0_1 := f1.keepc c0_0
        have c1_1 := f1.keepc c1_0
        have c2_1 := f1.keepc c2_0
        clear f1 a0_0 a1_0 c0_0 c1_0 c2_0 HB0 HF0
        go_wp2_with fail
        go_quiet (fail)
        rename_i nq
        obtain ⟨v1, hv1⟩ : ∃ v, v = w1.drewN nq := ⟨_, rfl⟩
        have HF1 := Lib.hid (show Fr no w v1 by rw [hv1]; exact HF1.out.drewN nq)
        have HB1 := Lib.hid (show v1.heap[w.heap.size + 1]? = some (.cells #[.int .i64 ob, .int .i64 db] 31 (0, 0)) by rw [hv1]; exact HB1.out)
        have a0_1 : v1.cell? ⟨w.heap.size, 0, none⟩ = some (.int .i64 oa) := by rw [hv1]; simpa using a0_1
        have a1_1 : v1.cell? ⟨w.heap.size, 1, none⟩ = some (.int .i64 da) := by rw [hv1]; simpa using a1_1
        rw [← hv1]
        clear hv1 c0_1 c1_1 c2_1
        go_wp2_with fail
        refine (K1.out _).mono ?_
        rintro e w2 ⟨rfl, f2⟩
        have HF2 := Lib.hid (HF1.out.noTrans f2)
        have HB2 := Lib.hid (f2.blk HB1.out (fun h => h))
        have a0_2 := f2.keepc a0_1
        have a1_2 := f2.keepc a1_1
        obtain ⟨b0_2, b1_2, g0_2, g1_2⟩ := two_cells HB2.out
        clear f2 a0_1 a1_1 HF1
        go_wp2_with fail
        refine (K2.out _).mono ?_
        rintro e w3 ⟨rfl, f3⟩
        have HF3 := Lib.hid (HF2.out.noTrans f3)
        have HB3 := Lib.hid (f3.blk HB2.out (fun h => h))
        have a0_3 := f3.keepc a0_2
        have a1_3 := f3.keepc a1_2
        obtain ⟨b0_3, b1_3, g0_3, g1_3⟩ := two_cells HB3.out
        clear f3 a0_2 a1_2 HF2 b0_2 b1_2 g0_2 g1_2 HB2
        go_wp2_with fail
        refine (K3.out _).mono ?_
        rintro e w4 ⟨rfl, f4⟩
        have HF4 := Lib.hid (HF3.out.noTrans f4)
        have HB4 := Lib.hid (f4.blk HB3.out (fun h => h))
        have a0_4 := f4.keepc a0_3
        have a1_4 := f4.keepc a1_3
        obtain ⟨b0_4, b1_4, g0_4, g1_4⟩ := two_cells HB4.out
        clear f4 a0_3 a1_3 HF3 b0_3 b1_3 g0_3 g1_3 HB3
        go_wp2_with fail
        refine (K4.out _).mono ?_
        rintro e w5 ⟨rfl, f5⟩
        have HF5 := Lib.hid (HF4.out.noTrans f5)
        have HB5 := Lib.hid (f5.blk HB4.out (fun h => h))
        have a0_5 := f5.keepc a0_4
        have a1_5 := f5.keepc a1_4
        obtain ⟨b0_5, b1_5, g0_5, g1_5⟩ := two_cells HB5.out
        clear f5 a0_4 a1_4 HF4 b0_4 b1_4 g0_4 g1_4 HB4
        go_wp2_with fail
        rw [← HBB.out]
        refine (HK5.out _).mono ?_
        rintro e w6 ⟨rfl, f6⟩
        have HF6 := Lib.hid (HF5.out.noTrans f6)
        have HB6 := Lib.hid (f6.blk HB5.out (fun h => h))
        have a0_6 := f6.keepc a0_5
        have a1_6 := f6.keepc a1_5
        obtain ⟨b0_6, b1_6, g0_6, g1_6⟩ := two_cells HB6.out
        clear f6 a0_5 a1_5 HF5 b0_5 b1_5 g0_5 g1_5 HB5
        go_wp2_with fail
        refine (K6.out _).mono ?_
        rintro e w7 ⟨rfl, f7⟩
        have HF7 := Lib.hid (((HF6.out.setCell (p := ⟨w.heap.size + 1, 0, none⟩) (.inr (by simp)) _).setCell (p := ⟨w.heap.size + 1, 1, none⟩) (.inr (by simp)) _).noTrans f7)
        clear f7 HB6 a0_6 a1_6 b0_6 b1_6 g0_6 g1_6
        go_wp2_with fail
        refine (K7.out _).mono ?_
        rintro e w8 ⟨rfl, rfl⟩
        go_wp2_with fail
        go_ret
        exact ⟨by first | rfl | (simp; done) | (simp; omega), HF7.out⟩

      · have HN := Lib.hid hq
        generalize adO ob db b = xo at *
        generalize adD ob db b = xd at *
        generalize adE ob db b = r at *
        have hr2 : (r == 0) = false := by simpa using hq
        generalize grF d D = g at *
        clear hq oka okb ht HG
        go_enter Try.func5, Try.ntmps5
        go_wp2_with fail
        rw [← HW.out]
        refine (awake_any _).mono ?_
        rintro e w1 ⟨rfl, f1⟩
        have HF1 := Lib.hid ((HF0.out.noTrans f1).drewN 9)
        clear HF1
        have HF1 := Lib.hid (HF0.out.noTrans f1)
        have HB1 := Lib.hid (f1.blk HB0.out (fun h => h))
        have a0_1 := f1.keepc a0_0
        have a1_1 := f1.keepc a1_0
        have c0_1 := f1.keepc c0_0
        have c1_1 := f1.keepc c1_0
        have c2_1 := f1.keepc c2_0
        clear f1 a0_0 a1_0 c0_0 c1_0 c2_0 HB0 HF0
        go_wp2_with fail
        go_quiet (fail)
        rename_i nq
        obtain ⟨v1, hv1⟩ : ∃ v, v = w1.drewN nq := ⟨_, rfl⟩
        have HF1 := Lib.hid (show Fr no w v1 by rw [hv1]; exact HF1.out.drewN nq)
        have HB1 := Lib.hid (show v1.heap[w.heap.size + 1]? = some (.cells #[.int .i64 ob, .int .i64 db] 31 (0, 0)) by rw [hv1]; exact HB1.out)
        have a0_1 : v1.cell? ⟨w.heap.size, 0, none⟩ = some (.int .i64 oa) := by rw [hv1]; simpa using a0_1
        have a1_1 : v1.cell? ⟨w.heap.size, 1, none⟩ = some (.int .i64 da) := by rw [hv1]; simpa using a1_1
        rw [← hv1]
        clear hv1 c0_1 c1_1 c2_1
        go_wp2_with fail
        refine (K1.out _).mono ?_
        rintro e w2 ⟨rfl, f2⟩
        have HF2 := Lib.hid (HF1.out.noTrans f2)
        have HB2 := Lib.hid (f2.blk HB1.out (fun h => h))
        have a0_2 := f2.keepc a0_1
        have a1_2 := f2.keepc a1_1
        obtain ⟨b0_2, b1_2, g0_2, g1_2⟩ := two_cells HB2.out
        clear f2 a0_1 a1_1 HF1
        go_wp2_with fail
        refine (K2.out _).mono ?_
        rintro e w3 ⟨rfl, f3⟩
        have HF3 := Lib.hid (HF2.out.noTrans f3)
        have HB3 := Lib.hid (f3.blk HB2.out (fun h => h))
        have a0_3 := f3.keepc a0_2
        have a1_3 := f3.keepc a1_2
        obtain ⟨b0_3, b1_3, g0_3, g1_3⟩ := two_cells HB3.out
        clear f3 a0_2 a1_2 HF2 b0_2 b1_2 g0_2 g1_2 HB2
        go_wp2_with fail
        refine (K3.out _).mono ?_
        rintro e w4 ⟨rfl, f4⟩
        have HF4 := Lib.hid (HF3.out.noTrans f4)
        have HB4 := Lib.hid (f4.blk HB3.out (fun h => h))
        have a0_4 := f4.keepc a0_3
        have a1_4 := f4.keepc a1_3
        obtain ⟨b0_4, b1_4, g0_4, g1_4⟩ := two_cells HB4.out
        clear f4 a0_3 a1_3 HF3 b0_3 b1_3 g0_3 g1_3 HB3
        go_wp2_with fail
        refine (K4.out _).mono ?_
        rintro e w5 ⟨rfl, f5⟩
        have HF5 := Lib.hid (HF4.out.noTrans f5)
        have HB5 := Lib.hid (f5.blk HB4.out (fun h => h))
        have a0_5 := f5.keepc a0_4
        have a1_5 := f5.keepc a1_4
        obtain ⟨b0_5, b1_5, g0_5, g1_5⟩ := two_cells HB5.out
        clear f5 a0_4 a1_4 HF4 b0_4 b1_4 g0_4 g1_4 HB4
        go_wp2_with fail
        rw [← HBB.out]
        refine (HK5.out _).mono ?_
        rintro e w6 ⟨rfl, f6⟩
        have HF6 := Lib.hid (HF5.out.noTrans f6)
        have HB6 := Lib.hid (f6.blk HB5.out (fun h => h))
        obtain ⟨b0_6, b1_6, g0_6, g1_6⟩ := two_cells HB6.out
        clear f6 a0_5 a1_5 HF5 b0_5 b1_5 g0_5 g1_5 HB5
        go_wp2_with fail
        go_ret
        exact ⟨rfl, (HF6.out.setCell (p := ⟨w.heap.size + 1, 0, none⟩) (.inr (by simp)) _).setCell (p := ⟨w.heap.size + 1, 1, none⟩) (.inr (by simp)) _⟩

    · generalize apE oa da ob db t = r at *
      generalize apV oa da ob db t = x at *
      have hr2 : (r == 0) = false := by simpa using hp
      generalize grF d D = g at *
      clear hp ka kb
      go_enter Try.func5, Try.ntmps5
      go_wp2_with fail
      rw [← HW.out]
      refine (awake_any _).mono ?_
      rintro e w1 ⟨rfl, f1⟩
      have HF1 := Lib.hid ((HF0.out.noTrans f1).drewN 9)
      clear HF1
      have HF1 := Lib.hid (HF0.out.noTrans f1)
      have HB1 := Lib.hid (f1.blk HB0.out (fun h => h))
      have a0_1 := f1.keepc a0_0
      have a1_1 := f1.keepc a1_0
      have c0_1 := f1.keepc c0_0
      have c1_1 := f1.keepc c1_0
      have c2_1 := f1.keepc c2_0
      clear f1 a0_0 a1_0 c0_0 c1_0 c2_0 HB0 HF0
      go_wp2_with fail
      go_quiet (fail)
      rename_i nq
      obtain ⟨v1, hv1⟩ : ∃ v, v = w1.drewN nq := ⟨_, rfl⟩
      have HF1 := Lib.hid (show Fr no w v1 by rw [hv1]; exact HF1.out.drewN nq)
      have HB1 := Lib.hid (show v1.heap[w.heap.size + 1]? = some (.cells #[.int .i64 ob, .int .i64 db] 31 (0, 0)) by rw [hv1]; exact HB1.out)
      have a0_1 : v1.cell? ⟨w.heap.size, 0, none⟩ = some (.int .i64 oa) := by rw [hv1]; simpa using a0_1
      have a1_1 : v1.cell? ⟨w.heap.size, 1, none⟩ = some (.int .i64 da) := by rw [hv1]; simpa using a1_1
      rw [← hv1]
      clear hv1 c0_1 c1_1 c2_1
      go_wp2_with fail
      refine (K1.out _).mono ?_
      rintro e w2 ⟨rfl, f2⟩
      have HF2 := Lib.hid (HF1.out.noTrans f2)
      have HB2 := Lib.hid (f2.blk HB1.out (fun h => h))
      have a0_2 := f2.keepc a0_1
      have a1_2 := f2.keepc a1_1
      obtain ⟨b0_2, b1_2, g0_2, g1_2⟩ := two_cells HB2.out
      clear f2 a0_1 a1_1 HF1
      go_wp2_with fail
      refine (K2.out _).mono ?_
      rintro e w3 ⟨rfl, f3⟩
      have HF3 := Lib.hid (HF2.out.noTrans f3)
      have HB3 := Lib.hid (f3.blk HB2.out (fun h => h))
      have a0_3 := f3.keepc a0_2
      have a1_3 := f3.keepc a1_2
      obtain ⟨b0_3, b1_3, g0_3, g1_3⟩ := two_cells HB3.out
      clear f3 a0_2 a1_2 HF2 b0_2 b1_2 g0_2 g1_2 HB2
      go_wp2_with fail
      refine (K3.out _).mono ?_
      rintro e w4 ⟨rfl, f4⟩
      have HF4 := Lib.hid (HF3.out.noTrans f4)
      have HB4 := Lib.hid (f4.blk HB3.out (fun h => h))
      have a0_4 := f4.keepc a0_3
      have a1_4 := f4.keepc a1_3
      obtain ⟨b0_4, b1_4, g0_4, g1_4⟩ := two_cells HB4.out
      clear f4 a0_3 a1_3 HF3 b0_3 b1_3 g0_3 g1_3 HB3
      go_wp2_with fail
      refine (K4.out _).mono ?_
      rintro e w5 ⟨rfl, f5⟩
      have HF5 := Lib.hid (HF4.out.noTrans f5)
      have HB5 := Lib.hid (f5.blk HB4.out (fun h => h))
      have a0_5 := f5.keepc a0_4
      have a1_5 := f5.keepc a1_4
      obtain ⟨b0_5, b1_5, g0_5, g1_5⟩ := two_cells HB5.out
      clear f5 a0_4 a1_4 HF4 b0_4 b1_4 g0_4 g1_4 HB4
      go_wp2_with fail
      go_ret
      exact ⟨rfl, HF5.out⟩

  · generalize grE d D = r at *
    generalize grV d D = g at *
    have hr2 : (r == 0) = false := by simpa using he
    have hr3 : decide (r = 0) = false := by simpa using he
    clear t1 t2
    go_enter Try.func5, Try.ntmps5
    go_wp2_with fail
    rw [← HW.out]
    refine (awake_any _).mono ?_
    rintro e w1 ⟨rfl, f1⟩
    have HF1 := Lib.hid ((HF0.out.noTrans f1).drewN 9)
    clear HF1
    have HF1 := Lib.hid (HF0.out.noTrans f1)
    have HB1 := Lib.hid (f1.blk HB0.out (fun h => h))
    have a0_1 := f1.keepc a0_0
    have a1_1 := f1.keepc a1_0
    have c0_1 := f1.keepc c0_0
    have c1_1 := f1.keepc c1_0
    have c2_1 := f1.keepc c2_0
    clear f1 a0_0 a1_0 c0_0 c1_0 c2_0 HB0 HF0
    go_wp2_with fail
    go_quiet (fail)
    rename_i nq
    obtain ⟨v1, hv1⟩ : ∃ v, v = w1.drewN nq := ⟨_, rfl⟩
    have HF1 := Lib.hid (show Fr no w v1 by rw [hv1]; exact HF1.out.drewN nq)
    have HB1 := Lib.hid (show v1.heap[w.heap.size + 1]? = some (.cells #[.int .i64 ob, .int .i64 db] 31 (0, 0)) by rw [hv1]; exact HB1.out)
    have a0_1 : v1.cell? ⟨w.heap.size, 0, none⟩ = some (.int .i64 oa) := by rw [hv1]; simpa using a0_1
    have a1_1 : v1.cell? ⟨w.heap.size, 1, none⟩ = some (.int .i64 da) := by rw [hv1]; simpa using a1_1
    rw [← hv1]
    clear hv1 c0_1 c1_1 c2_1
    go_wp2_with fail
    refine (K1.out _).mono ?_
    rintro e w2 ⟨rfl, f2⟩
    have HF2 := Lib.hid (HF1.out.noTrans f2)
    have HB2 := Lib.hid (f2.blk HB1.out (fun h => h))
    have a0_2 := f2.keepc a0_1
    have a1_2 := f2.keepc a1_1
    obtain ⟨b0_2, b1_2, g0_2, g1_2⟩ := two_cells HB2.out
    clear f2 a0_1 a1_1 HF1
    go_wp2_with fail
    go_ret
    exact ⟨rfl, HF2.out⟩


end Go.Proofs.Ytgddmmlkpajpmaa
