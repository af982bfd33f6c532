/- Hear, Acked, Synchronized, both; awake. -/
import Derived.Test.YtmkmefcafpgphaaSyc
namespace Go.Proofs.Ytmkmefcafpgphaa
set_option linter.unusedVariables false
open Go.RowKit

def heE (o d s c sl t : Int) : Int := if okS o d s c then (if meE o d sl t = 0 then coE o d s c sl (-meV o d sl t) else meE o d sl t) else 1
def acE (o d s c sl df : Int) : Int := if okS o d s c then (if isS sl then coE o d s c sl df else 2) else 1
def heZ (o d s c sl t : Int) : Bool := okS o d s c && decide (meE o d sl t = 0)
def acZ (o d s c sl : Int) : Bool := okS o d s c && isS sl
def z0 (b : Bool) (x : Int) : Int := if b then x else 0
theorem ckS_0 {o d s c : Int} (h : okS o d s c = true) : ckS o d s c = 0 := by simp [ckS, h]
theorem ckS_1 {o d s c : Int} (h : okS o d s c = false) : ckS o d s c = 1 := by simp [ckS, h]
theorem okS_t {o d s c : Int} (h : okS o d s c = true) : okC o d = true ∧ ((s = -1 ∧ c = 0) ∨ ((0 ≤ s ∧ s ≤ 109951162) ∧ 1 ≤ c ∧ c ≤ 4096)) := by
  simp only [okS, isN, isW, Bool.and_eq_true, Bool.or_eq_true, decide_eq_true_eq, isS_t, inR_t] at h
  exact h
theorem meV_bd (o d s t : Int) : -2300000000000 ≤ meV o d s t ∧ meV o d s t ≤ 2199133206714 := by
  unfold meV
  split
  · rename_i h
    simp only [Bool.and_eq_true] at h
    obtain ⟨h1, h2, h3⟩ := h
    obtain ⟨u0, u1⟩ := fl_bd2 (OkC.of h1) (isT_t.1 h3).1 (isT_t.1 h3).2
    obtain ⟨s0, s1⟩ := isS_t.1 h2
    omega
  · omega

set_option maxHeartbeats 4000000 in
theorem hear_any (o d s c sl t : Int) (w : World) : Calls Try.prog 13 #[.agg #[.int .i64 o, .int .i64 d, .int .i64 s, .int .i64 c], .int .i64 sl, .int .i64 t] w fun e w' => e = .returned (.tuple #[.agg #[.int .i64 (z0 (heZ o d s c sl t) (coO o d s c sl (-meV o d sl t))), .int .i64 (z0 (heZ o d s c sl t) (coD o d s c sl (-meV o d sl t))), .int .i64 (z0 (heZ o d s c sl t) (coS o d s c sl (-meV o d sl t))), .int .i64 (z0 (heZ o d s c sl t) (coC o d s c sl (-meV o d sl t)))], .int .i64 (heE o d s c sl t)]) ∧ Fr no w w' := by
  obtain ⟨W, hW⟩ : ∃ W, W = (w.alloc (.cells #[.int .i64 o, .int .i64 d, .int .i64 s, .int .i64 c] 25 (0, 0))).alloc (.cells #[.int .i64 0, .int .i64 0, .int .i64 0, .int .i64 0] 25 (0, 0)) := ⟨_, rfl⟩
  have hF : Fr no w W := by rw [hW]; exact ((Fr.refl no w).alloc _).alloc _
  have h1 : W.heap[w.heap.size]? = some (.cells #[.int .i64 o, .int .i64 d, .int .i64 s, .int .i64 c] 25 (0, 0)) := by rw [hW]; exact alloc_keeps (heap_alloc_new w _) _
  have h2 : W.heap[w.heap.size + 1]? = some (.cells #[.int .i64 0, .int .i64 0, .int .i64 0, .int .i64 0] 25 (0, 0)) := by rw [hW]; simpa using heap_alloc_new (w.alloc (.cells #[.int .i64 o, .int .i64 d, .int .i64 s, .int .i64 c] 25 (0, 0))) (.cells #[.int .i64 0, .int .i64 0, .int .i64 0, .int .i64 0] 25 (0, 0))
  obtain ⟨c0_0, c1_0, c2_0, c3_0, -⟩ := four_cells h1
  obtain ⟨r0_0, r1_0, r2_0, r3_0, g0_0, g1_0, g2_0, g3_0⟩ := four_cells h2
  have HB0 := Lib.hid h2
  have HW := Lib.hid hW
  have HF0 := Lib.hid hF
  clear hW hF h1 h2
  have HA := Lib.hid (fun w => ckS_any o d s c w)
  have HC := Lib.hid (fun w => measure_any o d sl t w)
  cases k1 : okS o d s c
  · rw [ckS_1 k1] at HA
    have HR := Lib.hid (show z0 (heZ o d s c sl t) (coO o d s c sl (-meV o d sl t)) = 0 ∧ z0 (heZ o d s c sl t) (coD o d s c sl (-meV o d sl t)) = 0 ∧ z0 (heZ o d s c sl t) (coS o d s c sl (-meV o d sl t)) = 0 ∧ z0 (heZ o d s c sl t) (coC o d s c sl (-meV o d sl t)) = 0 ∧ heE o d s c sl t = 1 by simp [z0, heZ, heE, k1])
    clear k1
    go_enter Try.func13, Try.ntmps13
    go_wp2_with fail
    rw [← HW.out]
    refine (HA.out _).mono ?_
    rintro e w1 ⟨rfl, f1⟩
    have HF1 := Lib.hid (HF0.out.noTrans f1)
    have HB1 := Lib.hid (f1.blk HB0.out (fun h => h))
    have c0_1 := f1.keepc c0_0
    have c1_1 := f1.keepc c1_0
    have c2_1 := f1.keepc c2_0
    have c3_1 := f1.keepc c3_0
    obtain ⟨r0_1, r1_1, r2_1, r3_1, g0_1, g1_1, g2_1, g3_1⟩ := four_cells HB1.out
    have hltr1 := World.block_lt_of_cell? _ _ r0_1
    have hltc1 := World.block_lt_of_cell? _ _ c0_1
    clear f1 c0_0 c1_0 c2_0 c3_0 r0_0 r1_0 r2_0 r3_0 g0_0 g1_0 g2_0 g3_0
    go_wp2_with fail
    obtain ⟨y0, y1, y2, y3, -⟩ := four_cells (set_four HB1.out (.int .i64 (0)) (.int .i64 (0)) (.int .i64 (0)) (.int .i64 (0)))
    refine bodyPost_ret (v := .tuple #[.agg #[.int .i64 (0), .int .i64 (0), .int .i64 (0), .int .i64 (0)], .int .i64 (1)]) (by simp [results, Try.results13, go_sem, y0, y1, y2, y3]) rfl ⟨?_, set_four_fr HF1.out (by simp) _ _ _ _⟩
    rw [HR.out.1, HR.out.2.1, HR.out.2.2.1, HR.out.2.2.2.1, HR.out.2.2.2.2]

  · rw [ckS_0 k1] at HA
    obtain ⟨q1, q2⟩ := okS_t k1
    by_cases k2 : meE o d sl t = 0
    · have HR := Lib.hid (show z0 (heZ o d s c sl t) (coO o d s c sl (-meV o d sl t)) = coO o d s c sl (-meV o d sl t) ∧ z0 (heZ o d s c sl t) (coD o d s c sl (-meV o d sl t)) = coD o d s c sl (-meV o d sl t) ∧ z0 (heZ o d s c sl t) (coS o d s c sl (-meV o d sl t)) = coS o d s c sl (-meV o d sl t) ∧ z0 (heZ o d s c sl t) (coC o d s c sl (-meV o d sl t)) = coC o d s c sl (-meV o d sl t) ∧ heE o d s c sl t = coE o d s c sl (-meV o d sl t) by simp [z0, heZ, heE, k1, k2])
      rw [k2] at HC
      have HD := Lib.hid (fun w => correct_any o d s c sl (-meV o d sl t) w (by omega) (by omega))
      obtain ⟨m0, m1⟩ := meV_bd o d sl t
      generalize coO o d s c sl (-meV o d sl t) = xo at *
      generalize coD o d s c sl (-meV o d sl t) = xd at *
      generalize coS o d s c sl (-meV o d sl t) = xs at *
      generalize coC o d s c sl (-meV o d sl t) = xc at *
      generalize coE o d s c sl (-meV o d sl t) = r at *

      generalize meV o d sl t = v at *
      clear k1 k2 q1 q2
      go_enter Try.func13, Try.ntmps13
      go_wp2_with fail
      rw [← HW.out]
      refine (HA.out _).mono ?_
      rintro e w1 ⟨rfl, f1⟩
      have HF1 := Lib.hid (HF0.out.noTrans f1)
      have HB1 := Lib.hid (f1.blk HB0.out (fun h => h))
      have c0_1 := f1.keepc c0_0
      have c1_1 := f1.keepc c1_0
      have c2_1 := f1.keepc c2_0
      have c3_1 := f1.keepc c3_0
      obtain ⟨r0_1, r1_1, r2_1, r3_1, g0_1, g1_1, g2_1, g3_1⟩ := four_cells HB1.out
      have hltr1 := World.block_lt_of_cell? _ _ r0_1
      have hltc1 := World.block_lt_of_cell? _ _ c0_1
      clear f1 c0_0 c1_0 c2_0 c3_0 r0_0 r1_0 r2_0 r3_0 g0_0 g1_0 g2_0 g3_0
      go_wp2_with fail
      refine (HC.out _).mono ?_
      rintro e w2 ⟨rfl, f2⟩
      have HF2 := Lib.hid (HF1.out.noTrans f2)
      have HB2 := Lib.hid (f2.blk HB1.out (fun h => h))
      have c0_2 := f2.keepc c0_1
      have c1_2 := f2.keepc c1_1
      have c2_2 := f2.keepc c2_1
      have c3_2 := f2.keepc c3_1
      obtain ⟨r0_2, r1_2, r2_2, r3_2, g0_2, g1_2, g2_2, g3_2⟩ := four_cells HB2.out
      have hltr2 := World.block_lt_of_cell? _ _ r0_2
      have hltc2 := World.block_lt_of_cell? _ _ c0_2
      clear f2 c0_1 c1_1 c2_1 c3_1 r0_1 r1_1 r2_1 r3_1 g0_1 g1_1 g2_1 g3_1
      go_wp2_with fail
      refine (HD.out _).mono ?_
      rintro e w3 ⟨rfl, f3⟩
      have HF3 := Lib.hid (HF2.out.noTrans f3)
      have HB3 := Lib.hid (f3.blk HB2.out (fun h => h))
      have c0_3 := f3.keepc c0_2
      have c1_3 := f3.keepc c1_2
      have c2_3 := f3.keepc c2_2
      have c3_3 := f3.keepc c3_2
      obtain ⟨r0_3, r1_3, r2_3, r3_3, g0_3, g1_3, g2_3, g3_3⟩ := four_cells HB3.out
      have hltr3 := World.block_lt_of_cell? _ _ r0_3
      have hltc3 := World.block_lt_of_cell? _ _ c0_3
      clear f3 c0_2 c1_2 c2_2 c3_2 r0_2 r1_2 r2_2 r3_2 g0_2 g1_2 g2_2 g3_2
      go_wp2_with fail
      obtain ⟨y0, y1, y2, y3, -⟩ := four_cells (set_four HB3.out (.int .i64 (xo)) (.int .i64 (xd)) (.int .i64 (xs)) (.int .i64 (xc)))
      refine bodyPost_ret (v := .tuple #[.agg #[.int .i64 (xo), .int .i64 (xd), .int .i64 (xs), .int .i64 (xc)], .int .i64 (r)]) (by simp [results, Try.results13, go_sem, y0, y1, y2, y3]) rfl ⟨?_, set_four_fr HF3.out (by simp) _ _ _ _⟩
      rw [HR.out.1, HR.out.2.1, HR.out.2.2.1, HR.out.2.2.2.1, HR.out.2.2.2.2]

    · have HR := Lib.hid (show z0 (heZ o d s c sl t) (coO o d s c sl (-meV o d sl t)) = 0 ∧ z0 (heZ o d s c sl t) (coD o d s c sl (-meV o d sl t)) = 0 ∧ z0 (heZ o d s c sl t) (coS o d s c sl (-meV o d sl t)) = 0 ∧ z0 (heZ o d s c sl t) (coC o d s c sl (-meV o d sl t)) = 0 ∧ heE o d s c sl t = meE o d sl t by simp [z0, heZ, heE, k1, k2])
      generalize meV o d sl t = v at *
      generalize meE o d sl t = r at *
      have hr2 : (r == 0) = false := by simpa using k2
      clear k1 k2 q1 q2
      go_enter Try.func13, Try.ntmps13
      go_wp2_with fail
      rw [← HW.out]
      refine (HA.out _).mono ?_
      rintro e w1 ⟨rfl, f1⟩
      have HF1 := Lib.hid (HF0.out.noTrans f1)
      have HB1 := Lib.hid (f1.blk HB0.out (fun h => h))
      have c0_1 := f1.keepc c0_0
      have c1_1 := f1.keepc c1_0
      have c2_1 := f1.keepc c2_0
      have c3_1 := f1.keepc c3_0
      obtain ⟨r0_1, r1_1, r2_1, r3_1, g0_1, g1_1, g2_1, g3_1⟩ := four_cells HB1.out
      have hltr1 := World.block_lt_of_cell? _ _ r0_1
      have hltc1 := World.block_lt_of_cell? _ _ c0_1
      clear f1 c0_0 c1_0 c2_0 c3_0 r0_0 r1_0 r2_0 r3_0 g0_0 g1_0 g2_0 g3_0
      go_wp2_with fail
      refine (HC.out _).mono ?_
      rintro e w2 ⟨rfl, f2⟩
      have HF2 := Lib.hid (HF1.out.noTrans f2)
      have HB2 := Lib.hid (f2.blk HB1.out (fun h => h))
      have c0_2 := f2.keepc c0_1
      have c1_2 := f2.keepc c1_1
      have c2_2 := f2.keepc c2_1
      have c3_2 := f2.keepc c3_1
      obtain ⟨r0_2, r1_2, r2_2, r3_2, g0_2, g1_2, g2_2, g3_2⟩ := four_cells HB2.out
      have hltr2 := World.block_lt_of_cell? _ _ r0_2
      have hltc2 := World.block_lt_of_cell? _ _ c0_2
      clear f2 c0_1 c1_1 c2_1 c3_1 r0_1 r1_1 r2_1 r3_1 g0_1 g1_1 g2_1 g3_1
      go_wp2_with fail
      obtain ⟨y0, y1, y2, y3, -⟩ := four_cells (set_four HB2.out (.int .i64 (0)) (.int .i64 (0)) (.int .i64 (0)) (.int .i64 (0)))
      refine bodyPost_ret (v := .tuple #[.agg #[.int .i64 (0), .int .i64 (0), .int .i64 (0), .int .i64 (0)], .int .i64 (r)]) (by simp [results, Try.results13, go_sem, y0, y1, y2, y3]) rfl ⟨?_, set_four_fr HF2.out (by simp) _ _ _ _⟩
      rw [HR.out.1, HR.out.2.1, HR.out.2.2.1, HR.out.2.2.2.1, HR.out.2.2.2.2]


set_option maxHeartbeats 4000000 in
theorem hearR_any (o d s c sl t : Int) (w : World) : Calls Try.prog 14 #[.agg #[.int .i64 o, .int .i64 d, .int .i64 s, .int .i64 c], .int .i64 sl, .int .i64 t] w fun e w' => e = .returned (.tuple #[.agg #[.int .i64 (z0 (heZ o d s c sl t) (coO o d s c sl (-meV o d sl t))), .int .i64 (z0 (heZ o d s c sl t) (coD o d s c sl (-meV o d sl t))), .int .i64 (z0 (heZ o d s c sl t) (coS o d s c sl (-meV o d sl t))), .int .i64 (z0 (heZ o d s c sl t) (coC o d s c sl (-meV o d sl t)))], .int .i64 (heE o d s c sl t)]) ∧ Fr no w w' := by
  obtain ⟨W, hW⟩ : ∃ W, W = (w.alloc (.cells #[.int .i64 o, .int .i64 d, .int .i64 s, .int .i64 c] 25 (0, 0))).alloc (.cells #[.int .i64 0, .int .i64 0, .int .i64 0, .int .i64 0] 25 (0, 0)) := ⟨_, rfl⟩
  have hF : Fr no w W := by rw [hW]; exact ((Fr.refl no w).alloc _).alloc _
  have h1 : W.heap[w.heap.size]? = some (.cells #[.int .i64 o, .int .i64 d, .int .i64 s, .int .i64 c] 25 (0, 0)) := by rw [hW]; exact alloc_keeps (heap_alloc_new w _) _
  have h2 : W.heap[w.heap.size + 1]? = some (.cells #[.int .i64 0, .int .i64 0, .int .i64 0, .int .i64 0] 25 (0, 0)) := by rw [hW]; simpa using heap_alloc_new (w.alloc (.cells #[.int .i64 o, .int .i64 d, .int .i64 s, .int .i64 c] 25 (0, 0))) (.cells #[.int .i64 0, .int .i64 0, .int .i64 0, .int .i64 0] 25 (0, 0))
  obtain ⟨c0_0, c1_0, c2_0, c3_0, -⟩ := four_cells h1
  obtain ⟨r0_0, r1_0, r2_0, r3_0, g0_0, g1_0, g2_0, g3_0⟩ := four_cells h2
  have HB0 := Lib.hid h2
  have HW := Lib.hid hW
  have HF0 := Lib.hid hF
  clear hW hF h1 h2
  have HA := Lib.hid (fun w => ckSR_any o d s c w)
  have HC := Lib.hid (fun w => measureR_any o d sl t w)
  cases k1 : okS o d s c
  · rw [ckS_1 k1] at HA
    have HR := Lib.hid (show z0 (heZ o d s c sl t) (coO o d s c sl (-meV o d sl t)) = 0 ∧ z0 (heZ o d s c sl t) (coD o d s c sl (-meV o d sl t)) = 0 ∧ z0 (heZ o d s c sl t) (coS o d s c sl (-meV o d sl t)) = 0 ∧ z0 (heZ o d s c sl t) (coC o d s c sl (-meV o d sl t)) = 0 ∧ heE o d s c sl t = 1 by simp [z0, heZ, heE, k1])
    clear k1
    go_enter Try.func14, Try.ntmps14
    go_wp2_with fail
    rw [← HW.out]
    refine (HA.out _).mono ?_
    rintro e w1 ⟨rfl, f1⟩
    have HF1 := Lib.hid (HF0.out.noTrans f1)
    have HB1 := Lib.hid (f1.blk HB0.out (fun h => h))
    have c0_1 := f1.keepc c0_0
    have c1_1 := f1.keepc c1_0
    have c2_1 := f1.keepc c2_0
    have c3_1 := f1.keepc c3_0
    obtain ⟨r0_1, r1_1, r2_1, r3_1, g0_1, g1_1, g2_1, g3_1⟩ := four_cells HB1.out
    have hltr1 := World.block_lt_of_cell? _ _ r0_1
    have hltc1 := World.block_lt_of_cell? _ _ c0_1
    clear f1 c0_0 c1_0 c2_0 c3_0 r0_0 r1_0 r2_0 r3_0 g0_0 g1_0 g2_0 g3_0
    go_wp2_with fail
    obtain ⟨y0, y1, y2, y3, -⟩ := four_cells (set_four HB1.out (.int .i64 (0)) (.int .i64 (0)) (.int .i64 (0)) (.int .i64 (0)))
    refine bodyPost_ret (v := .tuple #[.agg #[.int .i64 (0), .int .i64 (0), .int .i64 (0), .int .i64 (0)], .int .i64 (1)]) (by simp [results, Try.results14, go_sem, y0, y1, y2, y3]) rfl ⟨?_, set_four_fr HF1.out (by simp) _ _ _ _⟩
    rw [HR.out.1, HR.out.2.1, HR.out.2.2.1, HR.out.2.2.2.1, HR.out.2.2.2.2]

  · rw [ckS_0 k1] at HA
    obtain ⟨q1, q2⟩ := okS_t k1
    by_cases k2 : meE o d sl t = 0
    · have HR := Lib.hid (show z0 (heZ o d s c sl t) (coO o d s c sl (-meV o d sl t)) = coO o d s c sl (-meV o d sl t) ∧ z0 (heZ o d s c sl t) (coD o d s c sl (-meV o d sl t)) = coD o d s c sl (-meV o d sl t) ∧ z0 (heZ o d s c sl t) (coS o d s c sl (-meV o d sl t)) = coS o d s c sl (-meV o d sl t) ∧ z0 (heZ o d s c sl t) (coC o d s c sl (-meV o d sl t)) = coC o d s c sl (-meV o d sl t) ∧ heE o d s c sl t = coE o d s c sl (-meV o d sl t) by simp [z0, heZ, heE, k1, k2])
      rw [k2] at HC
      have HD := Lib.hid (fun w => correctR_any o d s c sl (-meV o d sl t) w (by omega) (by omega))
      obtain ⟨m0, m1⟩ := meV_bd o d sl t
      generalize coO o d s c sl (-meV o d sl t) = xo at *
      generalize coD o d s c sl (-meV o d sl t) = xd at *
      generalize coS o d s c sl (-meV o d sl t) = xs at *
      generalize coC o d s c sl (-meV o d sl t) = xc at *
      generalize coE o d s c sl (-meV o d sl t) = r at *

      generalize meV o d sl t = v at *
      clear k1 k2 q1 q2
      go_enter Try.func14, Try.ntmps14
      go_wp2_with fail
      rw [← HW.out]
      refine (HA.out _).mono ?_
      rintro e w1 ⟨rfl, f1⟩
      have HF1 := Lib.hid (HF0.out.noTrans f1)
      have HB1 := Lib.hid (f1.blk HB0.out (fun h => h))
      have c0_1 := f1.keepc c0_0
      have c1_1 := f1.keepc c1_0
      have c2_1 := f1.keepc c2_0
      have c3_1 := f1.keepc c3_0
      obtain ⟨r0_1, r1_1, r2_1, r3_1, g0_1, g1_1, g2_1, g3_1⟩ := four_cells HB1.out
      have hltr1 := World.block_lt_of_cell? _ _ r0_1
      have hltc1 := World.block_lt_of_cell? _ _ c0_1
      clear f1 c0_0 c1_0 c2_0 c3_0 r0_0 r1_0 r2_0 r3_0 g0_0 g1_0 g2_0 g3_0
      go_wp2_with fail
      refine (HC.out _).mono ?_
      rintro e w2 ⟨rfl, f2⟩
      have HF2 := Lib.hid (HF1.out.noTrans f2)
      have HB2 := Lib.hid (f2.blk HB1.out (fun h => h))
      have c0_2 := f2.keepc c0_1
      have c1_2 := f2.keepc c1_1
      have c2_2 := f2.keepc c2_1
      have c3_2 := f2.keepc c3_1
      obtain ⟨r0_2, r1_2, r2_2, r3_2, g0_2, g1_2, g2_2, g3_2⟩ := four_cells HB2.out
      have hltr2 := World.block_lt_of_cell? _ _ r0_2
      have hltc2 := World.block_lt_of_cell? _ _ c0_2
      clear f2 c0_1 c1_1 c2_1 c3_1 r0_1 r1_1 r2_1 r3_1 g0_1 g1_1 g2_1 g3_1
      go_wp2_with fail
      refine (HD.out _).mono ?_
      rintro e w3 ⟨rfl, f3⟩
      have HF3 := Lib.hid (HF2.out.noTrans f3)
      have HB3 := Lib.hid (f3.blk HB2.out (fun h => h))
      have c0_3 := f3.keepc c0_2
      have c1_3 := f3.keepc c1_2
      have c2_3 := f3.keepc c2_2
      have c3_3 := f3.keepc c3_2
      obtain ⟨r0_3, r1_3, r2_3, r3_3, g0_3, g1_3, g2_3, g3_3⟩ := four_cells HB3.out
      have hltr3 := World.block_lt_of_cell? _ _ r0_3
      have hltc3 := World.block_lt_of_cell? _ _ c0_3
      clear f3 c0_2 c1_2 c2_2 c3_2 r0_2 r1_2 r2_2 r3_2 g0_2 g1_2 g2_2 g3_2
      go_wp2_with fail
      obtain ⟨y0, y1, y2, y3, -⟩ := four_cells (set_four HB3.out (.int .i64 (xo)) (.int .i64 (xd)) (.int .i64 (xs)) (.int .i64 (xc)))
      refine bodyPost_ret (v := .tuple #[.agg #[.int .i64 (xo), .int .i64 (xd), .int .i64 (xs), .int .i64 (xc)], .int .i64 (r)]) (by simp [results, Try.results14, go_sem, y0, y1, y2, y3]) rfl ⟨?_, set_four_fr HF3.out (by simp) _ _ _ _⟩
      rw [HR.out.1, HR.out.2.1, HR.out.2.2.1, HR.out.2.2.2.1, HR.out.2.2.2.2]

    · have HR := Lib.hid (show z0 (heZ o d s c sl t) (coO o d s c sl (-meV o d sl t)) = 0 ∧ z0 (heZ o d s c sl t) (coD o d s c sl (-meV o d sl t)) = 0 ∧ z0 (heZ o d s c sl t) (coS o d s c sl (-meV o d sl t)) = 0 ∧ z0 (heZ o d s c sl t) (coC o d s c sl (-meV o d sl t)) = 0 ∧ heE o d s c sl t = meE o d sl t by simp [z0, heZ, heE, k1, k2])
      generalize meV o d sl t = v at *
      generalize meE o d sl t = r at *
      have hr2 : (r == 0) = false := by simpa using k2
      clear k1 k2 q1 q2
      go_enter Try.func14, Try.ntmps14
      go_wp2_with fail
      rw [← HW.out]
      refine (HA.out _).mono ?_
      rintro e w1 ⟨rfl, f1⟩
      have HF1 := Lib.hid (HF0.out.noTrans f1)
      have HB1 := Lib.hid (f1.blk HB0.out (fun h => h))
      have c0_1 := f1.keepc c0_0
      have c1_1 := f1.keepc c1_0
      have c2_1 := f1.keepc c2_0
      have c3_1 := f1.keepc c3_0
      obtain ⟨r0_1, r1_1, r2_1, r3_1, g0_1, g1_1, g2_1, g3_1⟩ := four_cells HB1.out
      have hltr1 := World.block_lt_of_cell? _ _ r0_1
      have hltc1 := World.block_lt_of_cell? _ _ c0_1
      clear f1 c0_0 c1_0 c2_0 c3_0 r0_0 r1_0 r2_0 r3_0 g0_0 g1_0 g2_0 g3_0
      go_wp2_with fail
      refine (HC.out _).mono ?_
      rintro e w2 ⟨rfl, f2⟩
      have HF2 := Lib.hid (HF1.out.noTrans f2)
      have HB2 := Lib.hid (f2.blk HB1.out (fun h => h))
      have c0_2 := f2.keepc c0_1
      have c1_2 := f2.keepc c1_1
      have c2_2 := f2.keepc c2_1
      have c3_2 := f2.keepc c3_1
      obtain ⟨r0_2, r1_2, r2_2, r3_2, g0_2, g1_2, g2_2, g3_2⟩ := four_cells HB2.out
      have hltr2 := World.block_lt_of_cell? _ _ r0_2
      have hltc2 := World.block_lt_of_cell? _ _ c0_2
      clear f2 c0_1 c1_1 c2_1 c3_1 r0_1 r1_1 r2_1 r3_1 g0_1 g1_1 g2_1 g3_1
      go_wp2_with fail
      obtain ⟨y0, y1, y2, y3, -⟩ := four_cells (set_four HB2.out (.int .i64 (0)) (.int .i64 (0)) (.int .i64 (0)) (.int .i64 (0)))
      refine bodyPost_ret (v := .tuple #[.agg #[.int .i64 (0), .int .i64 (0), .int .i64 (0), .int .i64 (0)], .int .i64 (r)]) (by simp [results, Try.results14, go_sem, y0, y1, y2, y3]) rfl ⟨?_, set_four_fr HF2.out (by simp) _ _ _ _⟩
      rw [HR.out.1, HR.out.2.1, HR.out.2.2.1, HR.out.2.2.2.1, HR.out.2.2.2.2]


set_option maxHeartbeats 4000000 in
theorem acked_any (o d s c sl df : Int) (w : World) : Calls Try.prog 15 #[.agg #[.int .i64 o, .int .i64 d, .int .i64 s, .int .i64 c], .int .i64 sl, .int .i64 df] w fun e w' => e = .returned (.tuple #[.agg #[.int .i64 (z0 (acZ o d s c sl) (coO o d s c sl df)), .int .i64 (z0 (acZ o d s c sl) (coD o d s c sl df)), .int .i64 (z0 (acZ o d s c sl) (coS o d s c sl df)), .int .i64 (z0 (acZ o d s c sl) (coC o d s c sl df))], .int .i64 (acE o d s c sl df)]) ∧ Fr no w w' := by
  obtain ⟨W, hW⟩ : ∃ W, W = (w.alloc (.cells #[.int .i64 o, .int .i64 d, .int .i64 s, .int .i64 c] 25 (0, 0))).alloc (.cells #[.int .i64 0, .int .i64 0, .int .i64 0, .int .i64 0] 25 (0, 0)) := ⟨_, rfl⟩
  have hF : Fr no w W := by rw [hW]; exact ((Fr.refl no w).alloc _).alloc _
  have h1 : W.heap[w.heap.size]? = some (.cells #[.int .i64 o, .int .i64 d, .int .i64 s, .int .i64 c] 25 (0, 0)) := by rw [hW]; exact alloc_keeps (heap_alloc_new w _) _
  have h2 : W.heap[w.heap.size + 1]? = some (.cells #[.int .i64 0, .int .i64 0, .int .i64 0, .int .i64 0] 25 (0, 0)) := by rw [hW]; simpa using heap_alloc_new (w.alloc (.cells #[.int .i64 o, .int .i64 d, .int .i64 s, .int .i64 c] 25 (0, 0))) (.cells #[.int .i64 0, .int .i64 0, .int .i64 0, .int .i64 0] 25 (0, 0))
  obtain ⟨c0_0, c1_0, c2_0, c3_0, -⟩ := four_cells h1
  obtain ⟨r0_0, r1_0, r2_0, r3_0, g0_0, g1_0, g2_0, g3_0⟩ := four_cells h2
  have HB0 := Lib.hid h2
  have HW := Lib.hid hW
  have HF0 := Lib.hid hF
  clear hW hF h1 h2
  have HA := Lib.hid (fun w => ckS_any o d s c w)
  have HC := Lib.hid (fun w => isS_any sl w)
  cases k1 : okS o d s c
  · rw [ckS_1 k1] at HA
    have HR := Lib.hid (show z0 (acZ o d s c sl) (coO o d s c sl df) = 0 ∧ z0 (acZ o d s c sl) (coD o d s c sl df) = 0 ∧ z0 (acZ o d s c sl) (coS o d s c sl df) = 0 ∧ z0 (acZ o d s c sl) (coC o d s c sl df) = 0 ∧ acE o d s c sl df = 1 by simp [z0, acZ, acE, k1])
    clear k1
    go_enter Try.func15, Try.ntmps15
    go_wp2_with fail
    rw [← HW.out]
    refine (HA.out _).mono ?_
    rintro e w1 ⟨rfl, f1⟩
    have HF1 := Lib.hid (HF0.out.noTrans f1)
    have HB1 := Lib.hid (f1.blk HB0.out (fun h => h))
    have c0_1 := f1.keepc c0_0
    have c1_1 := f1.keepc c1_0
    have c2_1 := f1.keepc c2_0
    have c3_1 := f1.keepc c3_0
    obtain ⟨r0_1, r1_1, r2_1, r3_1, g0_1, g1_1, g2_1, g3_1⟩ := four_cells HB1.out
    have hltr1 := World.block_lt_of_cell? _ _ r0_1
    have hltc1 := World.block_lt_of_cell? _ _ c0_1
    clear f1 c0_0 c1_0 c2_0 c3_0 r0_0 r1_0 r2_0 r3_0 g0_0 g1_0 g2_0 g3_0
    go_wp2_with fail
    obtain ⟨y0, y1, y2, y3, -⟩ := four_cells (set_four HB1.out (.int .i64 (0)) (.int .i64 (0)) (.int .i64 (0)) (.int .i64 (0)))
    refine bodyPost_ret (v := .tuple #[.agg #[.int .i64 (0), .int .i64 (0), .int .i64 (0), .int .i64 (0)], .int .i64 (1)]) (by simp [results, Try.results15, go_sem, y0, y1, y2, y3]) rfl ⟨?_, set_four_fr HF1.out (by simp) _ _ _ _⟩
    rw [HR.out.1, HR.out.2.1, HR.out.2.2.1, HR.out.2.2.2.1, HR.out.2.2.2.2]

  · rw [ckS_0 k1] at HA
    obtain ⟨q1, q2⟩ := okS_t k1
    cases k2 : isS sl
    · rw [k2] at HC
      have HR := Lib.hid (show z0 (acZ o d s c sl) (coO o d s c sl df) = 0 ∧ z0 (acZ o d s c sl) (coD o d s c sl df) = 0 ∧ z0 (acZ o d s c sl) (coS o d s c sl df) = 0 ∧ z0 (acZ o d s c sl) (coC o d s c sl df) = 0 ∧ acE o d s c sl df = 2 by simp [z0, acZ, acE, k1, k2])
      clear k1 k2 q1 q2
      go_enter Try.func15, Try.ntmps15
      go_wp2_with fail
      rw [← HW.out]
      refine (HA.out _).mono ?_
      rintro e w1 ⟨rfl, f1⟩
      have HF1 := Lib.hid (HF0.out.noTrans f1)
      have HB1 := Lib.hid (f1.blk HB0.out (fun h => h))
      have c0_1 := f1.keepc c0_0
      have c1_1 := f1.keepc c1_0
      have c2_1 := f1.keepc c2_0
      have c3_1 := f1.keepc c3_0
      obtain ⟨r0_1, r1_1, r2_1, r3_1, g0_1, g1_1, g2_1, g3_1⟩ := four_cells HB1.out
      have hltr1 := World.block_lt_of_cell? _ _ r0_1
      have hltc1 := World.block_lt_of_cell? _ _ c0_1
      clear f1 c0_0 c1_0 c2_0 c3_0 r0_0 r1_0 r2_0 r3_0 g0_0 g1_0 g2_0 g3_0
      go_wp2_with fail
      refine (HC.out _).mono ?_
      rintro e w_2 ⟨rfl, rfl⟩
      go_wp2_with fail
      obtain ⟨y0, y1, y2, y3, -⟩ := four_cells (set_four HB1.out (.int .i64 (0)) (.int .i64 (0)) (.int .i64 (0)) (.int .i64 (0)))
      refine bodyPost_ret (v := .tuple #[.agg #[.int .i64 (0), .int .i64 (0), .int .i64 (0), .int .i64 (0)], .int .i64 (2)]) (by simp [results, Try.results15, go_sem, y0, y1, y2, y3]) rfl ⟨?_, set_four_fr HF1.out (by simp) _ _ _ _⟩
      rw [HR.out.1, HR.out.2.1, HR.out.2.2.1, HR.out.2.2.2.1, HR.out.2.2.2.2]

    · rw [k2] at HC
      have HR := Lib.hid (show z0 (acZ o d s c sl) (coO o d s c sl df) = coO o d s c sl df ∧ z0 (acZ o d s c sl) (coD o d s c sl df) = coD o d s c sl df ∧ z0 (acZ o d s c sl) (coS o d s c sl df) = coS o d s c sl df ∧ z0 (acZ o d s c sl) (coC o d s c sl df) = coC o d s c sl df ∧ acE o d s c sl df = coE o d s c sl df by simp [z0, acZ, acE, k1, k2])
      have HD := Lib.hid (fun w => correct_any o d s c sl df w (by omega) (by omega))
      generalize coO o d s c sl df = xo at *
      generalize coD o d s c sl df = xd at *
      generalize coS o d s c sl df = xs at *
      generalize coC o d s c sl df = xc at *
      generalize coE o d s c sl df = r at *

      clear k1 k2 q1 q2
      go_enter Try.func15, Try.ntmps15
      go_wp2_with fail
      rw [← HW.out]
      refine (HA.out _).mono ?_
      rintro e w1 ⟨rfl, f1⟩
      have HF1 := Lib.hid (HF0.out.noTrans f1)
      have HB1 := Lib.hid (f1.blk HB0.out (fun h => h))
      have c0_1 := f1.keepc c0_0
      have c1_1 := f1.keepc c1_0
      have c2_1 := f1.keepc c2_0
      have c3_1 := f1.keepc c3_0
      obtain ⟨r0_1, r1_1, r2_1, r3_1, g0_1, g1_1, g2_1, g3_1⟩ := four_cells HB1.out
      have hltr1 := World.block_lt_of_cell? _ _ r0_1
      have hltc1 := World.block_lt_of_cell? _ _ c0_1
      clear f1 c0_0 c1_0 c2_0 c3_0 r0_0 r1_0 r2_0 r3_0 g0_0 g1_0 g2_0 g3_0
      go_wp2_with fail
      refine (HC.out _).mono ?_
      rintro e w_2 ⟨rfl, rfl⟩
      go_wp2_with fail
      refine (HD.out _).mono ?_
      rintro e w3 ⟨rfl, f3⟩
      have HF3 := Lib.hid (HF1.out.noTrans f3)
      have HB3 := Lib.hid (f3.blk HB1.out (fun h => h))
      have c0_3 := f3.keepc c0_1
      have c1_3 := f3.keepc c1_1
      have c2_3 := f3.keepc c2_1
      have c3_3 := f3.keepc c3_1
      obtain ⟨r0_3, r1_3, r2_3, r3_3, g0_3, g1_3, g2_3, g3_3⟩ := four_cells HB3.out
      have hltr3 := World.block_lt_of_cell? _ _ r0_3
      have hltc3 := World.block_lt_of_cell? _ _ c0_3
      clear f3 c0_1 c1_1 c2_1 c3_1 r0_1 r1_1 r2_1 r3_1 g0_1 g1_1 g2_1 g3_1
      go_wp2_with fail
      obtain ⟨y0, y1, y2, y3, -⟩ := four_cells (set_four HB3.out (.int .i64 (xo)) (.int .i64 (xd)) (.int .i64 (xs)) (.int .i64 (xc)))
      refine bodyPost_ret (v := .tuple #[.agg #[.int .i64 (xo), .int .i64 (xd), .int .i64 (xs), .int .i64 (xc)], .int .i64 (r)]) (by simp [results, Try.results15, go_sem, y0, y1, y2, y3]) rfl ⟨?_, set_four_fr HF3.out (by simp) _ _ _ _⟩
      rw [HR.out.1, HR.out.2.1, HR.out.2.2.1, HR.out.2.2.2.1, HR.out.2.2.2.2]


set_option maxHeartbeats 4000000 in
theorem ackedR_any (o d s c sl df : Int) (w : World) : Calls Try.prog 16 #[.agg #[.int .i64 o, .int .i64 d, .int .i64 s, .int .i64 c], .int .i64 sl, .int .i64 df] w fun e w' => e = .returned (.tuple #[.agg #[.int .i64 (z0 (acZ o d s c sl) (coO o d s c sl df)), .int .i64 (z0 (acZ o d s c sl) (coD o d s c sl df)), .int .i64 (z0 (acZ o d s c sl) (coS o d s c sl df)), .int .i64 (z0 (acZ o d s c sl) (coC o d s c sl df))], .int .i64 (acE o d s c sl df)]) ∧ Fr no w w' := by
  obtain ⟨W, hW⟩ : ∃ W, W = (w.alloc (.cells #[.int .i64 o, .int .i64 d, .int .i64 s, .int .i64 c] 25 (0, 0))).alloc (.cells #[.int .i64 0, .int .i64 0, .int .i64 0, .int .i64 0] 25 (0, 0)) := ⟨_, rfl⟩
  have hF : Fr no w W := by rw [hW]; exact ((Fr.refl no w).alloc _).alloc _
  have h1 : W.heap[w.heap.size]? = some (.cells #[.int .i64 o, .int .i64 d, .int .i64 s, .int .i64 c] 25 (0, 0)) := by rw [hW]; exact alloc_keeps (heap_alloc_new w _) _
  have h2 : W.heap[w.heap.size + 1]? = some (.cells #[.int .i64 0, .int .i64 0, .int .i64 0, .int .i64 0] 25 (0, 0)) := by rw [hW]; simpa using heap_alloc_new (w.alloc (.cells #[.int .i64 o, .int .i64 d, .int .i64 s, .int .i64 c] 25 (0, 0))) (.cells #[.int .i64 0, .int .i64 0, .int .i64 0, .int .i64 0] 25 (0, 0))
  obtain ⟨c0_0, c1_0, c2_0, c3_0, -⟩ := four_cells h1
  obtain ⟨r0_0, r1_0, r2_0, r3_0, g0_0, g1_0, g2_0, g3_0⟩ := four_cells h2
  have HB0 := Lib.hid h2
  have HW := Lib.hid hW
  have HF0 := Lib.hid hF
  clear hW hF h1 h2
  have HA := Lib.hid (fun w => ckSR_any o d s c w)
  have HC := Lib.hid (fun w => isSR_any sl w)
  cases k1 : okS o d s c
  · rw [ckS_1 k1] at HA
    have HR := Lib.hid (show z0 (acZ o d s c sl) (coO o d s c sl df) = 0 ∧ z0 (acZ o d s c sl) (coD o d s c sl df) = 0 ∧ z0 (acZ o d s c sl) (coS o d s c sl df) = 0 ∧ z0 (acZ o d s c sl) (coC o d s c sl df) = 0 ∧ acE o d s c sl df = 1 by simp [z0, acZ, acE, k1])
    clear k1
    go_enter Try.func16, Try.ntmps16
    go_wp2_with fail
    rw [← HW.out]
    refine (HA.out _).mono ?_
    rintro e w1 ⟨rfl, f1⟩
    have HF1 := Lib.hid (HF0.out.noTrans f1)
    have HB1 := Lib.hid (f1.blk HB0.out (fun h => h))
    have c0_1 := f1.keepc c0_0
    have c1_1 := f1.keepc c1_0
    have c2_1 := f1.keepc c2_0
    have c3_1 := f1.keepc c3_0
    obtain ⟨r0_1, r1_1, r2_1, r3_1, g0_1, g1_1, g2_1, g3_1⟩ := four_cells HB1.out
    have hltr1 := World.block_lt_of_cell? _ _ r0_1
    have hltc1 := World.block_lt_of_cell? _ _ c0_1
    clear f1 c0_0 c1_0 c2_0 c3_0 r0_0 r1_0 r2_0 r3_0 g0_0 g1_0 g2_0 g3_0
    go_wp2_with fail
    obtain ⟨y0, y1, y2, y3, -⟩ := four_cells (set_four HB1.out (.int .i64 (0)) (.int .i64 (0)) (.int .i64 (0)) (.int .i64 (0)))
    refine bodyPost_ret (v := .tuple #[.agg #[.int .i64 (0), .int .i64 (0), .int .i64 (0), .int .i64 (0)], .int .i64 (1)]) (by simp [results, Try.results16, go_sem, y0, y1, y2, y3]) rfl ⟨?_, set_four_fr HF1.out (by simp) _ _ _ _⟩
    rw [HR.out.1, HR.out.2.1, HR.out.2.2.1, HR.out.2.2.2.1, HR.out.2.2.2.2]

  · rw [ckS_0 k1] at HA
    obtain ⟨q1, q2⟩ := okS_t k1
    cases k2 : isS sl
    · rw [k2] at HC
      have HR := Lib.hid (show z0 (acZ o d s c sl) (coO o d s c sl df) = 0 ∧ z0 (acZ o d s c sl) (coD o d s c sl df) = 0 ∧ z0 (acZ o d s c sl) (coS o d s c sl df) = 0 ∧ z0 (acZ o d s c sl) (coC o d s c sl df) = 0 ∧ acE o d s c sl df = 2 by simp [z0, acZ, acE, k1, k2])
      clear k1 k2 q1 q2
      go_enter Try.func16, Try.ntmps16
      go_wp2_with fail
      rw [← HW.out]
      refine (HA.out _).mono ?_
      rintro e w1 ⟨rfl, f1⟩
      have HF1 := Lib.hid (HF0.out.noTrans f1)
      have HB1 := Lib.hid (f1.blk HB0.out (fun h => h))
      have c0_1 := f1.keepc c0_0
      have c1_1 := f1.keepc c1_0
      have c2_1 := f1.keepc c2_0
      have c3_1 := f1.keepc c3_0
      obtain ⟨r0_1, r1_1, r2_1, r3_1, g0_1, g1_1, g2_1, g3_1⟩ := four_cells HB1.out
      have hltr1 := World.block_lt_of_cell? _ _ r0_1
      have hltc1 := World.block_lt_of_cell? _ _ c0_1
      clear f1 c0_0 c1_0 c2_0 c3_0 r0_0 r1_0 r2_0 r3_0 g0_0 g1_0 g2_0 g3_0
      go_wp2_with fail
      refine (HC.out _).mono ?_
      rintro e w_2 ⟨rfl, rfl⟩
      go_wp2_with fail
      obtain ⟨y0, y1, y2, y3, -⟩ := four_cells (set_four HB1.out (.int .i64 (0)) (.int .i64 (0)) (.int .i64 (0)) (.int .i64 (0)))
      refine bodyPost_ret (v := .tuple #[.agg #[.int .i64 (0), .int .i64 (0), .int .i64 (0), .int .i64 (0)], .int .i64 (2)]) (by simp [results, Try.results16, go_sem, y0, y1, y2, y3]) rfl ⟨?_, set_four_fr HF1.out (by simp) _ _ _ _⟩
      rw [HR.out.1, HR.out.2.1, HR.out.2.2.1, HR.out.2.2.2.1, HR.out.2.2.2.2]

    · rw [k2] at HC
      have HR := Lib.hid (show z0 (acZ o d s c sl) (coO o d s c sl df) = coO o d s c sl df ∧ z0 (acZ o d s c sl) (coD o d s c sl df) = coD o d s c sl df ∧ z0 (acZ o d s c sl) (coS o d s c sl df) = coS o d s c sl df ∧ z0 (acZ o d s c sl) (coC o d s c sl df) = coC o d s c sl df ∧ acE o d s c sl df = coE o d s c sl df by simp [z0, acZ, acE, k1, k2])
      have HD := Lib.hid (fun w => correctR_any o d s c sl df w (by omega) (by omega))
      generalize coO o d s c sl df = xo at *
      generalize coD o d s c sl df = xd at *
      generalize coS o d s c sl df = xs at *
      generalize coC o d s c sl df = xc at *
      generalize coE o d s c sl df = r at *

      clear k1 k2 q1 q2
      go_enter Try.func16, Try.ntmps16
      go_wp2_with fail
      rw [← HW.out]
      refine (HA.out _).mono ?_
      rintro e w1 ⟨rfl, f1⟩
      have HF1 := Lib.hid (HF0.out.noTrans f1)
      have HB1 := Lib.hid (f1.blk HB0.out (fun h => h))
      have c0_1 := f1.keepc c0_0
      have c1_1 := f1.keepc c1_0
      have c2_1 := f1.keepc c2_0
      have c3_1 := f1.keepc c3_0
      obtain ⟨r0_1, r1_1, r2_1, r3_1, g0_1, g1_1, g2_1, g3_1⟩ := four_cells HB1.out
      have hltr1 := World.block_lt_of_cell? _ _ r0_1
      have hltc1 := World.block_lt_of_cell? _ _ c0_1
      clear f1 c0_0 c1_0 c2_0 c3_0 r0_0 r1_0 r2_0 r3_0 g0_0 g1_0 g2_0 g3_0
      go_wp2_with fail
      refine (HC.out _).mono ?_
      rintro e w_2 ⟨rfl, rfl⟩
      go_wp2_with fail
      refine (HD.out _).mono ?_
      rintro e w3 ⟨rfl, f3⟩
      have HF3 := Lib.hid (HF1.out.noTrans f3)
      have HB3 := Lib.hid (f3.blk HB1.out (fun h => h))
      have c0_3 := f3.keepc c0_1
      have c1_3 := f3.keepc c1_1
      have c2_3 := f3.keepc c2_1
      have c3_3 := f3.keepc c3_1
      obtain ⟨r0_3, r1_3, r2_3, r3_3, g0_3, g1_3, g2_3, g3_3⟩ := four_cells HB3.out
      have hltr3 := World.block_lt_of_cell? _ _ r0_3
      have hltc3 := World.block_lt_of_cell? _ _ c0_3
      clear f3 c0_1 c1_1 c2_1 c3_1 r0_1 r1_1 r2_1 r3_1 g0_1 g1_1 g2_1 g3_1
      go_wp2_with fail
      obtain ⟨y0, y1, y2, y3, -⟩ := four_cells (set_four HB3.out (.int .i64 (xo)) (.int .i64 (xd)) (.int .i64 (xs)) (.int .i64 (xc)))
      refine bodyPost_ret (v := .tuple #[.agg #[.int .i64 (xo), .int .i64 (xd), .int .i64 (xs), .int .i64 (xc)], .int .i64 (r)]) (by simp [results, Try.results16, go_sem, y0, y1, y2, y3]) rfl ⟨?_, set_four_fr HF3.out (by simp) _ _ _ _⟩
      rw [HR.out.1, HR.out.2.1, HR.out.2.2.1, HR.out.2.2.2.1, HR.out.2.2.2.2]


def syB (o d s c sl k : Int) : Bool := okS o d s c && (decide (0 ≤ s) && (decide (s ≤ sl) && decide (sl - s ≤ k)))
set_option maxHeartbeats 2000000 in
theorem sync_any (o d s c sl k : Int) (w : World) (l1 : -9223372036854775808 ≤ sl) (l2 : sl ≤ 9223372036854775807) : Calls Try.prog 19 #[.agg #[.int .i64 o, .int .i64 d, .int .i64 s, .int .i64 c], .int .i64 sl, .int .i64 k] w fun e w' => e = .returned (.bool (syB o d s c sl k)) ∧ Fr no w w' := by
  obtain ⟨W, hW, hF, c0_0, c1_0, c2_0, c3_0⟩ := box_sync w o d s c
  have HW := Lib.hid hW
  have HF0 := Lib.hid hF
  clear hW hF
  have HA := Lib.hid (fun w => ckS_any o d s c w)
  have HB := Lib.hid (fun w => isN_any o d s c w)
  cases k1 : okS o d s c
  · rw [ckS_1 k1] at HA
    have HR := Lib.hid (show syB o d s c sl k = false by simp [syB, k1])
    clear k1 l1 l2
    go_enter Try.func19, Try.ntmps19
    go_wp2_with fail
    rw [← HW.out]
    refine (HA.out _).mono ?_
    rintro e w1 ⟨rfl, f1⟩
    have HF1 := Lib.hid (HF0.out.noTrans f1)
    have c0_1 := f1.keepc c0_0
    have c1_1 := f1.keepc c1_0
    have c2_1 := f1.keepc c2_0
    have c3_1 := f1.keepc c3_0
    clear f1 HF0 c0_0 c1_0 c2_0 c3_0
    go_wp2_with fail
    go_ret
    rw [HR.out]
    exact ⟨by first | rfl | (simp; done) | (simp; omega), HF1.out⟩
  · rw [ckS_0 k1] at HA
    obtain ⟨-, q2⟩ := okS_t k1
    rcases q2 with ⟨q3, q4⟩ | ⟨⟨q3, q4⟩, q5, q6⟩
    · rw [show isN s c = true by simp [isN, q3, q4]] at HB
      have HR := Lib.hid (show syB o d s c sl k = false by simp [syB, q3])
      clear k1 l1 l2 q3 q4
      go_enter Try.func19, Try.ntmps19
      go_wp2_with fail
      rw [← HW.out]
      refine (HA.out _).mono ?_
      rintro e w1 ⟨rfl, f1⟩
      have HF1 := Lib.hid (HF0.out.noTrans f1)
      have c0_1 := f1.keepc c0_0
      have c1_1 := f1.keepc c1_0
      have c2_1 := f1.keepc c2_0
      have c3_1 := f1.keepc c3_0
      clear f1 HF0 c0_0 c1_0 c2_0 c3_0
      go_wp2_with fail
      refine (HB.out _).mono ?_
      rintro e w2 ⟨rfl, f2⟩
      have HF2 := Lib.hid (HF1.out.noTrans f2)
      have c0_2 := f2.keepc c0_1
      have c1_2 := f2.keepc c1_1
      have c2_2 := f2.keepc c2_1
      have c3_2 := f2.keepc c3_1
      clear f2 HF1 c0_1 c1_1 c2_1 c3_1
      go_wp2_with fail
      go_ret
      rw [HR.out]
      exact ⟨by first | rfl | (simp; done) | (simp; omega), HF2.out⟩
    · rw [show isN s c = false by simp [isN]; omega] at HB
      by_cases k2 : sl < s
      · have HR := Lib.hid (show syB o d s c sl k = false by simp [syB]; omega)
        clear k1 l1 l2
        go_enter Try.func19, Try.ntmps19
        go_wp2_with fail
        rw [← HW.out]
        refine (HA.out _).mono ?_
        rintro e w1 ⟨rfl, f1⟩
        have HF1 := Lib.hid (HF0.out.noTrans f1)
        have c0_1 := f1.keepc c0_0
        have c1_1 := f1.keepc c1_0
        have c2_1 := f1.keepc c2_0
        have c3_1 := f1.keepc c3_0
        clear f1 HF0 c0_0 c1_0 c2_0 c3_0
        go_wp2_with fail
        refine (HB.out _).mono ?_
        rintro e w2 ⟨rfl, f2⟩
        have HF2 := Lib.hid (HF1.out.noTrans f2)
        have c0_2 := f2.keepc c0_1
        have c1_2 := f2.keepc c1_1
        have c2_2 := f2.keepc c2_1
        have c3_2 := f2.keepc c3_1
        clear f2 HF1 c0_1 c1_1 c2_1 c3_1
        go_wp2_with fail
        go_ret
        rw [HR.out]
        exact ⟨by first | rfl | (simp; done) | (simp; omega), HF2.out⟩
      · have k3 : s ≤ sl := by omega
        have HR := Lib.hid (show syB o d s c sl k = decide (sl - s ≤ k) by simp [syB, k1, q3, k3])
        clear k1 k2
        go_enter Try.func19, Try.ntmps19
        go_wp2_with fail
        rw [← HW.out]
        refine (HA.out _).mono ?_
        rintro e w1 ⟨rfl, f1⟩
        have HF1 := Lib.hid (HF0.out.noTrans f1)
        have c0_1 := f1.keepc c0_0
        have c1_1 := f1.keepc c1_0
        have c2_1 := f1.keepc c2_0
        have c3_1 := f1.keepc c3_0
        clear f1 HF0 c0_0 c1_0 c2_0 c3_0
        go_wp2_with fail
        refine (HB.out _).mono ?_
        rintro e w2 ⟨rfl, f2⟩
        have HF2 := Lib.hid (HF1.out.noTrans f2)
        have c0_2 := f2.keepc c0_1
        have c1_2 := f2.keepc c1_1
        have c2_2 := f2.keepc c2_1
        have c3_2 := f2.keepc c3_1
        clear f2 HF1 c0_1 c1_1 c2_1 c3_1
        go_wp2_with fail
        go_ret
        rw [HR.out]
        exact ⟨by first | rfl | (simp; done) | (simp; omega), HF2.out⟩

set_option maxHeartbeats 2000000 in
theorem syncR_any (o d s c sl k : Int) (w : World) (l1 : -9223372036854775808 ≤ sl) (l2 : sl ≤ 9223372036854775807) : Calls Try.prog 20 #[.agg #[.int .i64 o, .int .i64 d, .int .i64 s, .int .i64 c], .int .i64 sl, .int .i64 k] w fun e w' => e = .returned (.bool (syB o d s c sl k)) ∧ Fr no w w' := by
  obtain ⟨W, hW, hF, c0_0, c1_0, c2_0, c3_0⟩ := box_sync w o d s c
  have HW := Lib.hid hW
  have HF0 := Lib.hid hF
  clear hW hF
  have HA := Lib.hid (fun w => ckSR_any o d s c w)
  cases k1 : okS o d s c
  · rw [ckS_1 k1] at HA
    have HR := Lib.hid (show syB o d s c sl k = false by simp [syB, k1])
    clear k1 l1 l2
    go_enter Try.func20, Try.ntmps20
    go_wp2_with fail
    rw [← HW.out]
    refine (HA.out _).mono ?_
    rintro e w1 ⟨rfl, f1⟩
    have HF1 := Lib.hid (HF0.out.noTrans f1)
    have c0_1 := f1.keepc c0_0
    have c1_1 := f1.keepc c1_0
    have c2_1 := f1.keepc c2_0
    have c3_1 := f1.keepc c3_0
    clear f1 HF0 c0_0 c1_0 c2_0 c3_0
    go_wp2_with fail
    go_ret
    rw [HR.out]
    exact ⟨by first | rfl | (simp; done) | (simp; omega), HF1.out⟩
  · rw [ckS_0 k1] at HA
    obtain ⟨-, q2⟩ := okS_t k1
    by_cases k0 : s < 0
    · have HR := Lib.hid (show syB o d s c sl k = false by simp [syB]; omega)
      clear k1 l1 l2 q2
      go_enter Try.func20, Try.ntmps20
      go_wp2_with fail
      rw [← HW.out]
      refine (HA.out _).mono ?_
      rintro e w1 ⟨rfl, f1⟩
      have HF1 := Lib.hid (HF0.out.noTrans f1)
      have c0_1 := f1.keepc c0_0
      have c1_1 := f1.keepc c1_0
      have c2_1 := f1.keepc c2_0
      have c3_1 := f1.keepc c3_0
      clear f1 HF0 c0_0 c1_0 c2_0 c3_0
      go_wp2_with fail
      go_ret
      rw [HR.out]
      exact ⟨by first | rfl | (simp; done) | (simp; omega), HF1.out⟩
    · have k4 : 0 ≤ s := by omega
      have k5 : s ≤ 109951162 := by omega
      by_cases k2 : sl < s
      · have HR := Lib.hid (show syB o d s c sl k = false by simp [syB]; omega)
        clear k1 l1 l2 q2 k0
        go_enter Try.func20, Try.ntmps20
        go_wp2_with fail
        rw [← HW.out]
        refine (HA.out _).mono ?_
        rintro e w1 ⟨rfl, f1⟩
        have HF1 := Lib.hid (HF0.out.noTrans f1)
        have c0_1 := f1.keepc c0_0
        have c1_1 := f1.keepc c1_0
        have c2_1 := f1.keepc c2_0
        have c3_1 := f1.keepc c3_0
        clear f1 HF0 c0_0 c1_0 c2_0 c3_0
        go_wp2_with fail
        go_ret
        rw [HR.out]
        exact ⟨by first | rfl | (simp; done) | (simp; omega), HF1.out⟩
      · have k3 : s ≤ sl := by omega
        have HR := Lib.hid (show syB o d s c sl k = decide (sl - s ≤ k) by simp [syB, k1, k4, k3])
        clear k1 k2 q2 k0
        go_enter Try.func20, Try.ntmps20
        go_wp2_with fail
        rw [← HW.out]
        refine (HA.out _).mono ?_
        rintro e w1 ⟨rfl, f1⟩
        have HF1 := Lib.hid (HF0.out.noTrans f1)
        have c0_1 := f1.keepc c0_0
        have c1_1 := f1.keepc c1_0
        have c2_1 := f1.keepc c2_0
        have c3_1 := f1.keepc c3_0
        clear f1 HF0 c0_0 c1_0 c2_0 c3_0
        go_wp2_with fail
        go_ret
        rw [HR.out]
        exact ⟨by first | rfl | (simp; done) | (simp; omega), HF1.out⟩

/-- the absolute value -/
def sz (n : Int) : Int := if n < 0 then -n else n
theorem sz_le {n k : Int} : sz n ≤ k ↔ -k ≤ n ∧ n ≤ k := by unfold sz; split <;> omega
theorem sz_bd {n : Int} (h1 : -9000000000000000000 ≤ n) (h2 : n ≤ 9000000000000000000) : 0 ≤ sz n ∧ sz n ≤ 9000000000000000000 := by unfold sz; split <;> omega
theorem size_any (n : Int) (w : World) (h1 : -9000000000000000000 ≤ n) (h2 : n ≤ 9000000000000000000) : Calls Try.prog 34 #[.int .i64 n] w fun e w' => e = .returned (.int .i64 (sz n)) ∧ w' = w := by
  by_cases h : n < 0
  · have hz := Lib.hid (show sz n = -n by simp [sz, h])
    have hm : (if n < -n then -n else n) = -n := if_pos (by omega)
    go_enter Try.func34, Try.ntmps34
    go_wp2_with fail
    go_ret
    rw [hz.out]
    first | exact ⟨rfl, rfl⟩ | exact ⟨by simp [hm], rfl⟩
  · have hz := Lib.hid (show sz n = n by simp [sz, h])
    have hm : (if n < -n then -n else n) = n := if_neg (by omega)
    go_enter Try.func34, Try.ntmps34
    go_wp2_with fail
    go_ret
    rw [hz.out]
    first | exact ⟨rfl, rfl⟩ | exact ⟨by simp [hm], rfl⟩

theorem ex_rcv : meV 0 0 1 12080 = -40 ∧ meE 0 0 1 12080 = 0 := by decide
theorem ex_he : heE 40 0 (-1) 0 1 12120 = 0 ∧ heZ 40 0 (-1) 0 1 12120 = true ∧ coO 40 0 (-1) 0 1 (-meV 40 0 1 12120) = 0 ∧ coD 40 0 (-1) 0 1 (-meV 40 0 1 12120) = 0 ∧ coS 40 0 (-1) 0 1 (-meV 40 0 1 12120) = 1 ∧ coC 40 0 (-1) 0 1 (-meV 40 0 1 12120) = 1 := by decide
theorem ex_ac : acE 40 0 (-1) 0 1 (-40) = 0 ∧ acZ 40 0 (-1) 0 1 = true ∧ coO 40 0 (-1) 0 1 (-40) = 0 ∧ coD 40 0 (-1) 0 1 (-40) = 0 ∧ coS 40 0 (-1) 0 1 (-40) = 1 ∧ coC 40 0 (-1) 0 1 (-40) = 1 := by decide
theorem ex_s1 : syB 0 0 1 1 5 4 = true := by decide
theorem ex_s2 : syB 0 0 1 1 6 4 = false := by decide
set_option maxRecDepth 20000 in
set_option maxHeartbeats 4000000 in
theorem awake_any (w : World) : Calls Try.prog 10 #[] w fun e w' => e = .returned (.bool true) ∧ Fr no w w' := by
  obtain ⟨W, hW, hF, c0_0, c1_0, c2_0, c3_0⟩ := box_sync w 40 0 (-1) 0
  have HW := Lib.hid hW
  have HF0 := Lib.hid hF
  clear hW hF
  have K1 := Lib.hid (fun w => hear_any 40 0 (-1) 0 1 12120 w)
  rw [ex_he.1, ex_he.2.1, ex_he.2.2.1, ex_he.2.2.2.1, ex_he.2.2.2.2.1, ex_he.2.2.2.2.2, show z0 true 0 = 0 from rfl, show z0 true 1 = 1 from rfl] at K1
  have K2 := Lib.hid (fun w => measure_any 0 0 1 12080 w)
  rw [ex_rcv.1, ex_rcv.2] at K2
  have K3 := Lib.hid (fun w => acked_any 40 0 (-1) 0 1 (-40) w)
  rw [ex_ac.1, ex_ac.2.1, ex_ac.2.2.1, ex_ac.2.2.2.1, ex_ac.2.2.2.2.1, ex_ac.2.2.2.2.2, show z0 true 0 = 0 from rfl, show z0 true 1 = 1 from rfl] at K3
  have K4 := Lib.hid (fun w => sync_any 0 0 1 1 5 4 w (by omega) (by omega))
  rw [ex_s1] at K4
  have K5 := Lib.hid (fun w => sync_any 0 0 1 1 6 4 w (by omega) (by omega))
  rw [ex_s2] at K5
  go_enter Try.func10, Try.ntmps10
  go_wp2_with fail
  rw [← HW.out]
  refine (K1.out _).mono ?_
  rintro e w1 ⟨rfl, f1⟩
  have HF1 := Lib.hid (HF0.out.noTrans f1)
  have c0_1 := f1.keepc c0_0
  have c1_1 := f1.keepc c1_0
  have c2_1 := f1.keepc c2_0
  have c3_1 := f1.keepc c3_0
  have hlt := World.block_lt_of_cell? _ _ c0_1
  clear f1 c0_0 c1_0 c2_0 c3_0 HF0
  go_wp2_with fail
  obtain ⟨v1, hv1, hg1, a0_1, a1_1, a2_1, a3_1⟩ := box_sync w1 0 0 1 1
  have x0_1 := hg1.keepc c0_1
  have x1_1 := hg1.keepc c1_1
  have x2_1 := hg1.keepc c2_1
  have x3_1 := hg1.keepc c3_1
  have HG1 := Lib.hid (HF1.out.noTrans hg1)
  have HV1 := Lib.hid hv1
  rw [← HV1.out]
  clear hv1 hg1 c0_1 c1_1 c2_1 c3_1 HF1 hlt
  refine (K2.out _).mono ?_
  rintro e w2 ⟨rfl, f2⟩
  have HF2 := Lib.hid (HG1.out.noTrans f2)
  have a0_2 := f2.keepc a0_1
  have a1_2 := f2.keepc a1_1
  have a2_2 := f2.keepc a2_1
  have a3_2 := f2.keepc a3_1
  have x0_2 := f2.keepc x0_1
  have x1_2 := f2.keepc x1_1
  have x2_2 := f2.keepc x2_1
  have x3_2 := f2.keepc x3_1
  clear f2 HG1 a0_1 a1_1 a2_1 a3_1 x0_1 x1_1 x2_1 x3_1
  go_wp2_with fail
  refine (K3.out _).mono ?_
  rintro e w3 ⟨rfl, f3⟩
  have HF3 := Lib.hid (HF2.out.noTrans f3)
  have a0_3 := f3.keepc a0_2
  have a1_3 := f3.keepc a1_2
  have a2_3 := f3.keepc a2_2
  have a3_3 := f3.keepc a3_2
  have hlt := World.block_lt_of_cell? _ _ a0_3
  clear f3 HF2 a0_2 a1_2 a2_2 a3_2 x0_2 x1_2 x2_2 x3_2
  go_wp2_with fail
  obtain ⟨v3, hv3, hg3, -⟩ := box_sync w3 0 0 1 1
  have HG3 := Lib.hid (HF3.out.noTrans hg3)
  have HV3 := Lib.hid hv3
  have b0_3 := hg3.keepc a0_3
  have b1_3 := hg3.keepc a1_3
  have b2_3 := hg3.keepc a2_3
  have b3_3 := hg3.keepc a3_3
  rw [← HV3.out]
  clear hv3 hg3 a0_3 a1_3 a2_3 a3_3 HF3 hlt
  refine (K4.out _).mono ?_
  rintro e w4 ⟨rfl, f4⟩
  have HF4 := Lib.hid (HG3.out.noTrans f4)
  have b0_4 := f4.keepc b0_3
  have b1_4 := f4.keepc b1_3
  have b2_4 := f4.keepc b2_3
  have b3_4 := f4.keepc b3_3
  clear f4 HG3 b0_3 b1_3 b2_3 b3_3
  go_wp2_with fail
  refine (K5.out _).mono ?_
  rintro e w5 ⟨rfl, f5⟩
  have HF5 := Lib.hid (HF4.out.noTrans f5)
  clear f5 HF4 b0_4 b1_4 b2_4 b3_4
  go_wp2_with fail
  go_ret
  exact ⟨rfl, HF5.out⟩

end Go.Proofs.Ytmkmefcafpgphaa
