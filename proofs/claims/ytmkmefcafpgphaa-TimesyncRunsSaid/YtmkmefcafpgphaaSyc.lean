/- Measure, correct: the program's and the document's. -/
import Derived.Test.YtmkmefcafpgphaaSyn
namespace Go.Proofs.Ytmkmefcafpgphaa
set_option linter.unusedVariables false
open Go.RowKit

set_option maxHeartbeats 2000000 in
theorem measure_any (o d s t : Int) (w : World) : Calls Try.prog 11 #[.agg #[.int .i64 o, .int .i64 d], .int .i64 s, .int .i64 t] w fun e w' => e = .returned (.tuple #[.int .i64 (meV o d s t), .int .i64 (meE o d s t)]) ∧ Fr no w w' := by
  obtain ⟨hF, c0_0, c1_0⟩ := box_clock w o d
  obtain ⟨W, hW⟩ : ∃ W, W = w.alloc (.cells #[.int .i64 o, .int .i64 d] 23 (0, 0)) := ⟨_, rfl⟩
  rw [← hW] at hF c0_0 c1_0
  have HW := Lib.hid hW
  have HF0 := Lib.hid hF
  clear hW hF
  have HA := Lib.hid (fun w => check_any o d w)
  have HB := Lib.hid (fun w => isS_any s w)
  have HC := Lib.hid (fun w => show_any o d t w)
  cases h1 : okC o d
  · rw [erC_1 h1] at HA
    have HR := Lib.hid (show meV o d s t = 0 ∧ meE o d s t = 1 by simp [meV, meE, h1])
    clear h1
    go_enter Try.func11, Try.ntmps11
    go_wp2_with fail
    rw [← HW.out]
    refine (HA.out _).mono ?_
    rintro e w1 ⟨rfl, f1⟩
    have HF1 := Lib.hid (HF0.out.noTrans f1)
    have c0_1 := f1.keepc c0_0
    have c1_1 := f1.keepc c1_0
    clear f1 HF0 c0_0 c1_0
    go_wp2_with fail
    go_ret2
    rw [HR.out.1, HR.out.2]
    exact ⟨by first | rfl | (simp; done) | (simp; omega), HF1.out⟩
  · rw [erC_0 h1] at HA
    cases h2 : isS s
    · rw [h2] at HB
      have HR := Lib.hid (show meV o d s t = 0 ∧ meE o d s t = 2 by simp [meV, meE, h1, h2])
      clear h1 h2
      go_enter Try.func11, Try.ntmps11
      go_wp2_with fail
      rw [← HW.out]
      refine (HA.out _).mono ?_
      rintro e w1 ⟨rfl, f1⟩
      have HF1 := Lib.hid (HF0.out.noTrans f1)
      have c0_1 := f1.keepc c0_0
      have c1_1 := f1.keepc c1_0
      clear f1 HF0 c0_0 c1_0
      go_wp2_with fail
      refine (HB.out _).mono ?_
      rintro e w_2 ⟨rfl, rfl⟩
      go_wp2_with fail
      go_ret2
      rw [HR.out.1, HR.out.2]
      exact ⟨by first | rfl | (simp; done) | (simp; omega), HF1.out⟩
    · rw [h2] at HB
      cases h3 : isT t
      · rw [show shV o d t = 0 by simp [shV, h3], show shE o d t = 2 by simp [shE, h1, h3]] at HC
        have HR := Lib.hid (show meV o d s t = 0 ∧ meE o d s t = 2 by simp [meV, meE, h1, h2, h3])
        clear h1 h2 h3
        go_enter Try.func11, Try.ntmps11
        go_wp2_with fail
        rw [← HW.out]
        refine (HA.out _).mono ?_
        rintro e w1 ⟨rfl, f1⟩
        have HF1 := Lib.hid (HF0.out.noTrans f1)
        have c0_1 := f1.keepc c0_0
        have c1_1 := f1.keepc c1_0
        clear f1 HF0 c0_0 c1_0
        go_wp2_with fail
        refine (HB.out _).mono ?_
        rintro e w_2 ⟨rfl, rfl⟩
        go_wp2_with fail
        refine (HC.out _).mono ?_
        rintro e w3 ⟨rfl, f3⟩
        have HF3 := Lib.hid (HF1.out.noTrans f3)
        have c0_3 := f3.keepc c0_1
        have c1_3 := f3.keepc c1_1
        clear f3 HF1 c0_1 c1_1
        go_wp2_with fail
        go_ret2
        rw [HR.out.1, HR.out.2]
        exact ⟨by first | rfl | (simp; done) | (simp; omega), HF3.out⟩
      · rw [show shV o d t = sh o d t by simp [shV, h1, h3], show shE o d t = 0 by simp [shE, h1, h3]] at HC
        have HR := Lib.hid (show meV o d s t = sh o d t - (s * 10000 + 2120) ∧ meE o d s t = 0 by simp [meV, meE, h1, h2, h3])
        obtain ⟨s0, s1⟩ := isS_t.1 h2
        obtain ⟨t0, t1⟩ := isT_t.1 h3
        obtain ⟨u0, u1⟩ := fl_bd2 (OkC.of h1) t0 t1

        generalize sh o d t = v at *
        clear h1 h2 h3
        go_enter Try.func11, Try.ntmps11
        go_wp2_with fail
        rw [← HW.out]
        refine (HA.out _).mono ?_
        rintro e w1 ⟨rfl, f1⟩
        have HF1 := Lib.hid (HF0.out.noTrans f1)
        have c0_1 := f1.keepc c0_0
        have c1_1 := f1.keepc c1_0
        clear f1 HF0 c0_0 c1_0
        go_wp2_with fail
        refine (HB.out _).mono ?_
        rintro e w_2 ⟨rfl, rfl⟩
        go_wp2_with fail
        refine (HC.out _).mono ?_
        rintro e w3 ⟨rfl, f3⟩
        have HF3 := Lib.hid (HF1.out.noTrans f3)
        have c0_3 := f3.keepc c0_1
        have c1_3 := f3.keepc c1_1
        clear f3 HF1 c0_1 c1_1
        go_wp2_with fail
        go_ret2
        rw [HR.out.1, HR.out.2]
        exact ⟨by first | rfl | (simp; done) | (simp; omega), HF3.out⟩

set_option maxHeartbeats 2000000 in
theorem measureR_any (o d s t : Int) (w : World) : Calls Try.prog 12 #[.agg #[.int .i64 o, .int .i64 d], .int .i64 s, .int .i64 t] w fun e w' => e = .returned (.tuple #[.int .i64 (meV o d s t), .int .i64 (meE o d s t)]) ∧ Fr no w w' := by
  obtain ⟨hF, c0_0, c1_0⟩ := box_clock w o d
  obtain ⟨W, hW⟩ : ∃ W, W = w.alloc (.cells #[.int .i64 o, .int .i64 d] 23 (0, 0)) := ⟨_, rfl⟩
  rw [← hW] at hF c0_0 c1_0
  have HW := Lib.hid hW
  have HF0 := Lib.hid hF
  clear hW hF
  have HA := Lib.hid (fun w => checkR_any o d w)
  have HB := Lib.hid (fun w => isSR_any s w)
  have HC := Lib.hid (fun w => time_any t w)
  cases h1 : okC o d
  · rw [erC_1 h1] at HA
    have HR := Lib.hid (show meV o d s t = 0 ∧ meE o d s t = 1 by simp [meV, meE, h1])
    clear h1
    go_enter Try.func12, Try.ntmps12
    go_wp2_with fail
    rw [← HW.out]
    refine (HA.out _).mono ?_
    rintro e w1 ⟨rfl, f1⟩
    have HF1 := Lib.hid (HF0.out.noTrans f1)
    have c0_1 := f1.keepc c0_0
    have c1_1 := f1.keepc c1_0
    clear f1 HF0 c0_0 c1_0
    go_wp2_with fail
    go_ret2
    rw [HR.out.1, HR.out.2]
    exact ⟨by first | rfl | (simp; done) | (simp; omega), HF1.out⟩
  · rw [erC_0 h1] at HA
    cases h2 : isS s
    · rw [h2] at HB
      have HR := Lib.hid (show meV o d s t = 0 ∧ meE o d s t = 2 by simp [meV, meE, h1, h2])
      clear h1 h2
      go_enter Try.func12, Try.ntmps12
      go_wp2_with fail
      rw [← HW.out]
      refine (HA.out _).mono ?_
      rintro e w1 ⟨rfl, f1⟩
      have HF1 := Lib.hid (HF0.out.noTrans f1)
      have c0_1 := f1.keepc c0_0
      have c1_1 := f1.keepc c1_0
      clear f1 HF0 c0_0 c1_0
      go_wp2_with fail
      refine (HB.out _).mono ?_
      rintro e w_2 ⟨rfl, rfl⟩
      go_wp2_with fail
      go_ret2
      rw [HR.out.1, HR.out.2]
      exact ⟨by first | rfl | (simp; done) | (simp; omega), HF1.out⟩
    · rw [h2] at HB
      cases h3 : isT t
      · rw [h3] at HC
        have HR := Lib.hid (show meV o d s t = 0 ∧ meE o d s t = 2 by simp [meV, meE, h1, h2, h3])
        clear h1 h2 h3
        go_enter Try.func12, Try.ntmps12
        go_wp2_with fail
        rw [← HW.out]
        refine (HA.out _).mono ?_
        rintro e w1 ⟨rfl, f1⟩
        have HF1 := Lib.hid (HF0.out.noTrans f1)
        have c0_1 := f1.keepc c0_0
        have c1_1 := f1.keepc c1_0
        clear f1 HF0 c0_0 c1_0
        go_wp2_with fail
        refine (HB.out _).mono ?_
        rintro e w_2 ⟨rfl, rfl⟩
        go_wp2_with fail
        refine (HC.out _).mono ?_
        rintro e w_3 ⟨rfl, rfl⟩
        go_wp2_with fail
        go_ret2
        rw [HR.out.1, HR.out.2]
        exact ⟨by first | rfl | (simp; done) | (simp; omega), HF1.out⟩
      · rw [h3] at HC
        have HR := Lib.hid (show meV o d s t = sh o d t - (s * 10000 + 2120) ∧ meE o d s t = 0 by simp [meV, meE, h1, h2, h3])
        obtain ⟨s0, s1⟩ := isS_t.1 h2
        obtain ⟨t0, t1⟩ := isT_t.1 h3
        obtain ⟨u0, u1⟩ := fl_bd2 (OkC.of h1) t0 t1

        have HD := Lib.hid (fun w => at_any o d t w (OkC.of h1) t0 t1)
        generalize sh o d t = v at *
        clear h1 h2 h3
        go_enter Try.func12, Try.ntmps12
        go_wp2_with fail
        rw [← HW.out]
        refine (HA.out _).mono ?_
        rintro e w1 ⟨rfl, f1⟩
        have HF1 := Lib.hid (HF0.out.noTrans f1)
        have c0_1 := f1.keepc c0_0
        have c1_1 := f1.keepc c1_0
        clear f1 HF0 c0_0 c1_0
        go_wp2_with fail
        refine (HB.out _).mono ?_
        rintro e w_2 ⟨rfl, rfl⟩
        go_wp2_with fail
        refine (HC.out _).mono ?_
        rintro e w_3 ⟨rfl, rfl⟩
        go_wp2_with fail
        refine (HD.out _).mono ?_
        rintro e w4 ⟨rfl, f4⟩
        have HF4 := Lib.hid (HF1.out.noTrans f4)
        have c0_4 := f4.keepc c0_1
        have c1_4 := f4.keepc c1_1
        clear f4 HF1 c0_1 c1_1
        go_wp2_with fail
        go_ret2
        rw [HR.out.1, HR.out.2]
        exact ⟨by first | rfl | (simp; done) | (simp; omega), HF4.out⟩

set_option maxHeartbeats 4000000 in
theorem correct_any (o d s c sl df : Int) (w : World) (c0 : 0 ≤ c) (c1 : c ≤ 4096) : Calls Try.prog 48 #[.agg #[.int .i64 o, .int .i64 d, .int .i64 s, .int .i64 c], .int .i64 sl, .int .i64 df] w fun e w' => e = .returned (.tuple #[.agg #[.int .i64 (coO o d s c sl df), .int .i64 (coD o d s c sl df), .int .i64 (coS o d s c sl df), .int .i64 (coC o d s c sl df)], .int .i64 (coE o d s c sl df)]) ∧ Fr no w w' := by
  obtain ⟨W, hW⟩ : ∃ W, W = (w.alloc (.cells #[.int .i64 o, .int .i64 d, .int .i64 s, .int .i64 c] 25 (0, 0))).alloc (.cells #[.int .i64 0, .int .i64 0, .int .i64 0, .int .i64 0] 25 (0, 0)) := ⟨_, rfl⟩
  have hF : Fr no w W := by rw [hW]; exact ((Fr.refl no w).alloc _).alloc _
  have h1 : W.heap[w.heap.size]? = some (.cells #[.int .i64 o, .int .i64 d, .int .i64 s, .int .i64 c] 25 (0, 0)) := by rw [hW]; exact alloc_keeps (heap_alloc_new w _) _
  have h2 : W.heap[w.heap.size + 1]? = some (.cells #[.int .i64 0, .int .i64 0, .int .i64 0, .int .i64 0] 25 (0, 0)) := by rw [hW]; simpa using heap_alloc_new (w.alloc (.cells #[.int .i64 o, .int .i64 d, .int .i64 s, .int .i64 c] 25 (0, 0))) (.cells #[.int .i64 0, .int .i64 0, .int .i64 0, .int .i64 0] 25 (0, 0))
  obtain ⟨c0_0, c1_0, c2_0, c3_0, -⟩ := four_cells h1
  obtain ⟨r0_0, r1_0, r2_0, r3_0, g0_0, g1_0, g2_0, g3_0⟩ := four_cells h2
  have HB0 := Lib.hid h2
  have HW := Lib.hid hW
  have HF0 := Lib.hid hF
  clear hW hF h1 h2
  have HI := Lib.hid (fun w => twithin_any df (-4999) 4999 w)
  by_cases h1 : sl ≤ s
  · have HR := Lib.hid (show coO o d s c sl df = 0 ∧ coD o d s c sl df = 0 ∧ coS o d s c sl df = 0 ∧ coC o d s c sl df = 0 ∧ coE o d s c sl df = 5 by simp [coO, coD, coS, coC, coE, h1])
    go_enter Try.func48, Try.ntmps48
    go_wp2_with fail
    rw [← HW.out]
    refine bodyPost_ret (v := .tuple #[.agg #[.int .i64 0, .int .i64 0, .int .i64 0, .int .i64 0], .int .i64 5]) (by simp [results, Try.results48, go_sem, r0_0, r1_0, r2_0, r3_0]) rfl ⟨?_, HF0.out⟩
    rw [HR.out.1, HR.out.2.1, HR.out.2.2.1, HR.out.2.2.2.1, HR.out.2.2.2.2]

  · have h1' : s < sl := by omega
    cases h2 : inR df (-4999) 4999
    · have HR := Lib.hid (show coO o d s c sl df = 0 ∧ coD o d s c sl df = 0 ∧ coS o d s c sl df = 0 ∧ coC o d s c sl df = 0 ∧ coE o d s c sl df = 15 by simp [coO, coD, coS, coC, coE, h1, h2])
      rw [h2] at HI
      clear h2 h1
      go_enter Try.func48, Try.ntmps48
      go_wp2_with fail
      rw [← HW.out]
      refine (HI.out _).mono ?_
      rintro e w_9 ⟨rfl, rfl⟩
      go_wp2_with fail
      obtain ⟨z0, z1, z2, z3, -⟩ := four_cells (set_four HB0.out (.int .i64 (0)) (.int .i64 (0)) (.int .i64 (0)) (.int .i64 (0)))
      refine bodyPost_ret (v := .tuple #[.agg #[.int .i64 (0), .int .i64 (0), .int .i64 (0), .int .i64 (0)], .int .i64 (15)]) (by simp [results, Try.results48, go_sem, z0, z1, z2, z3]) rfl ⟨?_, set_four_fr HF0.out (by simp) _ _ _ _⟩
      rw [HR.out.1, HR.out.2.1, HR.out.2.2.1, HR.out.2.2.2.1, HR.out.2.2.2.2]

    · obtain ⟨y0, y1⟩ := inR_t.1 h2
      rw [h2] at HI
      by_cases h3 : c = 4096
      · have HR := Lib.hid (show coO o d s c sl df = 0 ∧ coD o d s c sl df = 0 ∧ coS o d s c sl df = 0 ∧ coC o d s c sl df = 0 ∧ coE o d s c sl df = 13 by simp [coO, coD, coS, coC, coE, h1, h2, h3])
        subst h3
        clear h2 h1
        go_enter Try.func48, Try.ntmps48
        go_wp2_with fail
        rw [← HW.out]
        refine (HI.out _).mono ?_
        rintro e w_9 ⟨rfl, rfl⟩
        go_wp2_with fail
        obtain ⟨z0, z1, z2, z3, -⟩ := four_cells (set_four HB0.out (.int .i64 (0)) (.int .i64 (0)) (.int .i64 (0)) (.int .i64 (0)))
        refine bodyPost_ret (v := .tuple #[.agg #[.int .i64 (0), .int .i64 (0), .int .i64 (0), .int .i64 (0)], .int .i64 (13)]) (by simp [results, Try.results48, go_sem, z0, z1, z2, z3]) rfl ⟨?_, set_four_fr HF0.out (by simp) _ _ _ _⟩
        rw [HR.out.1, HR.out.2.1, HR.out.2.2.1, HR.out.2.2.2.1, HR.out.2.2.2.2]

      · have h4 : decide (c = 4096) = false := by simpa using h3
        have h5 : (c == 4096) = false := by simpa using h3
        have HA := Lib.hid (fun w => adjust_any o d df w (by omega) (by omega))
        by_cases h6 : adE o d df = 0
        · have hb : adB o d df = true := by
            cases x : adB o d df
            · simp [adE, x] at h6
            · rfl
          have HR := Lib.hid (show coO o d s c sl df = o + df ∧ coD o d s c sl df = d ∧ coS o d s c sl df = sl ∧ coC o d s c sl df = c + 1 ∧ coE o d s c sl df = 0 by simp [coO, coD, coS, coC, coE, h1, h2, h3, h6])
          rw [h6, show adO o d df = o + df by simp [adO, hb], show adD o d df = d by simp [adD, hb]] at HA
          clear h6 hb h2 h1 h3
          go_enter Try.func48, Try.ntmps48
          go_wp2_with fail
          rw [← HW.out]
          refine (HI.out _).mono ?_
          rintro e w_9 ⟨rfl, rfl⟩
          go_wp2_with fail
          refine (HA.out _).mono ?_
          rintro e w1 ⟨rfl, f1⟩
          have HF1 := Lib.hid (HF0.out.noTrans f1)
          have HB1 := Lib.hid (f1.blk HB0.out (fun h => h))
          have c0_1 := f1.keepc c0_0
          have c1_1 := f1.keepc c1_0
          have c2_1 := f1.keepc c2_0
          have c3_1 := f1.keepc c3_0
          obtain ⟨r0_1, r1_1, r2_1, r3_1, g0_1, g1_1, g2_1, g3_1⟩ := four_cells HB1.out
          have hltr1 := World.block_lt_of_cell? _ _ r0_1
          have hltc1 := World.block_lt_of_cell? _ _ c0_1
          clear f1 c0_0 c1_0 c2_0 c3_0 r0_0 r1_0 r2_0 r3_0 g0_0 g1_0 g2_0 g3_0
          go_wp2_with fail
          obtain ⟨z0, z1, z2, z3, -⟩ := four_cells (alloc_keeps (set_four HB1.out (.int .i64 (o + df)) (.int .i64 (d)) (.int .i64 (sl)) (.int .i64 (c + 1))) (.cells #[.int .i64 (o + df), .int .i64 (d)] 23 (0, 0)))
          refine bodyPost_ret (v := .tuple #[.agg #[.int .i64 (o + df), .int .i64 (d), .int .i64 (sl), .int .i64 (c + 1)], .int .i64 (0)]) (by simp [results, Try.results48, go_sem, z0, z1, z2, z3]) rfl ⟨?_, (set_four_fr HF1.out (by simp) _ _ _ _).alloc _⟩
          rw [HR.out.1, HR.out.2.1, HR.out.2.2.1, HR.out.2.2.2.1, HR.out.2.2.2.2]

        · have HR := Lib.hid (show coO o d s c sl df = 0 ∧ coD o d s c sl df = 0 ∧ coS o d s c sl df = 0 ∧ coC o d s c sl df = 0 ∧ coE o d s c sl df = adE o d df by simp [coO, coD, coS, coC, coE, h1, h2, h3, h6])
          generalize adO o d df = xo at *
          generalize adD o d df = xd at *
          generalize adE o d df = r at *
          have hr2 : (r == 0) = false := by simpa using h6
          clear h6 h2 h1 h3
          go_enter Try.func48, Try.ntmps48
          go_wp2_with fail
          rw [← HW.out]
          refine (HI.out _).mono ?_
          rintro e w_9 ⟨rfl, rfl⟩
          go_wp2_with fail
          refine (HA.out _).mono ?_
          rintro e w1 ⟨rfl, f1⟩
          have HF1 := Lib.hid (HF0.out.noTrans f1)
          have HB1 := Lib.hid (f1.blk HB0.out (fun h => h))
          have c0_1 := f1.keepc c0_0
          have c1_1 := f1.keepc c1_0
          have c2_1 := f1.keepc c2_0
          have c3_1 := f1.keepc c3_0
          obtain ⟨r0_1, r1_1, r2_1, r3_1, g0_1, g1_1, g2_1, g3_1⟩ := four_cells HB1.out
          have hltr1 := World.block_lt_of_cell? _ _ r0_1
          have hltc1 := World.block_lt_of_cell? _ _ c0_1
          clear f1 c0_0 c1_0 c2_0 c3_0 r0_0 r1_0 r2_0 r3_0 g0_0 g1_0 g2_0 g3_0
          go_wp2_with fail
          obtain ⟨z0, z1, z2, z3, -⟩ := four_cells (alloc_keeps (set_four HB1.out (.int .i64 (0)) (.int .i64 (0)) (.int .i64 (0)) (.int .i64 (0))) (.cells #[.int .i64 (xo), .int .i64 (xd)] 23 (0, 0)))
          refine bodyPost_ret (v := .tuple #[.agg #[.int .i64 (0), .int .i64 (0), .int .i64 (0), .int .i64 (0)], .int .i64 (r)]) (by simp [results, Try.results48, go_sem, z0, z1, z2, z3]) rfl ⟨?_, (set_four_fr HF1.out (by simp) _ _ _ _).alloc _⟩
          rw [HR.out.1, HR.out.2.1, HR.out.2.2.1, HR.out.2.2.2.1, HR.out.2.2.2.2]


set_option maxHeartbeats 4000000 in
theorem correctR_any (o d s c sl df : Int) (w : World) (c0 : 0 ≤ c) (c1 : c ≤ 4096) : Calls Try.prog 49 #[.agg #[.int .i64 o, .int .i64 d, .int .i64 s, .int .i64 c], .int .i64 sl, .int .i64 df] w fun e w' => e = .returned (.tuple #[.agg #[.int .i64 (coO o d s c sl df), .int .i64 (coD o d s c sl df), .int .i64 (coS o d s c sl df), .int .i64 (coC o d s c sl df)], .int .i64 (coE o d s c sl df)]) ∧ Fr no w w' := by
  obtain ⟨W, hW⟩ : ∃ W, W = (w.alloc (.cells #[.int .i64 o, .int .i64 d, .int .i64 s, .int .i64 c] 25 (0, 0))).alloc (.cells #[.int .i64 0, .int .i64 0, .int .i64 0, .int .i64 0] 25 (0, 0)) := ⟨_, rfl⟩
  have hF : Fr no w W := by rw [hW]; exact ((Fr.refl no w).alloc _).alloc _
  have h1 : W.heap[w.heap.size]? = some (.cells #[.int .i64 o, .int .i64 d, .int .i64 s, .int .i64 c] 25 (0, 0)) := by rw [hW]; exact alloc_keeps (heap_alloc_new w _) _
  have h2 : W.heap[w.heap.size + 1]? = some (.cells #[.int .i64 0, .int .i64 0, .int .i64 0, .int .i64 0] 25 (0, 0)) := by rw [hW]; simpa using heap_alloc_new (w.alloc (.cells #[.int .i64 o, .int .i64 d, .int .i64 s, .int .i64 c] 25 (0, 0))) (.cells #[.int .i64 0, .int .i64 0, .int .i64 0, .int .i64 0] 25 (0, 0))
  obtain ⟨c0_0, c1_0, c2_0, c3_0, -⟩ := four_cells h1
  obtain ⟨r0_0, r1_0, r2_0, r3_0, g0_0, g1_0, g2_0, g3_0⟩ := four_cells h2
  have HB0 := Lib.hid h2
  have HW := Lib.hid hW
  have HF0 := Lib.hid hF
  clear hW hF h1 h2
  by_cases h1 : sl ≤ s
  · have HR := Lib.hid (show coO o d s c sl df = 0 ∧ coD o d s c sl df = 0 ∧ coS o d s c sl df = 0 ∧ coC o d s c sl df = 0 ∧ coE o d s c sl df = 5 by simp [coO, coD, coS, coC, coE, h1])
    go_enter Try.func49, Try.ntmps49
    go_wp2_with fail
    rw [← HW.out]
    refine bodyPost_ret (v := .tuple #[.agg #[.int .i64 0, .int .i64 0, .int .i64 0, .int .i64 0], .int .i64 5]) (by simp [results, Try.results49, go_sem, r0_0, r1_0, r2_0, r3_0]) rfl ⟨?_, HF0.out⟩
    rw [HR.out.1, HR.out.2.1, HR.out.2.2.1, HR.out.2.2.2.1, HR.out.2.2.2.2]

  · have h1' : s < sl := by omega
    cases h2 : inR df (-4999) 4999
    · have HR := Lib.hid (show coO o d s c sl df = 0 ∧ coD o d s c sl df = 0 ∧ coS o d s c sl df = 0 ∧ coC o d s c sl df = 0 ∧ coE o d s c sl df = 15 by simp [coO, coD, coS, coC, coE, h1, h2])
      have hx : df ≤ -5000 ∨ (-5000 < df ∧ 5000 ≤ df) := by simp [inR] at h2; omega
      clear h2 h1
      rcases hx with hx | ⟨hx, hy⟩
      · go_enter Try.func49, Try.ntmps49
        go_wp2_with fail
        rw [← HW.out]
        refine bodyPost_ret (v := .tuple #[.agg #[.int .i64 0, .int .i64 0, .int .i64 0, .int .i64 0], .int .i64 15]) (by simp [results, Try.results49, go_sem, r0_0, r1_0, r2_0, r3_0]) rfl ⟨?_, HF0.out⟩
        rw [HR.out.1, HR.out.2.1, HR.out.2.2.1, HR.out.2.2.2.1, HR.out.2.2.2.2]
      · go_enter Try.func49, Try.ntmps49
        go_wp2_with fail
        rw [← HW.out]
        refine bodyPost_ret (v := .tuple #[.agg #[.int .i64 0, .int .i64 0, .int .i64 0, .int .i64 0], .int .i64 15]) (by simp [results, Try.results49, go_sem, r0_0, r1_0, r2_0, r3_0]) rfl ⟨?_, HF0.out⟩
        rw [HR.out.1, HR.out.2.1, HR.out.2.2.1, HR.out.2.2.2.1, HR.out.2.2.2.2]
    · obtain ⟨y0, y1⟩ := inR_t.1 h2
      have y0x : -5000 < df := by omega
      have y1x : df < 5000 := by omega
      by_cases h3 : c = 4096
      · have HR := Lib.hid (show coO o d s c sl df = 0 ∧ coD o d s c sl df = 0 ∧ coS o d s c sl df = 0 ∧ coC o d s c sl df = 0 ∧ coE o d s c sl df = 13 by simp [coO, coD, coS, coC, coE, h1, h2, h3])
        subst h3
        clear h2 h1
        go_enter Try.func49, Try.ntmps49
        go_wp2_with fail
        rw [← HW.out]
        refine bodyPost_ret (v := .tuple #[.agg #[.int .i64 0, .int .i64 0, .int .i64 0, .int .i64 0], .int .i64 13]) (by simp [results, Try.results49, go_sem, r0_0, r1_0, r2_0, r3_0]) rfl ⟨?_, HF0.out⟩
        rw [HR.out.1, HR.out.2.1, HR.out.2.2.1, HR.out.2.2.2.1, HR.out.2.2.2.2]

      · have h4 : decide (c = 4096) = false := by simpa using h3
        have h5 : (c == 4096) = false := by simpa using h3
        have HA := Lib.hid (fun w => adjustR_any o d df w (by omega) (by omega))
        by_cases h6 : adE o d df = 0
        · have hb : adB o d df = true := by
            cases x : adB o d df
            · simp [adE, x] at h6
            · rfl
          have HR := Lib.hid (show coO o d s c sl df = o + df ∧ coD o d s c sl df = d ∧ coS o d s c sl df = sl ∧ coC o d s c sl df = c + 1 ∧ coE o d s c sl df = 0 by simp [coO, coD, coS, coC, coE, h1, h2, h3, h6])
          rw [h6, show adO o d df = o + df by simp [adO, hb], show adD o d df = d by simp [adD, hb]] at HA
          clear h6 hb h2 h1 h3
          go_enter Try.func49, Try.ntmps49
          go_wp2_with fail
          rw [← HW.out]
          refine (HA.out _).mono ?_
          rintro e w1 ⟨rfl, f1⟩
          have HF1 := Lib.hid (HF0.out.noTrans f1)
          have HB1 := Lib.hid (f1.blk HB0.out (fun h => h))
          have c0_1 := f1.keepc c0_0
          have c1_1 := f1.keepc c1_0
          have c2_1 := f1.keepc c2_0
          have c3_1 := f1.keepc c3_0
          obtain ⟨r0_1, r1_1, r2_1, r3_1, g0_1, g1_1, g2_1, g3_1⟩ := four_cells HB1.out
          have hltr1 := World.block_lt_of_cell? _ _ r0_1
          have hltc1 := World.block_lt_of_cell? _ _ c0_1
          clear f1 c0_0 c1_0 c2_0 c3_0 r0_0 r1_0 r2_0 r3_0 g0_0 g1_0 g2_0 g3_0
          go_wp2_with fail
          obtain ⟨z0, z1, z2, z3, -⟩ := four_cells (alloc_keeps (set_four HB1.out (.int .i64 (o + df)) (.int .i64 (d)) (.int .i64 (sl)) (.int .i64 (c + 1))) (.cells #[.int .i64 (o + df), .int .i64 (d)] 23 (0, 0)))
          refine bodyPost_ret (v := .tuple #[.agg #[.int .i64 (o + df), .int .i64 (d), .int .i64 (sl), .int .i64 (c + 1)], .int .i64 (0)]) (by simp [results, Try.results49, go_sem, z0, z1, z2, z3]) rfl ⟨?_, (set_four_fr HF1.out (by simp) _ _ _ _).alloc _⟩
          rw [HR.out.1, HR.out.2.1, HR.out.2.2.1, HR.out.2.2.2.1, HR.out.2.2.2.2]

        · have HR := Lib.hid (show coO o d s c sl df = 0 ∧ coD o d s c sl df = 0 ∧ coS o d s c sl df = 0 ∧ coC o d s c sl df = 0 ∧ coE o d s c sl df = adE o d df by simp [coO, coD, coS, coC, coE, h1, h2, h3, h6])
          generalize adO o d df = xo at *
          generalize adD o d df = xd at *
          generalize adE o d df = r at *
          have hr2 : (r == 0) = false := by simpa using h6
          clear h6 h2 h1 h3
          go_enter Try.func49, Try.ntmps49
          go_wp2_with fail
          rw [← HW.out]
          refine (HA.out _).mono ?_
          rintro e w1 ⟨rfl, f1⟩
          have HF1 := Lib.hid (HF0.out.noTrans f1)
          have HB1 := Lib.hid (f1.blk HB0.out (fun h => h))
          have c0_1 := f1.keepc c0_0
          have c1_1 := f1.keepc c1_0
          have c2_1 := f1.keepc c2_0
          have c3_1 := f1.keepc c3_0
          obtain ⟨r0_1, r1_1, r2_1, r3_1, g0_1, g1_1, g2_1, g3_1⟩ := four_cells HB1.out
          have hltr1 := World.block_lt_of_cell? _ _ r0_1
          have hltc1 := World.block_lt_of_cell? _ _ c0_1
          clear f1 c0_0 c1_0 c2_0 c3_0 r0_0 r1_0 r2_0 r3_0 g0_0 g1_0 g2_0 g3_0
          go_wp2_with fail
          obtain ⟨z0, z1, z2, z3, -⟩ := four_cells (alloc_keeps (set_four HB1.out (.int .i64 (0)) (.int .i64 (0)) (.int .i64 (0)) (.int .i64 (0))) (.cells #[.int .i64 (xo), .int .i64 (xd)] 23 (0, 0)))
          refine bodyPost_ret (v := .tuple #[.agg #[.int .i64 (0), .int .i64 (0), .int .i64 (0), .int .i64 (0)], .int .i64 (r)]) (by simp [results, Try.results49, go_sem, z0, z1, z2, z3]) rfl ⟨?_, (set_four_fr HF1.out (by simp) _ _ _ _).alloc _⟩
          rw [HR.out.1, HR.out.2.1, HR.out.2.2.1, HR.out.2.2.2.1, HR.out.2.2.2.2]


end Go.Proofs.Ytmkmefcafpgphaa
