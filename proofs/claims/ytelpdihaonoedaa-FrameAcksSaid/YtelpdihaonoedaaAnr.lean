/- The document's Answers and For. -/
import Derived.Test.YtelpdihaonoedaaAcr
namespace Go.Proofs.Ytelpdihaonoedaa
open Go.RowKit
set_option linter.unusedVariables false
set_option maxRecDepth 20000

theorem eqF_symm (x y : Frm) : eqF x y = eqF y x := by
  cases h : eqF x y
  · cases h2 : eqF y x
    · rfl
    · rw [eqF_eq h2, eqF_refl] at h; cases h
  · rw [eqF_eq h, eqF_refl]
theorem ns_true {x y : Frm} (h : nsB x y = true) : okF y = true ∧ y.k = 2 := by
  simp only [nsB, Bool.and_eq_true, beq_iff_eq] at h
  obtain ⟨h1, h2⟩ := h
  obtain ⟨a1, a2, a3, a4, a5⟩ := acE_0 h1
  have e := eqF_eq h2
  rw [a5] at e
  constructor
  · rw [e]; exact ak_ok a1 a2 a3 a4
  · rw [e]; rfl
set_option maxHeartbeats 4000000 in
theorem answersr_any (x y : Frm) (w : World) : Calls Try.prog 25 #[.agg (frA x), .agg (frA y)] w fun e w' => e = .returned (.bool (nsB x y)) ∧ Fr no w w' := by
  have HV := Lib.hid (fun w => ckr_any y w)
  have HA := Lib.hid (fun w => ackr_any x y.l y.e w)
  have HE := eql_frame (acV x y.l y.e) y
  cases hok : okF y
  · have hn : nsB x y = false := by
      rw [Bool.eq_false_iff]; intro hh; rw [(ns_true hh).1] at hok; cases hok
    rw [hn]
    rw [hok] at HV
    clear hok hn HA HE
    obtain ⟨k, s, t, l, q, f, n, e, sl, r, ep, d⟩ := x
    obtain ⟨k1, s1, t1, l1, q1, f1, n1, e1, sl1, r1, ep1, d1⟩ := y
    simp only [frA] at HV ⊢
    obtain ⟨w0, hW⟩ : ∃ w0, w0 = (w.alloc (.cells #[.int .i64 k, .int .i64 s, .int .i64 t, .int .i64 l, .int .i64 q, .int .i64 f, .int .i64 n, .int .i64 e, .int .i64 sl, .int .i64 r, .int .i64 ep, .string d] 23 (0, 0))).alloc (.cells #[.int .i64 k1, .int .i64 s1, .int .i64 t1, .int .i64 l1, .int .i64 q1, .int .i64 f1, .int .i64 n1, .int .i64 e1, .int .i64 sl1, .int .i64 r1, .int .i64 ep1, .string d1] 23 (0, 0)) := ⟨_, rfl⟩
    have hBc : w0.heap[w.heap.size]? = some (.cells #[.int .i64 k, .int .i64 s, .int .i64 t, .int .i64 l, .int .i64 q, .int .i64 f, .int .i64 n, .int .i64 e, .int .i64 sl, .int .i64 r, .int .i64 ep, .string d] 23 (0, 0)) := by rw [hW]; exact alloc_keeps (heap_alloc_new w _) _
    have Hc0 := Lib.hid hBc
    have hBz : w0.heap[w.heap.size + 1]? = some (.cells #[.int .i64 k1, .int .i64 s1, .int .i64 t1, .int .i64 l1, .int .i64 q1, .int .i64 f1, .int .i64 n1, .int .i64 e1, .int .i64 sl1, .int .i64 r1, .int .i64 ep1, .string d1] 23 (0, 0)) := by rw [hW]; simpa using heap_alloc_new (w.alloc (.cells #[.int .i64 k, .int .i64 s, .int .i64 t, .int .i64 l, .int .i64 q, .int .i64 f, .int .i64 n, .int .i64 e, .int .i64 sl, .int .i64 r, .int .i64 ep, .string d] 23 (0, 0))) _
    have Hz0 := Lib.hid hBz
    have HF0 := Lib.hid (show Fr no w w0 by rw [hW]; exact ((Fr.refl no w).alloc _).alloc _)
    have HW := Lib.hid hW
    obtain ⟨c0, c1, c2, c3, c4, c5, c6, c7, c8, c9, c10, c11⟩ := twelve_cells Hc0.out
    obtain ⟨z0, z1, z2, z3, z4, z5, z6, z7, z8, z9, z10, z11⟩ := twelve_cells Hz0.out
    clear hW hBc hBz
    go_enter Try.func25, Try.ntmps25
    go_wp2_with fail
    rw [← HW.out]
    go_wp2_with fail
    refine (HV.out _).mono ?_
    rintro e1 w1 ⟨rfl, f1⟩
    have HF1 := Lib.hid (HF0.out.noTrans f1)
    have Hc1 := Lib.hid (f1.blk Hc0.out (fun h => h))
    have Hz1 := Lib.hid (f1.blk Hz0.out (fun h => h))
    clear f1
    clear c0 c1 c2 c3 c4 c5 c6 c7 c8 c9 c10 c11 z0 z1 z2 z3 z4 z5 z6 z7 z8 z9 z10 z11
    obtain ⟨c0, c1, c2, c3, c4, c5, c6, c7, c8, c9, c10, c11⟩ := twelve_cells Hc1.out
    obtain ⟨z0, z1, z2, z3, z4, z5, z6, z7, z8, z9, z10, z11⟩ := twelve_cells Hz1.out
    go_wp2_with fail
    go_ret
    exact ⟨rfl, HF1.out⟩
  · rw [hok] at HV
    rcases (Decidable.em (y.k = 2)).symm with hk | hk
    · have hn : nsB x y = false := by
        rw [Bool.eq_false_iff]; intro hh; exact hk (ns_true hh).2
      rw [hn]
      have hk2 : (y.k != 2) = true := by simp [hk]
      clear hok hn HA HE hk
      obtain ⟨k, s, t, l, q, f, n, e, sl, r, ep, d⟩ := x
      obtain ⟨k1, s1, t1, l1, q1, f1, n1, e1, sl1, r1, ep1, d1⟩ := y
      simp only at hk2
      simp only [frA] at HV ⊢
      obtain ⟨w0, hW⟩ : ∃ w0, w0 = (w.alloc (.cells #[.int .i64 k, .int .i64 s, .int .i64 t, .int .i64 l, .int .i64 q, .int .i64 f, .int .i64 n, .int .i64 e, .int .i64 sl, .int .i64 r, .int .i64 ep, .string d] 23 (0, 0))).alloc (.cells #[.int .i64 k1, .int .i64 s1, .int .i64 t1, .int .i64 l1, .int .i64 q1, .int .i64 f1, .int .i64 n1, .int .i64 e1, .int .i64 sl1, .int .i64 r1, .int .i64 ep1, .string d1] 23 (0, 0)) := ⟨_, rfl⟩
      have hBc : w0.heap[w.heap.size]? = some (.cells #[.int .i64 k, .int .i64 s, .int .i64 t, .int .i64 l, .int .i64 q, .int .i64 f, .int .i64 n, .int .i64 e, .int .i64 sl, .int .i64 r, .int .i64 ep, .string d] 23 (0, 0)) := by rw [hW]; exact alloc_keeps (heap_alloc_new w _) _
      have Hc0 := Lib.hid hBc
      have hBz : w0.heap[w.heap.size + 1]? = some (.cells #[.int .i64 k1, .int .i64 s1, .int .i64 t1, .int .i64 l1, .int .i64 q1, .int .i64 f1, .int .i64 n1, .int .i64 e1, .int .i64 sl1, .int .i64 r1, .int .i64 ep1, .string d1] 23 (0, 0)) := by rw [hW]; simpa using heap_alloc_new (w.alloc (.cells #[.int .i64 k, .int .i64 s, .int .i64 t, .int .i64 l, .int .i64 q, .int .i64 f, .int .i64 n, .int .i64 e, .int .i64 sl, .int .i64 r, .int .i64 ep, .string d] 23 (0, 0))) _
      have Hz0 := Lib.hid hBz
      have HF0 := Lib.hid (show Fr no w w0 by rw [hW]; exact ((Fr.refl no w).alloc _).alloc _)
      have HW := Lib.hid hW
      obtain ⟨c0, c1, c2, c3, c4, c5, c6, c7, c8, c9, c10, c11⟩ := twelve_cells Hc0.out
      obtain ⟨z0, z1, z2, z3, z4, z5, z6, z7, z8, z9, z10, z11⟩ := twelve_cells Hz0.out
      clear hW hBc hBz
      go_enter Try.func25, Try.ntmps25
      go_wp2_with fail
      rw [← HW.out]
      go_wp2_with fail
      refine (HV.out _).mono ?_
      rintro e1 w1 ⟨rfl, f1⟩
      have HF1 := Lib.hid (HF0.out.noTrans f1)
      have Hc1 := Lib.hid (f1.blk Hc0.out (fun h => h))
      have Hz1 := Lib.hid (f1.blk Hz0.out (fun h => h))
      clear f1
      clear c0 c1 c2 c3 c4 c5 c6 c7 c8 c9 c10 c11 z0 z1 z2 z3 z4 z5 z6 z7 z8 z9 z10 z11
      obtain ⟨c0, c1, c2, c3, c4, c5, c6, c7, c8, c9, c10, c11⟩ := twelve_cells Hc1.out
      obtain ⟨z0, z1, z2, z3, z4, z5, z6, z7, z8, z9, z10, z11⟩ := twelve_cells Hz1.out
      go_wp2_with fail
      go_ret
      exact ⟨rfl, HF1.out⟩
    · have hb : nsB x y = (acE x y.l y.e == 0 && eqF (acV x y.l y.e) y) := by rw [eqF_symm]; rfl
      rw [hb]
      clear hb hok
      generalize eqF (acV x y.l y.e) y = B at *
      generalize acV x y.l y.e = z at *
      generalize acE x y.l y.e = E at *
      obtain ⟨k, s, t, l, q, f, n, e, sl, r, ep, d⟩ := x
      obtain ⟨k1, s1, t1, l1, q1, f1, n1, e1, sl1, r1, ep1, d1⟩ := y
      obtain ⟨k2, s2, t2, l2, q2, f2, n2, e2, sl2, r2, ep2, d2⟩ := z
      simp only at hk
      subst hk
      simp only [frA] at HV HA HE ⊢
      by_cases h0 : E = 0
      · subst h0
        obtain ⟨w0, hW⟩ : ∃ w0, w0 = (w.alloc (.cells #[.int .i64 k, .int .i64 s, .int .i64 t, .int .i64 l, .int .i64 q, .int .i64 f, .int .i64 n, .int .i64 e, .int .i64 sl, .int .i64 r, .int .i64 ep, .string d] 23 (0, 0))).alloc (.cells #[.int .i64 2, .int .i64 s1, .int .i64 t1, .int .i64 l1, .int .i64 q1, .int .i64 f1, .int .i64 n1, .int .i64 e1, .int .i64 sl1, .int .i64 r1, .int .i64 ep1, .string d1] 23 (0, 0)) := ⟨_, rfl⟩
        have hBc : w0.heap[w.heap.size]? = some (.cells #[.int .i64 k, .int .i64 s, .int .i64 t, .int .i64 l, .int .i64 q, .int .i64 f, .int .i64 n, .int .i64 e, .int .i64 sl, .int .i64 r, .int .i64 ep, .string d] 23 (0, 0)) := by rw [hW]; exact alloc_keeps (heap_alloc_new w _) _
        have Hc0 := Lib.hid hBc
        have hBz : w0.heap[w.heap.size + 1]? = some (.cells #[.int .i64 2, .int .i64 s1, .int .i64 t1, .int .i64 l1, .int .i64 q1, .int .i64 f1, .int .i64 n1, .int .i64 e1, .int .i64 sl1, .int .i64 r1, .int .i64 ep1, .string d1] 23 (0, 0)) := by rw [hW]; simpa using heap_alloc_new (w.alloc (.cells #[.int .i64 k, .int .i64 s, .int .i64 t, .int .i64 l, .int .i64 q, .int .i64 f, .int .i64 n, .int .i64 e, .int .i64 sl, .int .i64 r, .int .i64 ep, .string d] 23 (0, 0))) _
        have Hz0 := Lib.hid hBz
        have HF0 := Lib.hid (show Fr no w w0 by rw [hW]; exact ((Fr.refl no w).alloc _).alloc _)
        have HW := Lib.hid hW
        obtain ⟨c0, c1, c2, c3, c4, c5, c6, c7, c8, c9, c10, c11⟩ := twelve_cells Hc0.out
        obtain ⟨z0, z1, z2, z3, z4, z5, z6, z7, z8, z9, z10, z11⟩ := twelve_cells Hz0.out
        clear hW hBc hBz
        go_enter Try.func25, Try.ntmps25
        go_wp2_with fail
        rw [← HW.out]
        go_wp2_with fail
        refine (HV.out _).mono ?_
        rintro e1 w1 ⟨rfl, f1⟩
        have HF1 := Lib.hid (HF0.out.noTrans f1)
        have Hc1 := Lib.hid (f1.blk Hc0.out (fun h => h))
        have Hz1 := Lib.hid (f1.blk Hz0.out (fun h => h))
        clear f1
        clear c0 c1 c2 c3 c4 c5 c6 c7 c8 c9 c10 c11 z0 z1 z2 z3 z4 z5 z6 z7 z8 z9 z10 z11
        obtain ⟨c0, c1, c2, c3, c4, c5, c6, c7, c8, c9, c10, c11⟩ := twelve_cells Hc1.out
        obtain ⟨z0, z1, z2, z3, z4, z5, z6, z7, z8, z9, z10, z11⟩ := twelve_cells Hz1.out
        go_wp2_with fail
        refine (HA.out _).mono ?_
        rintro e2 w2 ⟨rfl, f2⟩
        have HF2 := Lib.hid (HF1.out.noTrans f2)
        have Hc2 := Lib.hid (f2.blk Hc1.out (fun h => h))
        have Hz2 := Lib.hid (f2.blk Hz1.out (fun h => h))
        clear f2
        clear c0 c1 c2 c3 c4 c5 c6 c7 c8 c9 c10 c11 z0 z1 z2 z3 z4 z5 z6 z7 z8 z9 z10 z11
        obtain ⟨c0, c1, c2, c3, c4, c5, c6, c7, c8, c9, c10, c11⟩ := twelve_cells Hc2.out
        obtain ⟨z0, z1, z2, z3, z4, z5, z6, z7, z8, z9, z10, z11⟩ := twelve_cells Hz2.out
        have ltc2 := World.block_lt_of_cell? w2 _ c0
        have ltz2 := World.block_lt_of_cell? w2 _ z0
        go_wp2_with fail
        go_ret
        exact ⟨by simp, HF2.out.alloc _⟩
      · have h1 : (E == 0) = false := by simpa using h0
        have h2 : decide (E = 0) = false := by simpa using h0
        clear h0
        obtain ⟨w0, hW⟩ : ∃ w0, w0 = (w.alloc (.cells #[.int .i64 k, .int .i64 s, .int .i64 t, .int .i64 l, .int .i64 q, .int .i64 f, .int .i64 n, .int .i64 e, .int .i64 sl, .int .i64 r, .int .i64 ep, .string d] 23 (0, 0))).alloc (.cells #[.int .i64 2, .int .i64 s1, .int .i64 t1, .int .i64 l1, .int .i64 q1, .int .i64 f1, .int .i64 n1, .int .i64 e1, .int .i64 sl1, .int .i64 r1, .int .i64 ep1, .string d1] 23 (0, 0)) := ⟨_, rfl⟩
        have hBc : w0.heap[w.heap.size]? = some (.cells #[.int .i64 k, .int .i64 s, .int .i64 t, .int .i64 l, .int .i64 q, .int .i64 f, .int .i64 n, .int .i64 e, .int .i64 sl, .int .i64 r, .int .i64 ep, .string d] 23 (0, 0)) := by rw [hW]; exact alloc_keeps (heap_alloc_new w _) _
        have Hc0 := Lib.hid hBc
        have hBz : w0.heap[w.heap.size + 1]? = some (.cells #[.int .i64 2, .int .i64 s1, .int .i64 t1, .int .i64 l1, .int .i64 q1, .int .i64 f1, .int .i64 n1, .int .i64 e1, .int .i64 sl1, .int .i64 r1, .int .i64 ep1, .string d1] 23 (0, 0)) := by rw [hW]; simpa using heap_alloc_new (w.alloc (.cells #[.int .i64 k, .int .i64 s, .int .i64 t, .int .i64 l, .int .i64 q, .int .i64 f, .int .i64 n, .int .i64 e, .int .i64 sl, .int .i64 r, .int .i64 ep, .string d] 23 (0, 0))) _
        have Hz0 := Lib.hid hBz
        have HF0 := Lib.hid (show Fr no w w0 by rw [hW]; exact ((Fr.refl no w).alloc _).alloc _)
        have HW := Lib.hid hW
        obtain ⟨c0, c1, c2, c3, c4, c5, c6, c7, c8, c9, c10, c11⟩ := twelve_cells Hc0.out
        obtain ⟨z0, z1, z2, z3, z4, z5, z6, z7, z8, z9, z10, z11⟩ := twelve_cells Hz0.out
        clear hW hBc hBz
        go_enter Try.func25, Try.ntmps25
        go_wp2_with fail
        rw [← HW.out]
        go_wp2_with fail
        refine (HV.out _).mono ?_
        rintro e1 w1 ⟨rfl, f1⟩
        have HF1 := Lib.hid (HF0.out.noTrans f1)
        have Hc1 := Lib.hid (f1.blk Hc0.out (fun h => h))
        have Hz1 := Lib.hid (f1.blk Hz0.out (fun h => h))
        clear f1
        clear c0 c1 c2 c3 c4 c5 c6 c7 c8 c9 c10 c11 z0 z1 z2 z3 z4 z5 z6 z7 z8 z9 z10 z11
        obtain ⟨c0, c1, c2, c3, c4, c5, c6, c7, c8, c9, c10, c11⟩ := twelve_cells Hc1.out
        obtain ⟨z0, z1, z2, z3, z4, z5, z6, z7, z8, z9, z10, z11⟩ := twelve_cells Hz1.out
        go_wp2_with fail
        refine (HA.out _).mono ?_
        rintro e2 w2 ⟨rfl, f2⟩
        have HF2 := Lib.hid (HF1.out.noTrans f2)
        have Hc2 := Lib.hid (f2.blk Hc1.out (fun h => h))
        have Hz2 := Lib.hid (f2.blk Hz1.out (fun h => h))
        clear f2
        clear c0 c1 c2 c3 c4 c5 c6 c7 c8 c9 c10 c11 z0 z1 z2 z3 z4 z5 z6 z7 z8 z9 z10 z11
        obtain ⟨c0, c1, c2, c3, c4, c5, c6, c7, c8, c9, c10, c11⟩ := twelve_cells Hc2.out
        obtain ⟨z0, z1, z2, z3, z4, z5, z6, z7, z8, z9, z10, z11⟩ := twelve_cells Hz2.out
        have ltc2 := World.block_lt_of_cell? w2 _ c0
        have ltz2 := World.block_lt_of_cell? w2 _ z0
        go_wp2_with fail
        go_ret
        exact ⟨by simp [h1], HF2.out.alloc _⟩
set_option maxHeartbeats 4000000 in
theorem forr_any (x : Frm) (m : Int) (w : World) : Calls Try.prog 27 #[.agg (frA x), .int .i64 m] w fun e w' => e = .returned (.bool (foB x m)) ∧ Fr no w w' := by
  have HV := Lib.hid (fun w => ckr_any x w)
  have HN := Lib.hid (fun w => withinR_any m 31 w)
  cases hok : okF x
  · have hb : foB x m = false := by simp [foB, hok]
    rw [hb]
    rw [hok] at HV
    clear hok hb HN
    obtain ⟨k, s, t, l, q, f, n, e, sl, r, ep, d⟩ := x
    simp only [frA] at HV ⊢
    obtain ⟨w0, hW⟩ : ∃ w0, w0 = w.alloc (.cells #[.int .i64 k, .int .i64 s, .int .i64 t, .int .i64 l, .int .i64 q, .int .i64 f, .int .i64 n, .int .i64 e, .int .i64 sl, .int .i64 r, .int .i64 ep, .string d] 23 (0, 0)) := ⟨_, rfl⟩
    have hBc : w0.heap[w.heap.size]? = some (.cells #[.int .i64 k, .int .i64 s, .int .i64 t, .int .i64 l, .int .i64 q, .int .i64 f, .int .i64 n, .int .i64 e, .int .i64 sl, .int .i64 r, .int .i64 ep, .string d] 23 (0, 0)) := by rw [hW]; exact heap_alloc_new w _
    have Hc0 := Lib.hid hBc
    have HF0 := Lib.hid (show Fr no w w0 by rw [hW]; exact (Fr.refl no w).alloc _)
    have HW := Lib.hid hW
    obtain ⟨c0, c1, c2, c3, c4, c5, c6, c7, c8, c9, c10, c11⟩ := twelve_cells Hc0.out
    clear hW hBc
    go_enter Try.func27, Try.ntmps27
    go_wp2_with fail
    rw [← HW.out]
    go_wp2_with fail
    refine (HV.out _).mono ?_
    rintro e1 w1 ⟨rfl, f1⟩
    have HF1 := Lib.hid (HF0.out.noTrans f1)
    have Hc1 := Lib.hid (f1.blk Hc0.out (fun h => h))
    clear f1
    clear c0 c1 c2 c3 c4 c5 c6 c7 c8 c9 c10 c11
    obtain ⟨c0, c1, c2, c3, c4, c5, c6, c7, c8, c9, c10, c11⟩ := twelve_cells Hc1.out
    go_wp2_with fail
    go_ret
    exact ⟨rfl, HF1.out⟩
  · have hp := okF_parts hok
    have ha := adB_parts hp.2.2.1
    have hb : foB x m = if inR m 0 31 then (if x.t = -1 then m != x.s else m == x.t) else false := by simp [foB, hok]
    rw [hb]
    rw [hok] at HV
    clear hok hb hp
    obtain ⟨k, s, t, l, q, f, n, e, sl, r, ep, d⟩ := x
    simp only at ha
    obtain ⟨a1, a2, -, -⟩ := ha
    simp only [frA] at HV ⊢
    by_cases h1 : t = m
    · subst h1
      by_cases h2 : 0 ≤ t
      · have hr : (if inR t 0 31 then (if t = -1 then t != s else t == t) else false) = true := by rw [inR_t.2 ⟨h2, a2.2⟩, if_pos rfl, if_neg (by omega)]; simp
        rw [hr]
        clear hr HN
        obtain ⟨w0, hW⟩ : ∃ w0, w0 = w.alloc (.cells #[.int .i64 k, .int .i64 s, .int .i64 t, .int .i64 l, .int .i64 q, .int .i64 f, .int .i64 n, .int .i64 e, .int .i64 sl, .int .i64 r, .int .i64 ep, .string d] 23 (0, 0)) := ⟨_, rfl⟩
        have hBc : w0.heap[w.heap.size]? = some (.cells #[.int .i64 k, .int .i64 s, .int .i64 t, .int .i64 l, .int .i64 q, .int .i64 f, .int .i64 n, .int .i64 e, .int .i64 sl, .int .i64 r, .int .i64 ep, .string d] 23 (0, 0)) := by rw [hW]; exact heap_alloc_new w _
        have Hc0 := Lib.hid hBc
        have HF0 := Lib.hid (show Fr no w w0 by rw [hW]; exact (Fr.refl no w).alloc _)
        have HW := Lib.hid hW
        obtain ⟨c0, c1, c2, c3, c4, c5, c6, c7, c8, c9, c10, c11⟩ := twelve_cells Hc0.out
        clear hW hBc
        go_enter Try.func27, Try.ntmps27
        go_wp2_with fail
        rw [← HW.out]
        go_wp2_with fail
        refine (HV.out _).mono ?_
        rintro e1 w1 ⟨rfl, f1⟩
        have HF1 := Lib.hid (HF0.out.noTrans f1)
        have Hc1 := Lib.hid (f1.blk Hc0.out (fun h => h))
        clear f1
        clear c0 c1 c2 c3 c4 c5 c6 c7 c8 c9 c10 c11
        obtain ⟨c0, c1, c2, c3, c4, c5, c6, c7, c8, c9, c10, c11⟩ := twelve_cells Hc1.out
        go_wp2_with fail
        go_ret
        exact ⟨rfl, HF1.out⟩
      · have h3 : t = -1 := by omega
        subst h3
        have hr : inR (-1) 0 31 = false := by decide
        rw [hr] at HN ⊢
        have h4 : (s != -1) = true := by simp; omega
        clear hr h2
        obtain ⟨w0, hW⟩ : ∃ w0, w0 = w.alloc (.cells #[.int .i64 k, .int .i64 s, .int .i64 (-1), .int .i64 l, .int .i64 q, .int .i64 f, .int .i64 n, .int .i64 e, .int .i64 sl, .int .i64 r, .int .i64 ep, .string d] 23 (0, 0)) := ⟨_, rfl⟩
        have hBc : w0.heap[w.heap.size]? = some (.cells #[.int .i64 k, .int .i64 s, .int .i64 (-1), .int .i64 l, .int .i64 q, .int .i64 f, .int .i64 n, .int .i64 e, .int .i64 sl, .int .i64 r, .int .i64 ep, .string d] 23 (0, 0)) := by rw [hW]; exact heap_alloc_new w _
        have Hc0 := Lib.hid hBc
        have HF0 := Lib.hid (show Fr no w w0 by rw [hW]; exact (Fr.refl no w).alloc _)
        have HW := Lib.hid hW
        obtain ⟨c0, c1, c2, c3, c4, c5, c6, c7, c8, c9, c10, c11⟩ := twelve_cells Hc0.out
        clear hW hBc
        go_enter Try.func27, Try.ntmps27
        go_wp2_with fail
        rw [← HW.out]
        go_wp2_with fail
        refine (HV.out _).mono ?_
        rintro e1 w1 ⟨rfl, f1⟩
        have HF1 := Lib.hid (HF0.out.noTrans f1)
        have Hc1 := Lib.hid (f1.blk Hc0.out (fun h => h))
        clear f1
        clear c0 c1 c2 c3 c4 c5 c6 c7 c8 c9 c10 c11
        obtain ⟨c0, c1, c2, c3, c4, c5, c6, c7, c8, c9, c10, c11⟩ := twelve_cells Hc1.out
        go_wp2_with fail
        refine (HN.out _).mono ?_
        rintro e2 w2 ⟨rfl, rfl⟩
        go_wp2_with fail
        go_ret
        exact ⟨by simp, HF1.out⟩
    · have h1b : (t == m) = false := by simpa using h1
      by_cases h2 : t = -1
      · subst h2
        by_cases h3 : s = m
        · subst h3
          have hr : (if inR s 0 31 then (if (-1 : Int) = -1 then s != s else s == -1) else false) = false := by simp
          rw [hr]
          clear hr HN
          obtain ⟨w0, hW⟩ : ∃ w0, w0 = w.alloc (.cells #[.int .i64 k, .int .i64 s, .int .i64 (-1), .int .i64 l, .int .i64 q, .int .i64 f, .int .i64 n, .int .i64 e, .int .i64 sl, .int .i64 r, .int .i64 ep, .string d] 23 (0, 0)) := ⟨_, rfl⟩
          have hBc : w0.heap[w.heap.size]? = some (.cells #[.int .i64 k, .int .i64 s, .int .i64 (-1), .int .i64 l, .int .i64 q, .int .i64 f, .int .i64 n, .int .i64 e, .int .i64 sl, .int .i64 r, .int .i64 ep, .string d] 23 (0, 0)) := by rw [hW]; exact heap_alloc_new w _
          have Hc0 := Lib.hid hBc
          have HF0 := Lib.hid (show Fr no w w0 by rw [hW]; exact (Fr.refl no w).alloc _)
          have HW := Lib.hid hW
          obtain ⟨c0, c1, c2, c3, c4, c5, c6, c7, c8, c9, c10, c11⟩ := twelve_cells Hc0.out
          clear hW hBc
          go_enter Try.func27, Try.ntmps27
          go_wp2_with fail
          rw [← HW.out]
          go_wp2_with fail
          refine (HV.out _).mono ?_
          rintro e1 w1 ⟨rfl, f1⟩
          have HF1 := Lib.hid (HF0.out.noTrans f1)
          have Hc1 := Lib.hid (f1.blk Hc0.out (fun h => h))
          clear f1
          clear c0 c1 c2 c3 c4 c5 c6 c7 c8 c9 c10 c11
          obtain ⟨c0, c1, c2, c3, c4, c5, c6, c7, c8, c9, c10, c11⟩ := twelve_cells Hc1.out
          go_wp2_with fail
          go_ret
          exact ⟨rfl, HF1.out⟩
        · have h3b : (s != m) = true := by simp [h3]
          have hr : (if inR m 0 31 then (if (-1 : Int) = -1 then m != s else m == -1) else false) = inR m 0 31 := by
            have : (m != s) = true := by simp; omega
            rw [if_pos rfl, this]; simp
          rw [hr]
          clear hr
          generalize inR m 0 31 = B at *
          obtain ⟨w0, hW⟩ : ∃ w0, w0 = w.alloc (.cells #[.int .i64 k, .int .i64 s, .int .i64 (-1), .int .i64 l, .int .i64 q, .int .i64 f, .int .i64 n, .int .i64 e, .int .i64 sl, .int .i64 r, .int .i64 ep, .string d] 23 (0, 0)) := ⟨_, rfl⟩
          have hBc : w0.heap[w.heap.size]? = some (.cells #[.int .i64 k, .int .i64 s, .int .i64 (-1), .int .i64 l, .int .i64 q, .int .i64 f, .int .i64 n, .int .i64 e, .int .i64 sl, .int .i64 r, .int .i64 ep, .string d] 23 (0, 0)) := by rw [hW]; exact heap_alloc_new w _
          have Hc0 := Lib.hid hBc
          have HF0 := Lib.hid (show Fr no w w0 by rw [hW]; exact (Fr.refl no w).alloc _)
          have HW := Lib.hid hW
          obtain ⟨c0, c1, c2, c3, c4, c5, c6, c7, c8, c9, c10, c11⟩ := twelve_cells Hc0.out
          clear hW hBc
          go_enter Try.func27, Try.ntmps27
          go_wp2_with fail
          rw [← HW.out]
          go_wp2_with fail
          refine (HV.out _).mono ?_
          rintro e1 w1 ⟨rfl, f1⟩
          have HF1 := Lib.hid (HF0.out.noTrans f1)
          have Hc1 := Lib.hid (f1.blk Hc0.out (fun h => h))
          clear f1
          clear c0 c1 c2 c3 c4 c5 c6 c7 c8 c9 c10 c11
          obtain ⟨c0, c1, c2, c3, c4, c5, c6, c7, c8, c9, c10, c11⟩ := twelve_cells Hc1.out
          go_wp2_with fail
          refine (HN.out _).mono ?_
          rintro e2 w2 ⟨rfl, rfl⟩
          go_wp2_with fail
          go_ret
          exact ⟨by simp, HF1.out⟩
      · have h2b : (t == -1) = false := by simpa using h2
        have hr : (if inR m 0 31 then (if t = -1 then m != s else m == t) else false) = false := by
          have : (m == t) = false := by simp; omega
          rw [if_neg h2, this]; simp
        rw [hr]
        clear hr HN
        obtain ⟨w0, hW⟩ : ∃ w0, w0 = w.alloc (.cells #[.int .i64 k, .int .i64 s, .int .i64 t, .int .i64 l, .int .i64 q, .int .i64 f, .int .i64 n, .int .i64 e, .int .i64 sl, .int .i64 r, .int .i64 ep, .string d] 23 (0, 0)) := ⟨_, rfl⟩
        have hBc : w0.heap[w.heap.size]? = some (.cells #[.int .i64 k, .int .i64 s, .int .i64 t, .int .i64 l, .int .i64 q, .int .i64 f, .int .i64 n, .int .i64 e, .int .i64 sl, .int .i64 r, .int .i64 ep, .string d] 23 (0, 0)) := by rw [hW]; exact heap_alloc_new w _
        have Hc0 := Lib.hid hBc
        have HF0 := Lib.hid (show Fr no w w0 by rw [hW]; exact (Fr.refl no w).alloc _)
        have HW := Lib.hid hW
        obtain ⟨c0, c1, c2, c3, c4, c5, c6, c7, c8, c9, c10, c11⟩ := twelve_cells Hc0.out
        clear hW hBc
        go_enter Try.func27, Try.ntmps27
        go_wp2_with fail
        rw [← HW.out]
        go_wp2_with fail
        refine (HV.out _).mono ?_
        rintro e1 w1 ⟨rfl, f1⟩
        have HF1 := Lib.hid (HF0.out.noTrans f1)
        have Hc1 := Lib.hid (f1.blk Hc0.out (fun h => h))
        clear f1
        clear c0 c1 c2 c3 c4 c5 c6 c7 c8 c9 c10 c11
        obtain ⟨c0, c1, c2, c3, c4, c5, c6, c7, c8, c9, c10, c11⟩ := twelve_cells Hc1.out
        go_wp2_with fail
        go_ret
        exact ⟨rfl, HF1.out⟩
end Go.Proofs.Ytelpdihaonoedaa
