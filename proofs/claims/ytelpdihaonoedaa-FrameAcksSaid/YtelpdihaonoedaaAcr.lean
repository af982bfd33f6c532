/- The document's Ack, Answers, For. -/
import Derived.Test.YtelpdihaonoedaaRka
import Derived.Test.YtelpdihaonoedaaAns
import Derived.Test.YtelpdihaonoedaaLw1
namespace Go.Proofs.Ytelpdihaonoedaa
open Go.RowKit
set_option linter.unusedVariables false
set_option maxRecDepth 20000

set_option maxHeartbeats 4000000 in
theorem ackr_any (x : Frm) (li di : Int) (w : World) : Calls Try.prog 23 #[.agg (frA x), .int .i64 li, .int .i64 di] w fun e w' => e = .returned (.tuple #[.agg (frA (acV x li di)), .int .i64 (acE x li di)]) ∧ Fr no w w' := by
  have HV := Lib.hid (fun w => ckr_any x w)
  have HL := Lib.hid (fun w => withinR_any li 255 w)
  have hy : acV x li di = if okF x && anB x then (if inR li 0 255 && inR di (-32768) 32767 then akF x li di else zeroF) else zeroF := rfl
  have hu : acE x li di = if okF x && anB x then (if inR li 0 255 && inR di (-32768) 32767 then 0 else 2) else 1 := rfl
  rw [hy, hu]
  clear hy hu
  cases hok : okF x
  · rw [hok] at HV
    clear hok HL
    obtain ⟨k, s, t, l, q, f, n, e, sl, r, ep, d⟩ := x
    simp only [frA] at HV ⊢
    obtain ⟨w0, hW⟩ : ∃ w0, w0 = (w.alloc (.cells #[.int .i64 k, .int .i64 s, .int .i64 t, .int .i64 l, .int .i64 q, .int .i64 f, .int .i64 n, .int .i64 e, .int .i64 sl, .int .i64 r, .int .i64 ep, .string d] 23 (0, 0))).alloc (.cells #[.int .i64 0, .int .i64 0, .int .i64 0, .int .i64 0, .int .i64 0, .int .i64 0, .int .i64 0, .int .i64 0, .int .i64 0, .int .i64 0, .int .i64 0, .string ⟨#[]⟩] 23 (0, 0)) := ⟨_, rfl⟩
    have hBc : w0.heap[w.heap.size]? = some (.cells #[.int .i64 k, .int .i64 s, .int .i64 t, .int .i64 l, .int .i64 q, .int .i64 f, .int .i64 n, .int .i64 e, .int .i64 sl, .int .i64 r, .int .i64 ep, .string d] 23 (0, 0)) := by rw [hW]; exact alloc_keeps (heap_alloc_new w _) _
    have Hc0 := Lib.hid hBc
    have hBz : w0.heap[w.heap.size + 1]? = some (.cells #[.int .i64 0, .int .i64 0, .int .i64 0, .int .i64 0, .int .i64 0, .int .i64 0, .int .i64 0, .int .i64 0, .int .i64 0, .int .i64 0, .int .i64 0, .string ⟨#[]⟩] 23 (0, 0)) := by rw [hW]; simpa using heap_alloc_new (w.alloc (.cells #[.int .i64 k, .int .i64 s, .int .i64 t, .int .i64 l, .int .i64 q, .int .i64 f, .int .i64 n, .int .i64 e, .int .i64 sl, .int .i64 r, .int .i64 ep, .string d] 23 (0, 0))) _
    have Hz0 := Lib.hid hBz
    have HF0 := Lib.hid (show Fr no w w0 by rw [hW]; exact ((Fr.refl no w).alloc _).alloc _)
    have HW := Lib.hid hW
    obtain ⟨c0, c1, c2, c3, c4, c5, c6, c7, c8, c9, c10, c11⟩ := twelve_cells Hc0.out
    obtain ⟨z0, z1, z2, z3, z4, z5, z6, z7, z8, z9, z10, z11⟩ := twelve_cells Hz0.out
    clear hW hBc hBz
    go_enter Try.func23, Try.ntmps23
    go_wp2_with fail
    rw [← HW.out]
    go_wp2_with fail
    refine (HV.out _).mono ?_
    rintro e1 w1 ⟨rfl, f1⟩
    have HF1 := Lib.hid (HF0.out.noTrans f1)
    have Hc1 := Lib.hid (f1.blk Hc0.out (fun h => h))
    have Hz1 := Lib.hid (f1.blk Hz0.out (fun h => h))
    clear f1
    clear c0 c1 c2 c3 c4 c5 c6 c7 c8 c9 c10 c11 z0 z1 z2 z3 z4 z5 z6 z7 z8 z9 z10 z11
    obtain ⟨c0, c1, c2, c3, c4, c5, c6, c7, c8, c9, c10, c11⟩ := twelve_cells Hc1.out
    obtain ⟨z0, z1, z2, z3, z4, z5, z6, z7, z8, z9, z10, z11⟩ := twelve_cells Hz1.out
    have zf1 := fun i => (show w1.frozen? ⟨w.heap.size + 1, i, none⟩ = false by simp [World.frozen?, Hz1.out])
    go_wp2_with fail
    all_goals refine bodyPost_ret (v := .tuple #[.agg #[.int .i64 0, .int .i64 0, .int .i64 0, .int .i64 0, .int .i64 0, .int .i64 0, .int .i64 0, .int .i64 0, .int .i64 0, .int .i64 0, .int .i64 0, .string ⟨#[]⟩], .int .i64 1]) (by simp [results, Try.results23, go_sem, z0, z1, z2, z3, z4, z5, z6, z7, z8, z9, z10, z11]) rfl ?_
    all_goals exact ⟨by simp [zeroF], fr12 HF1.out (Nat.le_succ _) _ _ _ _ _ _ _ _ _ _ _ _⟩
  · rw [hok] at HV
    have hp := okF_parts hok
    have ha := adB_parts hp.2.2.1
    have hk := hp.1
    clear hok hp
    obtain ⟨k, s, t, l, q, f, n, e, sl, r, ep, d⟩ := x
    simp only at ha hk
    have HAN := Lib.hid (show anB ⟨k, s, t, l, q, f, n, e, sl, r, ep, d⟩ = (t != -1 && k != 2) from rfl)
    rw [HAN.out]
    clear HAN
    simp only [frA] at HV ⊢
    rcases (show k = 2 ∨ k = 3 ∨ (k = 4 ∧ t = -1) ∨ ((k = 1 ∨ k = 4) ∧ ¬ t = -1) by omega) with rfl | rfl | ⟨rfl, rfl⟩ | ⟨hk2, ht⟩
    · have ht0 : True := trivial
      have ht3 : ¬ t = -1 := fun e => by have := ha.2.2.1 e; omega
      have ht4 : ¬ t < 0 := by omega
      clear ha hk HL
      obtain ⟨w0, hW⟩ : ∃ w0, w0 = (w.alloc (.cells #[.int .i64 2, .int .i64 s, .int .i64 t, .int .i64 l, .int .i64 q, .int .i64 f, .int .i64 n, .int .i64 e, .int .i64 sl, .int .i64 r, .int .i64 ep, .string d] 23 (0, 0))).alloc (.cells #[.int .i64 0, .int .i64 0, .int .i64 0, .int .i64 0, .int .i64 0, .int .i64 0, .int .i64 0, .int .i64 0, .int .i64 0, .int .i64 0, .int .i64 0, .string ⟨#[]⟩] 23 (0, 0)) := ⟨_, rfl⟩
      have hBc : w0.heap[w.heap.size]? = some (.cells #[.int .i64 2, .int .i64 s, .int .i64 t, .int .i64 l, .int .i64 q, .int .i64 f, .int .i64 n, .int .i64 e, .int .i64 sl, .int .i64 r, .int .i64 ep, .string d] 23 (0, 0)) := by rw [hW]; exact alloc_keeps (heap_alloc_new w _) _
      have Hc0 := Lib.hid hBc
      have hBz : w0.heap[w.heap.size + 1]? = some (.cells #[.int .i64 0, .int .i64 0, .int .i64 0, .int .i64 0, .int .i64 0, .int .i64 0, .int .i64 0, .int .i64 0, .int .i64 0, .int .i64 0, .int .i64 0, .string ⟨#[]⟩] 23 (0, 0)) := by rw [hW]; simpa using heap_alloc_new (w.alloc (.cells #[.int .i64 2, .int .i64 s, .int .i64 t, .int .i64 l, .int .i64 q, .int .i64 f, .int .i64 n, .int .i64 e, .int .i64 sl, .int .i64 r, .int .i64 ep, .string d] 23 (0, 0))) _
      have Hz0 := Lib.hid hBz
      have HF0 := Lib.hid (show Fr no w w0 by rw [hW]; exact ((Fr.refl no w).alloc _).alloc _)
      have HW := Lib.hid hW
      obtain ⟨c0, c1, c2, c3, c4, c5, c6, c7, c8, c9, c10, c11⟩ := twelve_cells Hc0.out
      obtain ⟨z0, z1, z2, z3, z4, z5, z6, z7, z8, z9, z10, z11⟩ := twelve_cells Hz0.out
      clear hW hBc hBz
      go_enter Try.func23, Try.ntmps23
      go_wp2_with fail
      rw [← HW.out]
      go_wp2_with fail
      refine (HV.out _).mono ?_
      rintro e1 w1 ⟨rfl, f1⟩
      have HF1 := Lib.hid (HF0.out.noTrans f1)
      have Hc1 := Lib.hid (f1.blk Hc0.out (fun h => h))
      have Hz1 := Lib.hid (f1.blk Hz0.out (fun h => h))
      clear f1
      clear c0 c1 c2 c3 c4 c5 c6 c7 c8 c9 c10 c11 z0 z1 z2 z3 z4 z5 z6 z7 z8 z9 z10 z11
      obtain ⟨c0, c1, c2, c3, c4, c5, c6, c7, c8, c9, c10, c11⟩ := twelve_cells Hc1.out
      obtain ⟨z0, z1, z2, z3, z4, z5, z6, z7, z8, z9, z10, z11⟩ := twelve_cells Hz1.out
      have zf1 := fun i => (show w1.frozen? ⟨w.heap.size + 1, i, none⟩ = false by simp [World.frozen?, Hz1.out])
      go_wp2_with fail
      all_goals refine bodyPost_ret (v := .tuple #[.agg #[.int .i64 0, .int .i64 0, .int .i64 0, .int .i64 0, .int .i64 0, .int .i64 0, .int .i64 0, .int .i64 0, .int .i64 0, .int .i64 0, .int .i64 0, .string ⟨#[]⟩], .int .i64 1]) (by simp [results, Try.results23, go_sem, z0, z1, z2, z3, z4, z5, z6, z7, z8, z9, z10, z11]) rfl ?_
      all_goals exact ⟨by simp [zeroF], fr12 HF1.out (Nat.le_succ _) _ _ _ _ _ _ _ _ _ _ _ _⟩
    · have ht0 : True := trivial
      have ht3 : t = -1 := Decidable.byContradiction fun e => absurd rfl (ha.2.2.2 e).1
      subst ht3
      clear ha hk HL
      obtain ⟨w0, hW⟩ : ∃ w0, w0 = (w.alloc (.cells #[.int .i64 3, .int .i64 s, .int .i64 (-1), .int .i64 l, .int .i64 q, .int .i64 f, .int .i64 n, .int .i64 e, .int .i64 sl, .int .i64 r, .int .i64 ep, .string d] 23 (0, 0))).alloc (.cells #[.int .i64 0, .int .i64 0, .int .i64 0, .int .i64 0, .int .i64 0, .int .i64 0, .int .i64 0, .int .i64 0, .int .i64 0, .int .i64 0, .int .i64 0, .string ⟨#[]⟩] 23 (0, 0)) := ⟨_, rfl⟩
      have hBc : w0.heap[w.heap.size]? = some (.cells #[.int .i64 3, .int .i64 s, .int .i64 (-1), .int .i64 l, .int .i64 q, .int .i64 f, .int .i64 n, .int .i64 e, .int .i64 sl, .int .i64 r, .int .i64 ep, .string d] 23 (0, 0)) := by rw [hW]; exact alloc_keeps (heap_alloc_new w _) _
      have Hc0 := Lib.hid hBc
      have hBz : w0.heap[w.heap.size + 1]? = some (.cells #[.int .i64 0, .int .i64 0, .int .i64 0, .int .i64 0, .int .i64 0, .int .i64 0, .int .i64 0, .int .i64 0, .int .i64 0, .int .i64 0, .int .i64 0, .string ⟨#[]⟩] 23 (0, 0)) := by rw [hW]; simpa using heap_alloc_new (w.alloc (.cells #[.int .i64 3, .int .i64 s, .int .i64 (-1), .int .i64 l, .int .i64 q, .int .i64 f, .int .i64 n, .int .i64 e, .int .i64 sl, .int .i64 r, .int .i64 ep, .string d] 23 (0, 0))) _
      have Hz0 := Lib.hid hBz
      have HF0 := Lib.hid (show Fr no w w0 by rw [hW]; exact ((Fr.refl no w).alloc _).alloc _)
      have HW := Lib.hid hW
      obtain ⟨c0, c1, c2, c3, c4, c5, c6, c7, c8, c9, c10, c11⟩ := twelve_cells Hc0.out
      obtain ⟨z0, z1, z2, z3, z4, z5, z6, z7, z8, z9, z10, z11⟩ := twelve_cells Hz0.out
      clear hW hBc hBz
      go_enter Try.func23, Try.ntmps23
      go_wp2_with fail
      rw [← HW.out]
      go_wp2_with fail
      refine (HV.out _).mono ?_
      rintro e1 w1 ⟨rfl, f1⟩
      have HF1 := Lib.hid (HF0.out.noTrans f1)
      have Hc1 := Lib.hid (f1.blk Hc0.out (fun h => h))
      have Hz1 := Lib.hid (f1.blk Hz0.out (fun h => h))
      clear f1
      clear c0 c1 c2 c3 c4 c5 c6 c7 c8 c9 c10 c11 z0 z1 z2 z3 z4 z5 z6 z7 z8 z9 z10 z11
      obtain ⟨c0, c1, c2, c3, c4, c5, c6, c7, c8, c9, c10, c11⟩ := twelve_cells Hc1.out
      obtain ⟨z0, z1, z2, z3, z4, z5, z6, z7, z8, z9, z10, z11⟩ := twelve_cells Hz1.out
      have zf1 := fun i => (show w1.frozen? ⟨w.heap.size + 1, i, none⟩ = false by simp [World.frozen?, Hz1.out])
      go_wp2_with fail
      all_goals refine bodyPost_ret (v := .tuple #[.agg #[.int .i64 0, .int .i64 0, .int .i64 0, .int .i64 0, .int .i64 0, .int .i64 0, .int .i64 0, .int .i64 0, .int .i64 0, .int .i64 0, .int .i64 0, .string ⟨#[]⟩], .int .i64 1]) (by simp [results, Try.results23, go_sem, z0, z1, z2, z3, z4, z5, z6, z7, z8, z9, z10, z11]) rfl ?_
      all_goals exact ⟨by simp [zeroF], fr12 HF1.out (Nat.le_succ _) _ _ _ _ _ _ _ _ _ _ _ _⟩
    · clear ha hk HL
      obtain ⟨w0, hW⟩ : ∃ w0, w0 = (w.alloc (.cells #[.int .i64 4, .int .i64 s, .int .i64 (-1), .int .i64 l, .int .i64 q, .int .i64 f, .int .i64 n, .int .i64 e, .int .i64 sl, .int .i64 r, .int .i64 ep, .string d] 23 (0, 0))).alloc (.cells #[.int .i64 0, .int .i64 0, .int .i64 0, .int .i64 0, .int .i64 0, .int .i64 0, .int .i64 0, .int .i64 0, .int .i64 0, .int .i64 0, .int .i64 0, .string ⟨#[]⟩] 23 (0, 0)) := ⟨_, rfl⟩
      have hBc : w0.heap[w.heap.size]? = some (.cells #[.int .i64 4, .int .i64 s, .int .i64 (-1), .int .i64 l, .int .i64 q, .int .i64 f, .int .i64 n, .int .i64 e, .int .i64 sl, .int .i64 r, .int .i64 ep, .string d] 23 (0, 0)) := by rw [hW]; exact alloc_keeps (heap_alloc_new w _) _
      have Hc0 := Lib.hid hBc
      have hBz : w0.heap[w.heap.size + 1]? = some (.cells #[.int .i64 0, .int .i64 0, .int .i64 0, .int .i64 0, .int .i64 0, .int .i64 0, .int .i64 0, .int .i64 0, .int .i64 0, .int .i64 0, .int .i64 0, .string ⟨#[]⟩] 23 (0, 0)) := by rw [hW]; simpa using heap_alloc_new (w.alloc (.cells #[.int .i64 4, .int .i64 s, .int .i64 (-1), .int .i64 l, .int .i64 q, .int .i64 f, .int .i64 n, .int .i64 e, .int .i64 sl, .int .i64 r, .int .i64 ep, .string d] 23 (0, 0))) _
      have Hz0 := Lib.hid hBz
      have HF0 := Lib.hid (show Fr no w w0 by rw [hW]; exact ((Fr.refl no w).alloc _).alloc _)
      have HW := Lib.hid hW
      obtain ⟨c0, c1, c2, c3, c4, c5, c6, c7, c8, c9, c10, c11⟩ := twelve_cells Hc0.out
      obtain ⟨z0, z1, z2, z3, z4, z5, z6, z7, z8, z9, z10, z11⟩ := twelve_cells Hz0.out
      clear hW hBc hBz
      go_enter Try.func23, Try.ntmps23
      go_wp2_with fail
      rw [← HW.out]
      go_wp2_with fail
      refine (HV.out _).mono ?_
      rintro e1 w1 ⟨rfl, f1⟩
      have HF1 := Lib.hid (HF0.out.noTrans f1)
      have Hc1 := Lib.hid (f1.blk Hc0.out (fun h => h))
      have Hz1 := Lib.hid (f1.blk Hz0.out (fun h => h))
      clear f1
      clear c0 c1 c2 c3 c4 c5 c6 c7 c8 c9 c10 c11 z0 z1 z2 z3 z4 z5 z6 z7 z8 z9 z10 z11
      obtain ⟨c0, c1, c2, c3, c4, c5, c6, c7, c8, c9, c10, c11⟩ := twelve_cells Hc1.out
      obtain ⟨z0, z1, z2, z3, z4, z5, z6, z7, z8, z9, z10, z11⟩ := twelve_cells Hz1.out
      have zf1 := fun i => (show w1.frozen? ⟨w.heap.size + 1, i, none⟩ = false by simp [World.frozen?, Hz1.out])
      go_wp2_with fail
      all_goals refine bodyPost_ret (v := .tuple #[.agg #[.int .i64 0, .int .i64 0, .int .i64 0, .int .i64 0, .int .i64 0, .int .i64 0, .int .i64 0, .int .i64 0, .int .i64 0, .int .i64 0, .int .i64 0, .string ⟨#[]⟩], .int .i64 1]) (by simp [results, Try.results23, go_sem, z0, z1, z2, z3, z4, z5, z6, z7, z8, z9, z10, z11]) rfl ?_
      all_goals exact ⟨by simp [zeroF], fr12 HF1.out (Nat.le_succ _) _ _ _ _ _ _ _ _ _ _ _ _⟩
    · have ht4 : ¬ t < 0 := by omega
      have hb1 : (t != -1) = true := by simp [ht]
      have hb2 : (k != 2) = true := by rcases hk2 with rfl | rfl <;> rfl
      rw [hb1, hb2]
      clear ha hk hb1 ht
      have hx : (k = 1) ∨ (¬ k = 1 ∧ (k != 1) = true ∧ (k != 4) = false) := by rcases hk2 with rfl | rfl <;> simp
      clear hk2
      cases hl : inR li 0 255
      · rw [hl] at HL
        clear hl
        rcases hx with rfl | ⟨h1, h2, h3⟩
        · obtain ⟨w0, hW⟩ : ∃ w0, w0 = (w.alloc (.cells #[.int .i64 1, .int .i64 s, .int .i64 t, .int .i64 l, .int .i64 q, .int .i64 f, .int .i64 n, .int .i64 e, .int .i64 sl, .int .i64 r, .int .i64 ep, .string d] 23 (0, 0))).alloc (.cells #[.int .i64 0, .int .i64 0, .int .i64 0, .int .i64 0, .int .i64 0, .int .i64 0, .int .i64 0, .int .i64 0, .int .i64 0, .int .i64 0, .int .i64 0, .string ⟨#[]⟩] 23 (0, 0)) := ⟨_, rfl⟩
          have hBc : w0.heap[w.heap.size]? = some (.cells #[.int .i64 1, .int .i64 s, .int .i64 t, .int .i64 l, .int .i64 q, .int .i64 f, .int .i64 n, .int .i64 e, .int .i64 sl, .int .i64 r, .int .i64 ep, .string d] 23 (0, 0)) := by rw [hW]; exact alloc_keeps (heap_alloc_new w _) _
          have Hc0 := Lib.hid hBc
          have hBz : w0.heap[w.heap.size + 1]? = some (.cells #[.int .i64 0, .int .i64 0, .int .i64 0, .int .i64 0, .int .i64 0, .int .i64 0, .int .i64 0, .int .i64 0, .int .i64 0, .int .i64 0, .int .i64 0, .string ⟨#[]⟩] 23 (0, 0)) := by rw [hW]; simpa using heap_alloc_new (w.alloc (.cells #[.int .i64 1, .int .i64 s, .int .i64 t, .int .i64 l, .int .i64 q, .int .i64 f, .int .i64 n, .int .i64 e, .int .i64 sl, .int .i64 r, .int .i64 ep, .string d] 23 (0, 0))) _
          have Hz0 := Lib.hid hBz
          have HF0 := Lib.hid (show Fr no w w0 by rw [hW]; exact ((Fr.refl no w).alloc _).alloc _)
          have HW := Lib.hid hW
          obtain ⟨c0, c1, c2, c3, c4, c5, c6, c7, c8, c9, c10, c11⟩ := twelve_cells Hc0.out
          obtain ⟨z0, z1, z2, z3, z4, z5, z6, z7, z8, z9, z10, z11⟩ := twelve_cells Hz0.out
          clear hW hBc hBz
          go_enter Try.func23, Try.ntmps23
          go_wp2_with fail
          rw [← HW.out]
          go_wp2_with fail
          refine (HV.out _).mono ?_
          rintro e1 w1 ⟨rfl, f1⟩
          have HF1 := Lib.hid (HF0.out.noTrans f1)
          have Hc1 := Lib.hid (f1.blk Hc0.out (fun h => h))
          have Hz1 := Lib.hid (f1.blk Hz0.out (fun h => h))
          clear f1
          clear c0 c1 c2 c3 c4 c5 c6 c7 c8 c9 c10 c11 z0 z1 z2 z3 z4 z5 z6 z7 z8 z9 z10 z11
          obtain ⟨c0, c1, c2, c3, c4, c5, c6, c7, c8, c9, c10, c11⟩ := twelve_cells Hc1.out
          obtain ⟨z0, z1, z2, z3, z4, z5, z6, z7, z8, z9, z10, z11⟩ := twelve_cells Hz1.out
          have zf1 := fun i => (show w1.frozen? ⟨w.heap.size + 1, i, none⟩ = false by simp [World.frozen?, Hz1.out])
          go_wp2_with fail
          refine (HL.out _).mono ?_
          rintro e2 w2 ⟨rfl, rfl⟩
          have HF2 := HF1
          have Hc2 := Hc1
          have Hz2 := Hz1
          have zf2 := fun i => (show w2.frozen? ⟨w.heap.size + 1, i, none⟩ = false by simp [World.frozen?, Hz2.out])
          go_wp2_with fail
          all_goals refine bodyPost_ret (v := .tuple #[.agg #[.int .i64 0, .int .i64 0, .int .i64 0, .int .i64 0, .int .i64 0, .int .i64 0, .int .i64 0, .int .i64 0, .int .i64 0, .int .i64 0, .int .i64 0, .string ⟨#[]⟩], .int .i64 2]) (by simp [results, Try.results23, go_sem, z0, z1, z2, z3, z4, z5, z6, z7, z8, z9, z10, z11]) rfl ?_
          all_goals exact ⟨by simp [zeroF], fr12 HF2.out (Nat.le_succ _) _ _ _ _ _ _ _ _ _ _ _ _⟩
        · obtain ⟨w0, hW⟩ : ∃ w0, w0 = (w.alloc (.cells #[.int .i64 k, .int .i64 s, .int .i64 t, .int .i64 l, .int .i64 q, .int .i64 f, .int .i64 n, .int .i64 e, .int .i64 sl, .int .i64 r, .int .i64 ep, .string d] 23 (0, 0))).alloc (.cells #[.int .i64 0, .int .i64 0, .int .i64 0, .int .i64 0, .int .i64 0, .int .i64 0, .int .i64 0, .int .i64 0, .int .i64 0, .int .i64 0, .int .i64 0, .string ⟨#[]⟩] 23 (0, 0)) := ⟨_, rfl⟩
          have hBc : w0.heap[w.heap.size]? = some (.cells #[.int .i64 k, .int .i64 s, .int .i64 t, .int .i64 l, .int .i64 q, .int .i64 f, .int .i64 n, .int .i64 e, .int .i64 sl, .int .i64 r, .int .i64 ep, .string d] 23 (0, 0)) := by rw [hW]; exact alloc_keeps (heap_alloc_new w _) _
          have Hc0 := Lib.hid hBc
          have hBz : w0.heap[w.heap.size + 1]? = some (.cells #[.int .i64 0, .int .i64 0, .int .i64 0, .int .i64 0, .int .i64 0, .int .i64 0, .int .i64 0, .int .i64 0, .int .i64 0, .int .i64 0, .int .i64 0, .string ⟨#[]⟩] 23 (0, 0)) := by rw [hW]; simpa using heap_alloc_new (w.alloc (.cells #[.int .i64 k, .int .i64 s, .int .i64 t, .int .i64 l, .int .i64 q, .int .i64 f, .int .i64 n, .int .i64 e, .int .i64 sl, .int .i64 r, .int .i64 ep, .string d] 23 (0, 0))) _
          have Hz0 := Lib.hid hBz
          have HF0 := Lib.hid (show Fr no w w0 by rw [hW]; exact ((Fr.refl no w).alloc _).alloc _)
          have HW := Lib.hid hW
          obtain ⟨c0, c1, c2, c3, c4, c5, c6, c7, c8, c9, c10, c11⟩ := twelve_cells Hc0.out
          obtain ⟨z0, z1, z2, z3, z4, z5, z6, z7, z8, z9, z10, z11⟩ := twelve_cells Hz0.out
          clear hW hBc hBz
          go_enter Try.func23, Try.ntmps23
          go_wp2_with fail
          rw [← HW.out]
          go_wp2_with fail
          refine (HV.out _).mono ?_
          rintro e1 w1 ⟨rfl, f1⟩
          have HF1 := Lib.hid (HF0.out.noTrans f1)
          have Hc1 := Lib.hid (f1.blk Hc0.out (fun h => h))
          have Hz1 := Lib.hid (f1.blk Hz0.out (fun h => h))
          clear f1
          clear c0 c1 c2 c3 c4 c5 c6 c7 c8 c9 c10 c11 z0 z1 z2 z3 z4 z5 z6 z7 z8 z9 z10 z11
          obtain ⟨c0, c1, c2, c3, c4, c5, c6, c7, c8, c9, c10, c11⟩ := twelve_cells Hc1.out
          obtain ⟨z0, z1, z2, z3, z4, z5, z6, z7, z8, z9, z10, z11⟩ := twelve_cells Hz1.out
          have zf1 := fun i => (show w1.frozen? ⟨w.heap.size + 1, i, none⟩ = false by simp [World.frozen?, Hz1.out])
          go_wp2_with fail
          refine (HL.out _).mono ?_
          rintro e2 w2 ⟨rfl, rfl⟩
          have HF2 := HF1
          have Hc2 := Hc1
          have Hz2 := Hz1
          have zf2 := fun i => (show w2.frozen? ⟨w.heap.size + 1, i, none⟩ = false by simp [World.frozen?, Hz2.out])
          go_wp2_with fail
          all_goals refine bodyPost_ret (v := .tuple #[.agg #[.int .i64 0, .int .i64 0, .int .i64 0, .int .i64 0, .int .i64 0, .int .i64 0, .int .i64 0, .int .i64 0, .int .i64 0, .int .i64 0, .int .i64 0, .string ⟨#[]⟩], .int .i64 2]) (by simp [results, Try.results23, go_sem, z0, z1, z2, z3, z4, z5, z6, z7, z8, z9, z10, z11]) rfl ?_
          all_goals exact ⟨by simp [zeroF], fr12 HF2.out (Nat.le_succ _) _ _ _ _ _ _ _ _ _ _ _ _⟩
      · rw [hl] at HL
        clear hl
        by_cases d1 : di < -32768
        · have hd : inR di (-32768) 32767 = false := by rw [inR_f]; omega
          rw [hd]
          clear hd
          rcases hx with rfl | ⟨h1, h2, h3⟩
          · obtain ⟨w0, hW⟩ : ∃ w0, w0 = (w.alloc (.cells #[.int .i64 1, .int .i64 s, .int .i64 t, .int .i64 l, .int .i64 q, .int .i64 f, .int .i64 n, .int .i64 e, .int .i64 sl, .int .i64 r, .int .i64 ep, .string d] 23 (0, 0))).alloc (.cells #[.int .i64 0, .int .i64 0, .int .i64 0, .int .i64 0, .int .i64 0, .int .i64 0, .int .i64 0, .int .i64 0, .int .i64 0, .int .i64 0, .int .i64 0, .string ⟨#[]⟩] 23 (0, 0)) := ⟨_, rfl⟩
            have hBc : w0.heap[w.heap.size]? = some (.cells #[.int .i64 1, .int .i64 s, .int .i64 t, .int .i64 l, .int .i64 q, .int .i64 f, .int .i64 n, .int .i64 e, .int .i64 sl, .int .i64 r, .int .i64 ep, .string d] 23 (0, 0)) := by rw [hW]; exact alloc_keeps (heap_alloc_new w _) _
            have Hc0 := Lib.hid hBc
            have hBz : w0.heap[w.heap.size + 1]? = some (.cells #[.int .i64 0, .int .i64 0, .int .i64 0, .int .i64 0, .int .i64 0, .int .i64 0, .int .i64 0, .int .i64 0, .int .i64 0, .int .i64 0, .int .i64 0, .string ⟨#[]⟩] 23 (0, 0)) := by rw [hW]; simpa using heap_alloc_new (w.alloc (.cells #[.int .i64 1, .int .i64 s, .int .i64 t, .int .i64 l, .int .i64 q, .int .i64 f, .int .i64 n, .int .i64 e, .int .i64 sl, .int .i64 r, .int .i64 ep, .string d] 23 (0, 0))) _
            have Hz0 := Lib.hid hBz
            have HF0 := Lib.hid (show Fr no w w0 by rw [hW]; exact ((Fr.refl no w).alloc _).alloc _)
            have HW := Lib.hid hW
            obtain ⟨c0, c1, c2, c3, c4, c5, c6, c7, c8, c9, c10, c11⟩ := twelve_cells Hc0.out
            obtain ⟨z0, z1, z2, z3, z4, z5, z6, z7, z8, z9, z10, z11⟩ := twelve_cells Hz0.out
            clear hW hBc hBz
            go_enter Try.func23, Try.ntmps23
            go_wp2_with fail
            rw [← HW.out]
            go_wp2_with fail
            refine (HV.out _).mono ?_
            rintro e1 w1 ⟨rfl, f1⟩
            have HF1 := Lib.hid (HF0.out.noTrans f1)
            have Hc1 := Lib.hid (f1.blk Hc0.out (fun h => h))
            have Hz1 := Lib.hid (f1.blk Hz0.out (fun h => h))
            clear f1
            clear c0 c1 c2 c3 c4 c5 c6 c7 c8 c9 c10 c11 z0 z1 z2 z3 z4 z5 z6 z7 z8 z9 z10 z11
            obtain ⟨c0, c1, c2, c3, c4, c5, c6, c7, c8, c9, c10, c11⟩ := twelve_cells Hc1.out
            obtain ⟨z0, z1, z2, z3, z4, z5, z6, z7, z8, z9, z10, z11⟩ := twelve_cells Hz1.out
            have zf1 := fun i => (show w1.frozen? ⟨w.heap.size + 1, i, none⟩ = false by simp [World.frozen?, Hz1.out])
            go_wp2_with fail
            refine (HL.out _).mono ?_
            rintro e2 w2 ⟨rfl, rfl⟩
            have HF2 := HF1
            have Hc2 := Hc1
            have Hz2 := Hz1
            have zf2 := fun i => (show w2.frozen? ⟨w.heap.size + 1, i, none⟩ = false by simp [World.frozen?, Hz2.out])
            go_wp2_with fail
            all_goals refine bodyPost_ret (v := .tuple #[.agg #[.int .i64 0, .int .i64 0, .int .i64 0, .int .i64 0, .int .i64 0, .int .i64 0, .int .i64 0, .int .i64 0, .int .i64 0, .int .i64 0, .int .i64 0, .string ⟨#[]⟩], .int .i64 2]) (by simp [results, Try.results23, go_sem, z0, z1, z2, z3, z4, z5, z6, z7, z8, z9, z10, z11]) rfl ?_
            all_goals exact ⟨by simp [zeroF], fr12 HF2.out (Nat.le_succ _) _ _ _ _ _ _ _ _ _ _ _ _⟩
          · obtain ⟨w0, hW⟩ : ∃ w0, w0 = (w.alloc (.cells #[.int .i64 k, .int .i64 s, .int .i64 t, .int .i64 l, .int .i64 q, .int .i64 f, .int .i64 n, .int .i64 e, .int .i64 sl, .int .i64 r, .int .i64 ep, .string d] 23 (0, 0))).alloc (.cells #[.int .i64 0, .int .i64 0, .int .i64 0, .int .i64 0, .int .i64 0, .int .i64 0, .int .i64 0, .int .i64 0, .int .i64 0, .int .i64 0, .int .i64 0, .string ⟨#[]⟩] 23 (0, 0)) := ⟨_, rfl⟩
            have hBc : w0.heap[w.heap.size]? = some (.cells #[.int .i64 k, .int .i64 s, .int .i64 t, .int .i64 l, .int .i64 q, .int .i64 f, .int .i64 n, .int .i64 e, .int .i64 sl, .int .i64 r, .int .i64 ep, .string d] 23 (0, 0)) := by rw [hW]; exact alloc_keeps (heap_alloc_new w _) _
            have Hc0 := Lib.hid hBc
            have hBz : w0.heap[w.heap.size + 1]? = some (.cells #[.int .i64 0, .int .i64 0, .int .i64 0, .int .i64 0, .int .i64 0, .int .i64 0, .int .i64 0, .int .i64 0, .int .i64 0, .int .i64 0, .int .i64 0, .string ⟨#[]⟩] 23 (0, 0)) := by rw [hW]; simpa using heap_alloc_new (w.alloc (.cells #[.int .i64 k, .int .i64 s, .int .i64 t, .int .i64 l, .int .i64 q, .int .i64 f, .int .i64 n, .int .i64 e, .int .i64 sl, .int .i64 r, .int .i64 ep, .string d] 23 (0, 0))) _
            have Hz0 := Lib.hid hBz
            have HF0 := Lib.hid (show Fr no w w0 by rw [hW]; exact ((Fr.refl no w).alloc _).alloc _)
            have HW := Lib.hid hW
            obtain ⟨c0, c1, c2, c3, c4, c5, c6, c7, c8, c9, c10, c11⟩ := twelve_cells Hc0.out
            obtain ⟨z0, z1, z2, z3, z4, z5, z6, z7, z8, z9, z10, z11⟩ := twelve_cells Hz0.out
            clear hW hBc hBz
            go_enter Try.func23, Try.ntmps23
            go_wp2_with fail
            rw [← HW.out]
            go_wp2_with fail
            refine (HV.out _).mono ?_
            rintro e1 w1 ⟨rfl, f1⟩
            have HF1 := Lib.hid (HF0.out.noTrans f1)
            have Hc1 := Lib.hid (f1.blk Hc0.out (fun h => h))
            have Hz1 := Lib.hid (f1.blk Hz0.out (fun h => h))
            clear f1
            clear c0 c1 c2 c3 c4 c5 c6 c7 c8 c9 c10 c11 z0 z1 z2 z3 z4 z5 z6 z7 z8 z9 z10 z11
            obtain ⟨c0, c1, c2, c3, c4, c5, c6, c7, c8, c9, c10, c11⟩ := twelve_cells Hc1.out
            obtain ⟨z0, z1, z2, z3, z4, z5, z6, z7, z8, z9, z10, z11⟩ := twelve_cells Hz1.out
            have zf1 := fun i => (show w1.frozen? ⟨w.heap.size + 1, i, none⟩ = false by simp [World.frozen?, Hz1.out])
            go_wp2_with fail
            refine (HL.out _).mono ?_
            rintro e2 w2 ⟨rfl, rfl⟩
            have HF2 := HF1
            have Hc2 := Hc1
            have Hz2 := Hz1
            have zf2 := fun i => (show w2.frozen? ⟨w.heap.size + 1, i, none⟩ = false by simp [World.frozen?, Hz2.out])
            go_wp2_with fail
            all_goals refine bodyPost_ret (v := .tuple #[.agg #[.int .i64 0, .int .i64 0, .int .i64 0, .int .i64 0, .int .i64 0, .int .i64 0, .int .i64 0, .int .i64 0, .int .i64 0, .int .i64 0, .int .i64 0, .string ⟨#[]⟩], .int .i64 2]) (by simp [results, Try.results23, go_sem, z0, z1, z2, z3, z4, z5, z6, z7, z8, z9, z10, z11]) rfl ?_
            all_goals exact ⟨by simp [zeroF], fr12 HF2.out (Nat.le_succ _) _ _ _ _ _ _ _ _ _ _ _ _⟩
        by_cases d2 : 32767 < di
        · have hd : inR di (-32768) 32767 = false := by rw [inR_f]; omega
          have d3 : decide (di < -32768) = false := decide_eq_false d1
          rw [hd]
          clear hd
          rcases hx with rfl | ⟨h1, h2, h3⟩
          · obtain ⟨w0, hW⟩ : ∃ w0, w0 = (w.alloc (.cells #[.int .i64 1, .int .i64 s, .int .i64 t, .int .i64 l, .int .i64 q, .int .i64 f, .int .i64 n, .int .i64 e, .int .i64 sl, .int .i64 r, .int .i64 ep, .string d] 23 (0, 0))).alloc (.cells #[.int .i64 0, .int .i64 0, .int .i64 0, .int .i64 0, .int .i64 0, .int .i64 0, .int .i64 0, .int .i64 0, .int .i64 0, .int .i64 0, .int .i64 0, .string ⟨#[]⟩] 23 (0, 0)) := ⟨_, rfl⟩
            have hBc : w0.heap[w.heap.size]? = some (.cells #[.int .i64 1, .int .i64 s, .int .i64 t, .int .i64 l, .int .i64 q, .int .i64 f, .int .i64 n, .int .i64 e, .int .i64 sl, .int .i64 r, .int .i64 ep, .string d] 23 (0, 0)) := by rw [hW]; exact alloc_keeps (heap_alloc_new w _) _
            have Hc0 := Lib.hid hBc
            have hBz : w0.heap[w.heap.size + 1]? = some (.cells #[.int .i64 0, .int .i64 0, .int .i64 0, .int .i64 0, .int .i64 0, .int .i64 0, .int .i64 0, .int .i64 0, .int .i64 0, .int .i64 0, .int .i64 0, .string ⟨#[]⟩] 23 (0, 0)) := by rw [hW]; simpa using heap_alloc_new (w.alloc (.cells #[.int .i64 1, .int .i64 s, .int .i64 t, .int .i64 l, .int .i64 q, .int .i64 f, .int .i64 n, .int .i64 e, .int .i64 sl, .int .i64 r, .int .i64 ep, .string d] 23 (0, 0))) _
            have Hz0 := Lib.hid hBz
            have HF0 := Lib.hid (show Fr no w w0 by rw [hW]; exact ((Fr.refl no w).alloc _).alloc _)
            have HW := Lib.hid hW
            obtain ⟨c0, c1, c2, c3, c4, c5, c6, c7, c8, c9, c10, c11⟩ := twelve_cells Hc0.out
            obtain ⟨z0, z1, z2, z3, z4, z5, z6, z7, z8, z9, z10, z11⟩ := twelve_cells Hz0.out
            clear hW hBc hBz
            go_enter Try.func23, Try.ntmps23
            go_wp2_with fail
            rw [← HW.out]
            go_wp2_with fail
            refine (HV.out _).mono ?_
            rintro e1 w1 ⟨rfl, f1⟩
            have HF1 := Lib.hid (HF0.out.noTrans f1)
            have Hc1 := Lib.hid (f1.blk Hc0.out (fun h => h))
            have Hz1 := Lib.hid (f1.blk Hz0.out (fun h => h))
            clear f1
            clear c0 c1 c2 c3 c4 c5 c6 c7 c8 c9 c10 c11 z0 z1 z2 z3 z4 z5 z6 z7 z8 z9 z10 z11
            obtain ⟨c0, c1, c2, c3, c4, c5, c6, c7, c8, c9, c10, c11⟩ := twelve_cells Hc1.out
            obtain ⟨z0, z1, z2, z3, z4, z5, z6, z7, z8, z9, z10, z11⟩ := twelve_cells Hz1.out
            have zf1 := fun i => (show w1.frozen? ⟨w.heap.size + 1, i, none⟩ = false by simp [World.frozen?, Hz1.out])
            go_wp2_with fail
            refine (HL.out _).mono ?_
            rintro e2 w2 ⟨rfl, rfl⟩
            have HF2 := HF1
            have Hc2 := Hc1
            have Hz2 := Hz1
            have zf2 := fun i => (show w2.frozen? ⟨w.heap.size + 1, i, none⟩ = false by simp [World.frozen?, Hz2.out])
            go_wp2_with fail
            all_goals refine bodyPost_ret (v := .tuple #[.agg #[.int .i64 0, .int .i64 0, .int .i64 0, .int .i64 0, .int .i64 0, .int .i64 0, .int .i64 0, .int .i64 0, .int .i64 0, .int .i64 0, .int .i64 0, .string ⟨#[]⟩], .int .i64 2]) (by simp [results, Try.results23, go_sem, z0, z1, z2, z3, z4, z5, z6, z7, z8, z9, z10, z11]) rfl ?_
            all_goals exact ⟨by simp [zeroF], fr12 HF2.out (Nat.le_succ _) _ _ _ _ _ _ _ _ _ _ _ _⟩
          · obtain ⟨w0, hW⟩ : ∃ w0, w0 = (w.alloc (.cells #[.int .i64 k, .int .i64 s, .int .i64 t, .int .i64 l, .int .i64 q, .int .i64 f, .int .i64 n, .int .i64 e, .int .i64 sl, .int .i64 r, .int .i64 ep, .string d] 23 (0, 0))).alloc (.cells #[.int .i64 0, .int .i64 0, .int .i64 0, .int .i64 0, .int .i64 0, .int .i64 0, .int .i64 0, .int .i64 0, .int .i64 0, .int .i64 0, .int .i64 0, .string ⟨#[]⟩] 23 (0, 0)) := ⟨_, rfl⟩
            have hBc : w0.heap[w.heap.size]? = some (.cells #[.int .i64 k, .int .i64 s, .int .i64 t, .int .i64 l, .int .i64 q, .int .i64 f, .int .i64 n, .int .i64 e, .int .i64 sl, .int .i64 r, .int .i64 ep, .string d] 23 (0, 0)) := by rw [hW]; exact alloc_keeps (heap_alloc_new w _) _
            have Hc0 := Lib.hid hBc
            have hBz : w0.heap[w.heap.size + 1]? = some (.cells #[.int .i64 0, .int .i64 0, .int .i64 0, .int .i64 0, .int .i64 0, .int .i64 0, .int .i64 0, .int .i64 0, .int .i64 0, .int .i64 0, .int .i64 0, .string ⟨#[]⟩] 23 (0, 0)) := by rw [hW]; simpa using heap_alloc_new (w.alloc (.cells #[.int .i64 k, .int .i64 s, .int .i64 t, .int .i64 l, .int .i64 q, .int .i64 f, .int .i64 n, .int .i64 e, .int .i64 sl, .int .i64 r, .int .i64 ep, .string d] 23 (0, 0))) _
            have Hz0 := Lib.hid hBz
            have HF0 := Lib.hid (show Fr no w w0 by rw [hW]; exact ((Fr.refl no w).alloc _).alloc _)
            have HW := Lib.hid hW
            obtain ⟨c0, c1, c2, c3, c4, c5, c6, c7, c8, c9, c10, c11⟩ := twelve_cells Hc0.out
            obtain ⟨z0, z1, z2, z3, z4, z5, z6, z7, z8, z9, z10, z11⟩ := twelve_cells Hz0.out
            clear hW hBc hBz
            go_enter Try.func23, Try.ntmps23
            go_wp2_with fail
            rw [← HW.out]
            go_wp2_with fail
            refine (HV.out _).mono ?_
            rintro e1 w1 ⟨rfl, f1⟩
            have HF1 := Lib.hid (HF0.out.noTrans f1)
            have Hc1 := Lib.hid (f1.blk Hc0.out (fun h => h))
            have Hz1 := Lib.hid (f1.blk Hz0.out (fun h => h))
            clear f1
            clear c0 c1 c2 c3 c4 c5 c6 c7 c8 c9 c10 c11 z0 z1 z2 z3 z4 z5 z6 z7 z8 z9 z10 z11
            obtain ⟨c0, c1, c2, c3, c4, c5, c6, c7, c8, c9, c10, c11⟩ := twelve_cells Hc1.out
            obtain ⟨z0, z1, z2, z3, z4, z5, z6, z7, z8, z9, z10, z11⟩ := twelve_cells Hz1.out
            have zf1 := fun i => (show w1.frozen? ⟨w.heap.size + 1, i, none⟩ = false by simp [World.frozen?, Hz1.out])
            go_wp2_with fail
            refine (HL.out _).mono ?_
            rintro e2 w2 ⟨rfl, rfl⟩
            have HF2 := HF1
            have Hc2 := Hc1
            have Hz2 := Hz1
            have zf2 := fun i => (show w2.frozen? ⟨w.heap.size + 1, i, none⟩ = false by simp [World.frozen?, Hz2.out])
            go_wp2_with fail
            all_goals refine bodyPost_ret (v := .tuple #[.agg #[.int .i64 0, .int .i64 0, .int .i64 0, .int .i64 0, .int .i64 0, .int .i64 0, .int .i64 0, .int .i64 0, .int .i64 0, .int .i64 0, .int .i64 0, .string ⟨#[]⟩], .int .i64 2]) (by simp [results, Try.results23, go_sem, z0, z1, z2, z3, z4, z5, z6, z7, z8, z9, z10, z11]) rfl ?_
            all_goals exact ⟨by simp [zeroF], fr12 HF2.out (Nat.le_succ _) _ _ _ _ _ _ _ _ _ _ _ _⟩
        have hd : inR di (-32768) 32767 = true := by rw [inR_t]; omega
        have d3 : decide (di < -32768) = false := decide_eq_false d1
        have d4 : decide (32767 < di) = false := decide_eq_false d2
        rw [hd]
        clear hd
        rcases hx with rfl | ⟨h1, h2, h3⟩
        · obtain ⟨w0, hW⟩ : ∃ w0, w0 = (w.alloc (.cells #[.int .i64 1, .int .i64 s, .int .i64 t, .int .i64 l, .int .i64 q, .int .i64 f, .int .i64 n, .int .i64 e, .int .i64 sl, .int .i64 r, .int .i64 ep, .string d] 23 (0, 0))).alloc (.cells #[.int .i64 0, .int .i64 0, .int .i64 0, .int .i64 0, .int .i64 0, .int .i64 0, .int .i64 0, .int .i64 0, .int .i64 0, .int .i64 0, .int .i64 0, .string ⟨#[]⟩] 23 (0, 0)) := ⟨_, rfl⟩
          have hBc : w0.heap[w.heap.size]? = some (.cells #[.int .i64 1, .int .i64 s, .int .i64 t, .int .i64 l, .int .i64 q, .int .i64 f, .int .i64 n, .int .i64 e, .int .i64 sl, .int .i64 r, .int .i64 ep, .string d] 23 (0, 0)) := by rw [hW]; exact alloc_keeps (heap_alloc_new w _) _
          have Hc0 := Lib.hid hBc
          have hBz : w0.heap[w.heap.size + 1]? = some (.cells #[.int .i64 0, .int .i64 0, .int .i64 0, .int .i64 0, .int .i64 0, .int .i64 0, .int .i64 0, .int .i64 0, .int .i64 0, .int .i64 0, .int .i64 0, .string ⟨#[]⟩] 23 (0, 0)) := by rw [hW]; simpa using heap_alloc_new (w.alloc (.cells #[.int .i64 1, .int .i64 s, .int .i64 t, .int .i64 l, .int .i64 q, .int .i64 f, .int .i64 n, .int .i64 e, .int .i64 sl, .int .i64 r, .int .i64 ep, .string d] 23 (0, 0))) _
          have Hz0 := Lib.hid hBz
          have HF0 := Lib.hid (show Fr no w w0 by rw [hW]; exact ((Fr.refl no w).alloc _).alloc _)
          have HW := Lib.hid hW
          obtain ⟨c0, c1, c2, c3, c4, c5, c6, c7, c8, c9, c10, c11⟩ := twelve_cells Hc0.out
          obtain ⟨z0, z1, z2, z3, z4, z5, z6, z7, z8, z9, z10, z11⟩ := twelve_cells Hz0.out
          clear hW hBc hBz
          go_enter Try.func23, Try.ntmps23
          go_wp2_with fail
          rw [← HW.out]
          go_wp2_with fail
          refine (HV.out _).mono ?_
          rintro e1 w1 ⟨rfl, f1⟩
          have HF1 := Lib.hid (HF0.out.noTrans f1)
          have Hc1 := Lib.hid (f1.blk Hc0.out (fun h => h))
          have Hz1 := Lib.hid (f1.blk Hz0.out (fun h => h))
          clear f1
          clear c0 c1 c2 c3 c4 c5 c6 c7 c8 c9 c10 c11 z0 z1 z2 z3 z4 z5 z6 z7 z8 z9 z10 z11
          obtain ⟨c0, c1, c2, c3, c4, c5, c6, c7, c8, c9, c10, c11⟩ := twelve_cells Hc1.out
          obtain ⟨z0, z1, z2, z3, z4, z5, z6, z7, z8, z9, z10, z11⟩ := twelve_cells Hz1.out
          have zf1 := fun i => (show w1.frozen? ⟨w.heap.size + 1, i, none⟩ = false by simp [World.frozen?, Hz1.out])
          go_wp2_with fail
          refine (HL.out _).mono ?_
          rintro e2 w2 ⟨rfl, rfl⟩
          have HF2 := HF1
          have Hc2 := Hc1
          have Hz2 := Hz1
          have zf2 := fun i => (show w2.frozen? ⟨w.heap.size + 1, i, none⟩ = false by simp [World.frozen?, Hz2.out])
          go_wp2_with fail
          all_goals refine bodyPost_ret (v := .tuple #[.agg #[.int .i64 2, .int .i64 t, .int .i64 s, .int .i64 li, .int .i64 q, .int .i64 0, .int .i64 0, .int .i64 di, .int .i64 0, .int .i64 0, .int .i64 0, .string ⟨#[]⟩], .int .i64 0]) (by simp [results, Try.results23, go_sem, z0, z1, z2, z3, z4, z5, z6, z7, z8, z9, z10, z11]) rfl ?_
          all_goals exact ⟨by simp [akF], fr12 HF2.out (Nat.le_succ _) _ _ _ _ _ _ _ _ _ _ _ _⟩
        · obtain ⟨w0, hW⟩ : ∃ w0, w0 = (w.alloc (.cells #[.int .i64 k, .int .i64 s, .int .i64 t, .int .i64 l, .int .i64 q, .int .i64 f, .int .i64 n, .int .i64 e, .int .i64 sl, .int .i64 r, .int .i64 ep, .string d] 23 (0, 0))).alloc (.cells #[.int .i64 0, .int .i64 0, .int .i64 0, .int .i64 0, .int .i64 0, .int .i64 0, .int .i64 0, .int .i64 0, .int .i64 0, .int .i64 0, .int .i64 0, .string ⟨#[]⟩] 23 (0, 0)) := ⟨_, rfl⟩
          have hBc : w0.heap[w.heap.size]? = some (.cells #[.int .i64 k, .int .i64 s, .int .i64 t, .int .i64 l, .int .i64 q, .int .i64 f, .int .i64 n, .int .i64 e, .int .i64 sl, .int .i64 r, .int .i64 ep, .string d] 23 (0, 0)) := by rw [hW]; exact alloc_keeps (heap_alloc_new w _) _
          have Hc0 := Lib.hid hBc
          have hBz : w0.heap[w.heap.size + 1]? = some (.cells #[.int .i64 0, .int .i64 0, .int .i64 0, .int .i64 0, .int .i64 0, .int .i64 0, .int .i64 0, .int .i64 0, .int .i64 0, .int .i64 0, .int .i64 0, .string ⟨#[]⟩] 23 (0, 0)) := by rw [hW]; simpa using heap_alloc_new (w.alloc (.cells #[.int .i64 k, .int .i64 s, .int .i64 t, .int .i64 l, .int .i64 q, .int .i64 f, .int .i64 n, .int .i64 e, .int .i64 sl, .int .i64 r, .int .i64 ep, .string d] 23 (0, 0))) _
          have Hz0 := Lib.hid hBz
          have HF0 := Lib.hid (show Fr no w w0 by rw [hW]; exact ((Fr.refl no w).alloc _).alloc _)
          have HW := Lib.hid hW
          obtain ⟨c0, c1, c2, c3, c4, c5, c6, c7, c8, c9, c10, c11⟩ := twelve_cells Hc0.out
          obtain ⟨z0, z1, z2, z3, z4, z5, z6, z7, z8, z9, z10, z11⟩ := twelve_cells Hz0.out
          clear hW hBc hBz
          go_enter Try.func23, Try.ntmps23
          go_wp2_with fail
          rw [← HW.out]
          go_wp2_with fail
          refine (HV.out _).mono ?_
          rintro e1 w1 ⟨rfl, f1⟩
          have HF1 := Lib.hid (HF0.out.noTrans f1)
          have Hc1 := Lib.hid (f1.blk Hc0.out (fun h => h))
          have Hz1 := Lib.hid (f1.blk Hz0.out (fun h => h))
          clear f1
          clear c0 c1 c2 c3 c4 c5 c6 c7 c8 c9 c10 c11 z0 z1 z2 z3 z4 z5 z6 z7 z8 z9 z10 z11
          obtain ⟨c0, c1, c2, c3, c4, c5, c6, c7, c8, c9, c10, c11⟩ := twelve_cells Hc1.out
          obtain ⟨z0, z1, z2, z3, z4, z5, z6, z7, z8, z9, z10, z11⟩ := twelve_cells Hz1.out
          have zf1 := fun i => (show w1.frozen? ⟨w.heap.size + 1, i, none⟩ = false by simp [World.frozen?, Hz1.out])
          go_wp2_with fail
          refine (HL.out _).mono ?_
          rintro e2 w2 ⟨rfl, rfl⟩
          have HF2 := HF1
          have Hc2 := Hc1
          have Hz2 := Hz1
          have zf2 := fun i => (show w2.frozen? ⟨w.heap.size + 1, i, none⟩ = false by simp [World.frozen?, Hz2.out])
          go_wp2_with fail
          all_goals refine bodyPost_ret (v := .tuple #[.agg #[.int .i64 2, .int .i64 t, .int .i64 s, .int .i64 li, .int .i64 q, .int .i64 0, .int .i64 0, .int .i64 di, .int .i64 0, .int .i64 0, .int .i64 0, .string ⟨#[]⟩], .int .i64 0]) (by simp [results, Try.results23, go_sem, z0, z1, z2, z3, z4, z5, z6, z7, z8, z9, z10, z11]) rfl ?_
          all_goals exact ⟨by simp [akF], fr12 HF2.out (Nat.le_succ _) _ _ _ _ _ _ _ _ _ _ _ _⟩
end Go.Proofs.Ytelpdihaonoedaa
