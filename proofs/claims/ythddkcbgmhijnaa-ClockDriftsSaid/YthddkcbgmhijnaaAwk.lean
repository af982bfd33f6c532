/- awake. -/
import Derived.Test.YthddkcbgmhijnaaApa
namespace Go.Proofs.Ythddkcbgmhijnaa
set_option linter.unusedVariables false
open Go.RowKit

theorem ex_0 : shV 5 (-100000) 0 = 5 ∧ shE 5 (-100000) 0 = 0 := by decide
theorem ex_1 : shV 5 (-100000) 1 = 5 ∧ shE 5 (-100000) 1 = 0 := by decide
theorem ex_2 : shV 5 (-100000) 10000 = 10004 ∧ shE 5 (-100000) 10000 = 0 := by decide
theorem ex_3 : shV 5 (-100000) 9995 = 9999 ∧ shE 5 (-100000) 9995 = 0 := by decide
theorem ex_rc : Rc 5 (-100000) 10000 9996 := by
  refine ⟨by omega, by omega, fun t t0 t1 => ?_, fun t t0 t1 => ?_⟩ <;> unfold sh fl <;> omega
theorem ex_4 : inV 5 (-100000) 1 0 = 9996 ∧ inE 5 (-100000) 1 0 = 0 := by
  have h0 : csE 5 (-100000) 1 = 0 := by decide
  have h1 : ¬ sh 5 (-100000) 1099511627776 < 10000 := by decide
  have h2 : (1 : Int) * 10000 + 0 = 10000 := by decide
  simp only [inV, inE, h0, rcV, rcE, h2, if_neg h1, if_true]
  exact ⟨ex_rc.eq, trivial⟩
theorem lt_of_cell {w : World} {b o : Nat} {v : Value} (h : w.cell? ⟨b, o, none⟩ = some v) : b < w.heap.size := World.block_lt_of_cell? w _ h
theorem eight_cells {w : World} {B T : Nat} {c0 c1 c2 c3 c4 c5 c6 c7 : Value} (h : w.heap[B]? = some (.cells #[c0, c1, c2, c3, c4, c5, c6, c7] T (0, 0))) :
    w.cell? ⟨B, 0, none⟩ = some c0 ∧ w.cell? ⟨B, 1, none⟩ = some c1 ∧ w.cell? ⟨B, 2, none⟩ = some c2 ∧ w.cell? ⟨B, 3, none⟩ = some c3 ∧ w.cell? ⟨B, 4, none⟩ = some c4 ∧ w.cell? ⟨B, 5, none⟩ = some c5 ∧ w.cell? ⟨B, 6, none⟩ = some c6 ∧ w.cell? ⟨B, 7, none⟩ = some c7 := by
  simp [World.cell?, h]
set_option maxHeartbeats 4000000 in
theorem awake_any (w : World) : Calls Try.prog 11 #[] w fun e w' => e = .returned (.bool true) ∧ Fr no w w' := by
  obtain ⟨W, hW⟩ : ∃ W, W = (w.alloc (.cells #[.int .i64 5, .int .i64 (-100000)] 23 (0, 0))).alloc (.cells #[.int .i64 0, .int .i64 5, .int .i64 1, .int .i64 5, .int .i64 10000, .int .i64 10004, .int .i64 9995, .int .i64 9999] 33 (0, 0)) := ⟨_, rfl⟩
  have HF := Lib.hid (show Fr no w W by rw [hW]; exact ((Fr.refl no w).alloc _).alloc _)
  have h1 : W.heap[w.heap.size]? = some (.cells #[.int .i64 5, .int .i64 (-100000)] 23 (0, 0)) := by rw [hW]; exact alloc_keeps (heap_alloc_new w _) _
  have h2 : W.heap[w.heap.size + 1]? = some (.cells #[.int .i64 0, .int .i64 5, .int .i64 1, .int .i64 5, .int .i64 10000, .int .i64 10004, .int .i64 9995, .int .i64 9999] 33 (0, 0)) := by
    rw [hW]; simpa using heap_alloc_new (w.alloc (.cells #[.int .i64 5, .int .i64 (-100000)] 23 (0, 0))) (.cells #[.int .i64 0, .int .i64 5, .int .i64 1, .int .i64 5, .int .i64 10000, .int .i64 10004, .int .i64 9995, .int .i64 9999] 33 (0, 0))
  obtain ⟨c0, c1, -, -⟩ := two_cells h1
  obtain ⟨p0, p1, p2, p3, p4, p5, p6, p7⟩ := eight_cells h2
  have HW := Lib.hid hW
  clear hW h1 h2
  go_enter Try.func11, Try.ntmps11
  go_wp2_with fail
  rw [← HW.out]
  go_loopw [3, 4, 5, 15] (fun _ _ _ i wr => ∃ k : Nat, k ≤ 4 ∧ i = .int .i64 k ∧ Hid (Fr no W wr)) (fun _ _ _ i _ => (4 - intOf i).toNat)
  case atStart => exact ⟨0, by omega, rfl, Lib.hid (Fr.refl no W)⟩
  case round =>
    obtain ⟨k, hk, rfl, F⟩ := hrel
    rcases (show k = 0 ∨ k = 1 ∨ k = 2 ∨ k = 3 ∨ k = 4 by omega) with rfl | rfl | rfl | rfl | rfl
    · have g0 := F.out.keepc c0
      have g1 := F.out.keepc c1
      have g2 := F.out.keepc p0
      have g3 := F.out.keepc p1
      have hlt := lt_of_cell g0
      clear c0 c1 p0 p1 p2 p3 p4 p5 p6 p7
      go_wp2_with fail
      obtain ⟨w1, hw1⟩ : ∃ w1, w1 = wr.alloc (.cells #[.int .i64 0, .int .i64 5] 33 (0, 0)) := ⟨_, rfl⟩
      have f1 : Fr no wr w1 := by rw [hw1]; exact (Fr.refl no wr).alloc _
      have h1 : w1.heap[wr.heap.size]? = some (.cells #[.int .i64 0, .int .i64 5] 33 (0, 0)) := by rw [hw1]; exact heap_alloc_new wr _
      have HW1 := Lib.hid hw1
      have HS := show_any 5 (-100000) 0 w1
      rw [ex_0.1, ex_0.2] at HS
      have HS := Lib.hid HS
      rw [← HW1.out]
      clear hw1 g2 g3
      refine HS.out.mono ?_
      rintro e w2 ⟨rfl, f2⟩
      obtain ⟨z0, z1, -, -⟩ := two_cells (f2.blk h1 (fun h => h))
      have HF2 := Lib.hid ((F.out.noTrans f1).noTrans f2)
      clear f1 f2 h1 g0 g1
      go_wp2_with fail
      go_roundw
      case rel => exact ⟨1, by omega, rfl, HF2⟩
      case measure => simp [intOf]
    · have g0 := F.out.keepc c0
      have g1 := F.out.keepc c1
      have g2 := F.out.keepc p2
      have g3 := F.out.keepc p3
      have hlt := lt_of_cell g0
      clear c0 c1 p0 p1 p2 p3 p4 p5 p6 p7
      go_wp2_with fail
      obtain ⟨w1, hw1⟩ : ∃ w1, w1 = wr.alloc (.cells #[.int .i64 1, .int .i64 5] 33 (0, 0)) := ⟨_, rfl⟩
      have f1 : Fr no wr w1 := by rw [hw1]; exact (Fr.refl no wr).alloc _
      have h1 : w1.heap[wr.heap.size]? = some (.cells #[.int .i64 1, .int .i64 5] 33 (0, 0)) := by rw [hw1]; exact heap_alloc_new wr _
      have HW1 := Lib.hid hw1
      have HS := show_any 5 (-100000) 1 w1
      rw [ex_1.1, ex_1.2] at HS
      have HS := Lib.hid HS
      rw [← HW1.out]
      clear hw1 g2 g3
      refine HS.out.mono ?_
      rintro e w2 ⟨rfl, f2⟩
      obtain ⟨z0, z1, -, -⟩ := two_cells (f2.blk h1 (fun h => h))
      have HF2 := Lib.hid ((F.out.noTrans f1).noTrans f2)
      clear f1 f2 h1 g0 g1
      go_wp2_with fail
      go_roundw
      case rel => exact ⟨2, by omega, rfl, HF2⟩
      case measure => simp [intOf]
    · have g0 := F.out.keepc c0
      have g1 := F.out.keepc c1
      have g2 := F.out.keepc p4
      have g3 := F.out.keepc p5
      have hlt := lt_of_cell g0
      clear c0 c1 p0 p1 p2 p3 p4 p5 p6 p7
      go_wp2_with fail
      obtain ⟨w1, hw1⟩ : ∃ w1, w1 = wr.alloc (.cells #[.int .i64 10000, .int .i64 10004] 33 (0, 0)) := ⟨_, rfl⟩
      have f1 : Fr no wr w1 := by rw [hw1]; exact (Fr.refl no wr).alloc _
      have h1 : w1.heap[wr.heap.size]? = some (.cells #[.int .i64 10000, .int .i64 10004] 33 (0, 0)) := by rw [hw1]; exact heap_alloc_new wr _
      have HW1 := Lib.hid hw1
      have HS := show_any 5 (-100000) 10000 w1
      rw [ex_2.1, ex_2.2] at HS
      have HS := Lib.hid HS
      rw [← HW1.out]
      clear hw1 g2 g3
      refine HS.out.mono ?_
      rintro e w2 ⟨rfl, f2⟩
      obtain ⟨z0, z1, -, -⟩ := two_cells (f2.blk h1 (fun h => h))
      have HF2 := Lib.hid ((F.out.noTrans f1).noTrans f2)
      clear f1 f2 h1 g0 g1
      go_wp2_with fail
      go_roundw
      case rel => exact ⟨3, by omega, rfl, HF2⟩
      case measure => simp [intOf]
    · have g0 := F.out.keepc c0
      have g1 := F.out.keepc c1
      have g2 := F.out.keepc p6
      have g3 := F.out.keepc p7
      have hlt := lt_of_cell g0
      clear c0 c1 p0 p1 p2 p3 p4 p5 p6 p7
      go_wp2_with fail
      obtain ⟨w1, hw1⟩ : ∃ w1, w1 = wr.alloc (.cells #[.int .i64 9995, .int .i64 9999] 33 (0, 0)) := ⟨_, rfl⟩
      have f1 : Fr no wr w1 := by rw [hw1]; exact (Fr.refl no wr).alloc _
      have h1 : w1.heap[wr.heap.size]? = some (.cells #[.int .i64 9995, .int .i64 9999] 33 (0, 0)) := by rw [hw1]; exact heap_alloc_new wr _
      have HW1 := Lib.hid hw1
      have HS := show_any 5 (-100000) 9995 w1
      rw [ex_3.1, ex_3.2] at HS
      have HS := Lib.hid HS
      rw [← HW1.out]
      clear hw1 g2 g3
      refine HS.out.mono ?_
      rintro e w2 ⟨rfl, f2⟩
      obtain ⟨z0, z1, -, -⟩ := two_cells (f2.blk h1 (fun h => h))
      have HF2 := Lib.hid ((F.out.noTrans f1).noTrans f2)
      clear f1 f2 h1 g0 g1
      go_wp2_with fail
      go_roundw
      case rel => exact ⟨4, by omega, rfl, HF2⟩
      case measure => simp [intOf]
    · have g0 := F.out.keepc c0
      have g1 := F.out.keepc c1
      clear c0 c1 p0 p1 p2 p3 p4 p5 p6 p7
      go_wp2_with fail
      have HB := begin_any 5 (-100000) 1 wr
      rw [ex_4.1, ex_4.2] at HB
      have HB := Lib.hid HB
      refine HB.out.mono ?_
      rintro e w2 ⟨rfl, f2⟩
      have HF2 := Lib.hid ((HF.out.noTrans F.out).noTrans f2)
      clear f2
      go_wp2_with fail
      go_ret
      exact ⟨rfl, HF2.out⟩
end Go.Proofs.Ythddkcbgmhijnaa
