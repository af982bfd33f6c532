/- The example of the chapter. -/
import Derived.Test.YtdenlinehjigaaaClr
namespace Go.Proofs.Ytdenlinehjigaaa
open Go.RowKit
set_option linter.unusedVariables false

def ss0 : List Src := [⟨0, 0, 0, [3], 100, 20, 30⟩]
def fs0 : List Fd := [⟨-1, -1, -1, 0, 50, 500⟩, ⟨1, -1, -1, 10, 20, 200⟩]
theorem aw_ck : ckS 1 2 ss0 fs0 = true := by decide
theorem aw_f0 : fcV true 1 0 3 5 fs0 = 500 ∧ fcE true 1 0 3 5 = 0 := by decide
theorem aw_f1 : fcV true 1 0 3 10 fs0 = 200 ∧ fcE true 1 0 3 10 = 0 := by decide
theorem aw_f2 : fcV true 1 0 3 20 fs0 = 500 ∧ fcE true 1 0 3 20 = 0 := by decide
theorem aw_f3 : fcV true 1 0 3 50 fs0 = 1000 ∧ fcE true 1 0 3 50 = 0 := by decide
theorem aw_on1 : onB ⟨0, 0, 0, [3], 100, 20, 30⟩ 95 121 = true := by decide
theorem aw_on2 : onB ⟨0, 0, 0, [3], 100, 20, 30⟩ 30 120 = false := by decide
theorem aw_du : duV ⟨0, 0, 0, [3], 100, 20, 30⟩ = 100 := by decide
theorem aw_cl : (clrL true ss0 0 21).length = 15 := by decide
theorem own_slice {b : Nat} {w : World} {v : Value} {l : List Int} (h : OwnI b w v l) : ∃ ao cap, v = .slice ao l.length cap := by
  rcases h.2 with ⟨rfl, hx⟩ | ⟨g, cap', cur, rfl, hB, _⟩
  · exact ⟨none, 0, by have := h.1; simp_all⟩
  · exact ⟨_, _, rfl⟩
theorem eight_cells {w : World} {B T : Nat} {c0 c1 c2 c3 c4 c5 c6 c7 : Value} (h : w.heap[B]? = some (.cells #[c0, c1, c2, c3, c4, c5, c6, c7] T (0, 0))) :
    w.cell? ⟨B, 0, none⟩ = some c0 ∧ w.cell? ⟨B, 1, none⟩ = some c1 ∧ w.cell? ⟨B, 2, none⟩ = some c2 ∧ w.cell? ⟨B, 3, none⟩ = some c3 ∧ w.cell? ⟨B, 4, none⟩ = some c4 ∧ w.cell? ⟨B, 5, none⟩ = some c5 ∧ w.cell? ⟨B, 6, none⟩ = some c6 ∧ w.cell? ⟨B, 7, none⟩ = some c7 := by
  simp [World.cell?, h]
/-- The example's memory. -/
structure Aw (w W : World) : Prop where
  f : Fr no w W
  ch : W.heap[w.heap.size]? = some (.cells #[.int .i64 3] 3 (0, 0))
  s : W.heap[w.heap.size + 1]? = some (.cells #[.int .i64 0, .int .i64 0, .int .i64 0, .slice (some ⟨w.heap.size, 0, none⟩) 1 1, .int .i64 100, .int .i64 20, .int .i64 30] 49 (0, 0))
  l : W.heap[w.heap.size + 1 + 1]? = some (.cells #[.int .i64 0, .int .i64 0, .int .i64 0, .slice (some ⟨w.heap.size, 0, none⟩) 1 1, .int .i64 100, .int .i64 20, .int .i64 30] 49 (0, 0))
  d : W.heap[w.heap.size + 1 + 1 + 1]? = some (.cells #[.int .i64 (-1), .int .i64 (-1), .int .i64 (-1), .int .i64 0, .int .i64 50, .int .i64 500, .int .i64 1, .int .i64 (-1), .int .i64 (-1), .int .i64 10, .int .i64 20, .int .i64 200] 66 (0, 0))
  x : W.heap[w.heap.size + 1 + 1 + 1 + 1]? = some (.cells #[.slice (some ⟨w.heap.size + 1 + 1, 0, none⟩) 1 1, .slice (some ⟨w.heap.size + 1 + 1 + 1, 0, none⟩) 2 2] 47 (0, 0))
  p : W.heap[w.heap.size + 1 + 1 + 1 + 1 + 1]? = some (.cells #[.int .i64 5, .int .i64 500, .int .i64 10, .int .i64 200, .int .i64 20, .int .i64 500, .int .i64 50, .int .i64 1000] 72 (0, 0))
theorem aw_new (w : World) : Aw w ((((((w.alloc (.cells #[.int .i64 3] 3 (0, 0))).alloc (.cells #[.int .i64 0, .int .i64 0, .int .i64 0, .slice (some ⟨w.heap.size, 0, none⟩) 1 1, .int .i64 100, .int .i64 20, .int .i64 30] 49 (0, 0))).alloc (.cells #[.int .i64 0, .int .i64 0, .int .i64 0, .slice (some ⟨w.heap.size, 0, none⟩) 1 1, .int .i64 100, .int .i64 20, .int .i64 30] 49 (0, 0))).alloc (.cells #[.int .i64 (-1), .int .i64 (-1), .int .i64 (-1), .int .i64 0, .int .i64 50, .int .i64 500, .int .i64 1, .int .i64 (-1), .int .i64 (-1), .int .i64 10, .int .i64 20, .int .i64 200] 66 (0, 0))).alloc (.cells #[.slice (some ⟨w.heap.size + 1 + 1, 0, none⟩) 1 1, .slice (some ⟨w.heap.size + 1 + 1 + 1, 0, none⟩) 2 2] 47 (0, 0))).alloc (.cells #[.int .i64 5, .int .i64 500, .int .i64 10, .int .i64 200, .int .i64 20, .int .i64 500, .int .i64 50, .int .i64 1000] 72 (0, 0))) := by
  refine ⟨((((((Fr.refl no w).alloc _).alloc _).alloc _).alloc _).alloc _).alloc _, ?_, ?_, ?_, ?_, ?_, ?_⟩
  · exact alloc_keeps (alloc_keeps (alloc_keeps (alloc_keeps (alloc_keeps (heap_alloc_new w _) _) _) _) _) _
  · exact alloc_keeps (alloc_keeps (alloc_keeps (alloc_keeps (by simpa using heap_alloc_new (w.alloc (.cells #[.int .i64 3] 3 (0, 0))) (.cells #[.int .i64 0, .int .i64 0, .int .i64 0, .slice (some ⟨w.heap.size, 0, none⟩) 1 1, .int .i64 100, .int .i64 20, .int .i64 30] 49 (0, 0))) _) _) _) _
  · exact alloc_keeps (alloc_keeps (alloc_keeps (by simpa using heap_alloc_new ((w.alloc (.cells #[.int .i64 3] 3 (0, 0))).alloc (.cells #[.int .i64 0, .int .i64 0, .int .i64 0, .slice (some ⟨w.heap.size, 0, none⟩) 1 1, .int .i64 100, .int .i64 20, .int .i64 30] 49 (0, 0))) (.cells #[.int .i64 0, .int .i64 0, .int .i64 0, .slice (some ⟨w.heap.size, 0, none⟩) 1 1, .int .i64 100, .int .i64 20, .int .i64 30] 49 (0, 0))) _) _) _
  · exact alloc_keeps (alloc_keeps (by simpa using heap_alloc_new (((w.alloc (.cells #[.int .i64 3] 3 (0, 0))).alloc (.cells #[.int .i64 0, .int .i64 0, .int .i64 0, .slice (some ⟨w.heap.size, 0, none⟩) 1 1, .int .i64 100, .int .i64 20, .int .i64 30] 49 (0, 0))).alloc (.cells #[.int .i64 0, .int .i64 0, .int .i64 0, .slice (some ⟨w.heap.size, 0, none⟩) 1 1, .int .i64 100, .int .i64 20, .int .i64 30] 49 (0, 0))) (.cells #[.int .i64 (-1), .int .i64 (-1), .int .i64 (-1), .int .i64 0, .int .i64 50, .int .i64 500, .int .i64 1, .int .i64 (-1), .int .i64 (-1), .int .i64 10, .int .i64 20, .int .i64 200] 66 (0, 0))) _) _
  · exact alloc_keeps (by simpa using heap_alloc_new ((((w.alloc (.cells #[.int .i64 3] 3 (0, 0))).alloc (.cells #[.int .i64 0, .int .i64 0, .int .i64 0, .slice (some ⟨w.heap.size, 0, none⟩) 1 1, .int .i64 100, .int .i64 20, .int .i64 30] 49 (0, 0))).alloc (.cells #[.int .i64 0, .int .i64 0, .int .i64 0, .slice (some ⟨w.heap.size, 0, none⟩) 1 1, .int .i64 100, .int .i64 20, .int .i64 30] 49 (0, 0))).alloc (.cells #[.int .i64 (-1), .int .i64 (-1), .int .i64 (-1), .int .i64 0, .int .i64 50, .int .i64 500, .int .i64 1, .int .i64 (-1), .int .i64 (-1), .int .i64 10, .int .i64 20, .int .i64 200] 66 (0, 0))) (.cells #[.slice (some ⟨w.heap.size + 1 + 1, 0, none⟩) 1 1, .slice (some ⟨w.heap.size + 1 + 1 + 1, 0, none⟩) 2 2] 47 (0, 0))) _
  · simpa using heap_alloc_new (((((w.alloc (.cells #[.int .i64 3] 3 (0, 0))).alloc (.cells #[.int .i64 0, .int .i64 0, .int .i64 0, .slice (some ⟨w.heap.size, 0, none⟩) 1 1, .int .i64 100, .int .i64 20, .int .i64 30] 49 (0, 0))).alloc (.cells #[.int .i64 0, .int .i64 0, .int .i64 0, .slice (some ⟨w.heap.size, 0, none⟩) 1 1, .int .i64 100, .int .i64 20, .int .i64 30] 49 (0, 0))).alloc (.cells #[.int .i64 (-1), .int .i64 (-1), .int .i64 (-1), .int .i64 0, .int .i64 50, .int .i64 500, .int .i64 1, .int .i64 (-1), .int .i64 (-1), .int .i64 10, .int .i64 20, .int .i64 200] 66 (0, 0))).alloc (.cells #[.slice (some ⟨w.heap.size + 1 + 1, 0, none⟩) 1 1, .slice (some ⟨w.heap.size + 1 + 1 + 1, 0, none⟩) 2 2] 47 (0, 0))) (.cells #[.int .i64 5, .int .i64 500, .int .i64 10, .int .i64 200, .int .i64 20, .int .i64 500, .int .i64 50, .int .i64 1000] 72 (0, 0))
theorem Aw.kept {w W W' : World} (h : Aw w W) (k : Fr no W W') : Aw w W' := ⟨h.f.noTrans k, k.blk h.ch (fun h => h), k.blk h.s (fun h => h), k.blk h.l (fun h => h), k.blk h.d (fun h => h), k.blk h.x (fun h => h), k.blk h.p (fun h => h)⟩
theorem Aw.ints {w W : World} (h : Aw w W) : IntsIn W (some ⟨w.heap.size, 0, none⟩) 1 [3] := ⟨rfl, fun i hi => by
  obtain rfl : i = 0 := by omega
  exact ⟨_, 0, rfl, by simp [World.cell?, h.ch]⟩⟩
theorem Aw.sp {w W : World} (h : Aw w W) : SpIn W (some ⟨w.heap.size + 1 + 1, 0, none⟩) 1 (some ⟨w.heap.size + 1 + 1 + 1, 0, none⟩) 2 ss0 fs0 := by
  refine ⟨⟨rfl, fun i hi => ?_⟩, ⟨rfl, fun i hi => ?_⟩, fun i hi => ?_⟩
  · obtain rfl : i = 0 := by omega
    obtain ⟨c0, c1, c2, c3, c4, c5, c6⟩ := seven_cells h.l
    exact ⟨_, 0, some ⟨w.heap.size, 0, none⟩, 1, rfl, h.ints, c0, c1, c2, c3, c4, c5, c6⟩
  · have hd := h.d
    rcases (show i = 0 ∨ i = 1 by omega) with rfl | rfl
    · refine ⟨_, 0, rfl, ?_, ?_, ?_, ?_, ?_, ?_⟩ <;> simp [World.cell?, hd, fs0, fdAt]
    · refine ⟨_, 0, rfl, ?_, ?_, ?_, ?_, ?_, ?_⟩ <;> simp [World.cell?, hd, fs0, fdAt]
  · obtain rfl : i = 0 := by omega
    exact (by decide : [(3 : Int)].length ≤ 40)
set_option maxHeartbeats 8000000 in
theorem awake6_any (w : World) : Calls Try.prog 27 #[] w fun e w' => e = .returned (.bool true) ∧ Fr no w w' := by
  obtain ⟨W, hW⟩ : ∃ W, W = (((((w.alloc (.cells #[.int .i64 3] 3 (0, 0))).alloc (.cells #[.int .i64 0, .int .i64 0, .int .i64 0, .slice (some ⟨w.heap.size, 0, none⟩) 1 1, .int .i64 100, .int .i64 20, .int .i64 30] 49 (0, 0))).alloc (.cells #[.int .i64 0, .int .i64 0, .int .i64 0, .slice (some ⟨w.heap.size, 0, none⟩) 1 1, .int .i64 100, .int .i64 20, .int .i64 30] 49 (0, 0))).alloc (.cells #[.int .i64 (-1), .int .i64 (-1), .int .i64 (-1), .int .i64 0, .int .i64 50, .int .i64 500, .int .i64 1, .int .i64 (-1), .int .i64 (-1), .int .i64 10, .int .i64 20, .int .i64 200] 66 (0, 0))).alloc (.cells #[.slice (some ⟨w.heap.size + 1 + 1, 0, none⟩) 1 1, .slice (some ⟨w.heap.size + 1 + 1 + 1, 0, none⟩) 2 2] 47 (0, 0))).alloc (.cells #[.int .i64 5, .int .i64 500, .int .i64 10, .int .i64 200, .int .i64 20, .int .i64 500, .int .i64 50, .int .i64 1000] 72 (0, 0)) := ⟨_, rfl⟩
  have HA := Lib.hid (show Aw w W by rw [hW]; exact aw_new w)
  have HW := Lib.hid hW
  clear hW
  go_enter Try.func27, Try.ntmps27
  go_wp2_with fail
  rw [← HW.out]
  go_loopw [4, 5, 6, 21] (fun _ _ _ i wr => ∃ k : Nat, k ≤ 4 ∧ i = .int .i64 k ∧ Hid (Fr no W wr)) (fun _ _ _ i _ => (4 - intOf i).toNat)
  case atStart => exact ⟨0, by omega, rfl, Lib.hid (Fr.refl no W)⟩
  case round =>
    obtain ⟨k, hk, rfl, F⟩ := hrel
    rcases (show k = 0 ∨ k = 1 ∨ k = 2 ∨ k = 3 ∨ k = 4 by omega) with rfl | rfl | rfl | rfl | rfl
    · have HA2 := Lib.hid (HA.out.kept F.out)
      obtain ⟨xb0, xb1⟩ := two_cells HA2.out.x
      obtain ⟨pb0, pb1, pb2, pb3, pb4, pb5, pb6, pb7⟩ := eight_cells HA2.out.p
      have hlt0 := World.block_lt_of_cell? wr _ xb0
      have hlt1 := World.block_lt_of_cell? wr _ pb0
      obtain ⟨w1, hw1⟩ : ∃ w1, w1 = wr.alloc (.cells #[.int .i64 5, .int .i64 500] 72 (0, 0)) := ⟨_, rfl⟩
      have f1 : Fr no wr w1 := by rw [hw1]; exact (Fr.refl no wr).alloc _
      have h1 := show w1.heap[wr.heap.size]? = some (.cells #[.int .i64 5, .int .i64 500] 72 (0, 0)) by rw [hw1]; exact heap_alloc_new wr _
      have HW1 := Lib.hid hw1
      have HS := factor_any (some ⟨w.heap.size + 1 + 1, 0, none⟩) 1 1 (some ⟨w.heap.size + 1 + 1 + 1, 0, none⟩) 2 2 ss0 fs0 1 0 3 5 w1 (HA2.out.kept f1).sp
      rw [aw_ck, aw_f0.1, aw_f0.2] at HS
      have HS := Lib.hid HS
      clear hw1
      go_wp2_with fail
      rw [← HW1.out]
      refine HS.out.mono ?_
      rintro e w2 ⟨rfl, f2⟩
      obtain ⟨z0, z1⟩ := two_cells (f2.blk h1 (fun h => h))
      have HF2 := Lib.hid ((F.out.noTrans f1).noTrans f2)
      clear f1 f2 h1 xb0 xb1 pb0 pb1 pb2 pb3 pb4 pb5 pb6 pb7
      go_wp2_with fail
      go_roundw
      case rel => exact ⟨1, by omega, rfl, HF2⟩
      case measure => simp [intOf]
    · have HA2 := Lib.hid (HA.out.kept F.out)
      obtain ⟨xb0, xb1⟩ := two_cells HA2.out.x
      obtain ⟨pb0, pb1, pb2, pb3, pb4, pb5, pb6, pb7⟩ := eight_cells HA2.out.p
      have hlt0 := World.block_lt_of_cell? wr _ xb0
      have hlt1 := World.block_lt_of_cell? wr _ pb0
      obtain ⟨w1, hw1⟩ : ∃ w1, w1 = wr.alloc (.cells #[.int .i64 10, .int .i64 200] 72 (0, 0)) := ⟨_, rfl⟩
      have f1 : Fr no wr w1 := by rw [hw1]; exact (Fr.refl no wr).alloc _
      have h1 := show w1.heap[wr.heap.size]? = some (.cells #[.int .i64 10, .int .i64 200] 72 (0, 0)) by rw [hw1]; exact heap_alloc_new wr _
      have HW1 := Lib.hid hw1
      have HS := factor_any (some ⟨w.heap.size + 1 + 1, 0, none⟩) 1 1 (some ⟨w.heap.size + 1 + 1 + 1, 0, none⟩) 2 2 ss0 fs0 1 0 3 10 w1 (HA2.out.kept f1).sp
      rw [aw_ck, aw_f1.1, aw_f1.2] at HS
      have HS := Lib.hid HS
      clear hw1
      go_wp2_with fail
      rw [← HW1.out]
      refine HS.out.mono ?_
      rintro e w2 ⟨rfl, f2⟩
      obtain ⟨z0, z1⟩ := two_cells (f2.blk h1 (fun h => h))
      have HF2 := Lib.hid ((F.out.noTrans f1).noTrans f2)
      clear f1 f2 h1 xb0 xb1 pb0 pb1 pb2 pb3 pb4 pb5 pb6 pb7
      go_wp2_with fail
      go_roundw
      case rel => exact ⟨2, by omega, rfl, HF2⟩
      case measure => simp [intOf]
    · have HA2 := Lib.hid (HA.out.kept F.out)
      obtain ⟨xb0, xb1⟩ := two_cells HA2.out.x
      obtain ⟨pb0, pb1, pb2, pb3, pb4, pb5, pb6, pb7⟩ := eight_cells HA2.out.p
      have hlt0 := World.block_lt_of_cell? wr _ xb0
      have hlt1 := World.block_lt_of_cell? wr _ pb0
      obtain ⟨w1, hw1⟩ : ∃ w1, w1 = wr.alloc (.cells #[.int .i64 20, .int .i64 500] 72 (0, 0)) := ⟨_, rfl⟩
      have f1 : Fr no wr w1 := by rw [hw1]; exact (Fr.refl no wr).alloc _
      have h1 := show w1.heap[wr.heap.size]? = some (.cells #[.int .i64 20, .int .i64 500] 72 (0, 0)) by rw [hw1]; exact heap_alloc_new wr _
      have HW1 := Lib.hid hw1
      have HS := factor_any (some ⟨w.heap.size + 1 + 1, 0, none⟩) 1 1 (some ⟨w.heap.size + 1 + 1 + 1, 0, none⟩) 2 2 ss0 fs0 1 0 3 20 w1 (HA2.out.kept f1).sp
      rw [aw_ck, aw_f2.1, aw_f2.2] at HS
      have HS := Lib.hid HS
      clear hw1
      go_wp2_with fail
      rw [← HW1.out]
      refine HS.out.mono ?_
      rintro e w2 ⟨rfl, f2⟩
      obtain ⟨z0, z1⟩ := two_cells (f2.blk h1 (fun h => h))
      have HF2 := Lib.hid ((F.out.noTrans f1).noTrans f2)
      clear f1 f2 h1 xb0 xb1 pb0 pb1 pb2 pb3 pb4 pb5 pb6 pb7
      go_wp2_with fail
      go_roundw
      case rel => exact ⟨3, by omega, rfl, HF2⟩
      case measure => simp [intOf]
    · have HA2 := Lib.hid (HA.out.kept F.out)
      obtain ⟨xb0, xb1⟩ := two_cells HA2.out.x
      obtain ⟨pb0, pb1, pb2, pb3, pb4, pb5, pb6, pb7⟩ := eight_cells HA2.out.p
      have hlt0 := World.block_lt_of_cell? wr _ xb0
      have hlt1 := World.block_lt_of_cell? wr _ pb0
      obtain ⟨w1, hw1⟩ : ∃ w1, w1 = wr.alloc (.cells #[.int .i64 50, .int .i64 1000] 72 (0, 0)) := ⟨_, rfl⟩
      have f1 : Fr no wr w1 := by rw [hw1]; exact (Fr.refl no wr).alloc _
      have h1 := show w1.heap[wr.heap.size]? = some (.cells #[.int .i64 50, .int .i64 1000] 72 (0, 0)) by rw [hw1]; exact heap_alloc_new wr _
      have HW1 := Lib.hid hw1
      have HS := factor_any (some ⟨w.heap.size + 1 + 1, 0, none⟩) 1 1 (some ⟨w.heap.size + 1 + 1 + 1, 0, none⟩) 2 2 ss0 fs0 1 0 3 50 w1 (HA2.out.kept f1).sp
      rw [aw_ck, aw_f3.1, aw_f3.2] at HS
      have HS := Lib.hid HS
      clear hw1
      go_wp2_with fail
      rw [← HW1.out]
      refine HS.out.mono ?_
      rintro e w2 ⟨rfl, f2⟩
      obtain ⟨z0, z1⟩ := two_cells (f2.blk h1 (fun h => h))
      have HF2 := Lib.hid ((F.out.noTrans f1).noTrans f2)
      clear f1 f2 h1 xb0 xb1 pb0 pb1 pb2 pb3 pb4 pb5 pb6 pb7
      go_wp2_with fail
      go_roundw
      case rel => exact ⟨4, by omega, rfl, HF2⟩
      case measure => simp [intOf]
    · have HA2 := Lib.hid (HA.out.kept F.out)
      obtain ⟨xb0, xb1⟩ := two_cells HA2.out.x
      have HS := checkS_any (some ⟨w.heap.size + 1 + 1, 0, none⟩) 1 1 (some ⟨w.heap.size + 1 + 1 + 1, 0, none⟩) 2 2 ss0 fs0 wr HA2.out.sp.s HA2.out.sp.f HA2.out.sp.c
      rw [aw_ck, show ckE true = 0 from rfl] at HS
      have HS := Lib.hid HS
      go_wp2_with fail
      refine HS.out.mono ?_
      rintro e v0 ⟨rfl, f2⟩
      have HA2 := Lib.hid (HA2.out.kept f2)
      clear f2 xb0 xb1
      obtain ⟨sb0, sb1, sb2, sb3, sb4, sb5, sb6⟩ := seven_cells HA2.out.s
      have HS := on_any (some ⟨w.heap.size, 0, none⟩) 1 ⟨0, 0, 0, [3], 100, 20, 30⟩ 95 121 v0 HA2.out.ints (by decide)
      rw [aw_on1] at HS
      have HS := Lib.hid HS
      go_wp2_with fail
      refine HS.out.mono ?_
      rintro e v1 ⟨rfl, f2⟩
      have HA2 := Lib.hid (HA2.out.kept f2)
      clear f2 sb0 sb1 sb2 sb3 sb4 sb5 sb6
      obtain ⟨sb0, sb1, sb2, sb3, sb4, sb5, sb6⟩ := seven_cells HA2.out.s
      have HS := on_any (some ⟨w.heap.size, 0, none⟩) 1 ⟨0, 0, 0, [3], 100, 20, 30⟩ 30 120 v1 HA2.out.ints (by decide)
      rw [aw_on2] at HS
      have HS := Lib.hid HS
      go_wp2_with fail
      refine HS.out.mono ?_
      rintro e v2 ⟨rfl, f2⟩
      have HA2 := Lib.hid (HA2.out.kept f2)
      clear f2 sb0 sb1 sb2 sb3 sb4 sb5 sb6
      obtain ⟨sb0, sb1, sb2, sb3, sb4, sb5, sb6⟩ := seven_cells HA2.out.s
      have HS := duty_any (some ⟨w.heap.size, 0, none⟩) 1 ⟨0, 0, 0, [3], 100, 20, 30⟩ v2 HA2.out.ints (by decide)
      rw [aw_du] at HS
      have HS := Lib.hid HS
      go_wp2_with fail
      refine HS.out.mono ?_
      rintro e v3 ⟨rfl, f2⟩
      have HA2 := Lib.hid (HA2.out.kept f2)
      clear f2 sb0 sb1 sb2 sb3 sb4 sb5 sb6
      obtain ⟨xb0, xb1⟩ := two_cells HA2.out.x
      have HS := clear_any (some ⟨w.heap.size + 1 + 1, 0, none⟩) 1 1 (some ⟨w.heap.size + 1 + 1 + 1, 0, none⟩) 2 2 ss0 fs0 0 21 v3 HA2.out.sp
      rw [aw_ck] at HS
      have HS := Lib.hid HS
      go_wp2_with fail
      refine HS.out.mono ?_
      rintro e v4 ⟨v, rfl, ho, f2⟩
      obtain ⟨ao, cap, rfl⟩ := own_slice ho
      rw [aw_cl]
      have HF9 := Lib.hid (HA2.out.f.noTrans f2)
      clear ho f2 xb0 xb1
      go_wp2_with fail
      go_ret
      exact ⟨rfl, HF9.out⟩
end Go.Proofs.Ytdenlinehjigaaa
