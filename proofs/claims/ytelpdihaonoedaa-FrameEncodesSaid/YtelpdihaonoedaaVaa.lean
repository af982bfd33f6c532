/- isValid. -/
import Derived.Test.YtelpdihaonoedaaNam
namespace Go.Proofs.Ytelpdihaonoedaa
open Go.RowKit
set_option linter.unusedVariables false
set_option maxRecDepth 20000

set_option maxHeartbeats 4000000 in
theorem valid_0 (k s t l q f n e sl r ep : Int) (d : ByteArray) (w : World) (K0 : Hid (∀ w : World, Calls Try.prog 66 #[.int .i64 k, .int .i64 1, .int .i64 4] w fun e w' => e = .returned (.bool false) ∧ w' = w)) :
    Calls Try.prog 30 #[.agg #[.int .i64 k, .int .i64 s, .int .i64 t, .int .i64 l, .int .i64 q, .int .i64 f, .int .i64 n, .int .i64 e, .int .i64 sl, .int .i64 r, .int .i64 ep, .string d]] w fun e w' => e = .returned (.bool false) ∧ Fr no w w' := by
  have HF := Lib.hid (Fr.refl no w)
  go_enter Try.func30, Try.ntmps30
  go_wp2_with fail
  obtain ⟨W, hW⟩ : ∃ W, W = w.alloc (.cells #[.int .i64 k, .int .i64 s, .int .i64 t, .int .i64 l, .int .i64 q, .int .i64 f, .int .i64 n, .int .i64 e, .int .i64 sl, .int .i64 r, .int .i64 ep, .string d] 23 (0, 0)) := ⟨_, rfl⟩
  have hB : W.heap[w.heap.size]? = some (.cells #[.int .i64 k, .int .i64 s, .int .i64 t, .int .i64 l, .int .i64 q, .int .i64 f, .int .i64 n, .int .i64 e, .int .i64 sl, .int .i64 r, .int .i64 ep, .string d] 23 (0, 0)) := by rw [hW]; exact heap_alloc_new w _
  have HW := Lib.hid (show Fr no w W by rw [hW]; exact HF.out.alloc _)
  rw [← hW]
  clear hW
  obtain ⟨c0, c1, c2, c3, c4, c5, c6, c7, c8, c9, c10, c11⟩ := twelve_cells hB
  have p0 : ∀ p : Past W, p.u.cell? ⟨w.heap.size, 0, none⟩ = some (.int .i64 k) := fun p => p.h.keepc c0
  have p1 : ∀ p : Past W, p.u.cell? ⟨w.heap.size, 1, none⟩ = some (.int .i64 s) := fun p => p.h.keepc c1
  have p2 : ∀ p : Past W, p.u.cell? ⟨w.heap.size, 2, none⟩ = some (.int .i64 t) := fun p => p.h.keepc c2
  have p3 : ∀ p : Past W, p.u.cell? ⟨w.heap.size, 3, none⟩ = some (.int .i64 l) := fun p => p.h.keepc c3
  have p4 : ∀ p : Past W, p.u.cell? ⟨w.heap.size, 4, none⟩ = some (.int .i64 q) := fun p => p.h.keepc c4
  have p5 : ∀ p : Past W, p.u.cell? ⟨w.heap.size, 5, none⟩ = some (.int .i64 f) := fun p => p.h.keepc c5
  have p6 : ∀ p : Past W, p.u.cell? ⟨w.heap.size, 6, none⟩ = some (.int .i64 n) := fun p => p.h.keepc c6
  have p7 : ∀ p : Past W, p.u.cell? ⟨w.heap.size, 7, none⟩ = some (.int .i64 e) := fun p => p.h.keepc c7
  have p8 : ∀ p : Past W, p.u.cell? ⟨w.heap.size, 8, none⟩ = some (.int .i64 sl) := fun p => p.h.keepc c8
  have p9 : ∀ p : Past W, p.u.cell? ⟨w.heap.size, 9, none⟩ = some (.int .i64 r) := fun p => p.h.keepc c9
  have p10 : ∀ p : Past W, p.u.cell? ⟨w.heap.size, 10, none⟩ = some (.int .i64 ep) := fun p => p.h.keepc c10
  have p11 : ∀ p : Past W, p.u.cell? ⟨w.heap.size, 11, none⟩ = some (.string d) := fun p => p.h.keepc c11
  clear c0 c1 c2 c3 c4 c5 c6 c7 c8 c9 c10 c11 hB
  refine wp_region_past (by kernel_rfl) (by kernel_rfl) ?_
  repeat (go_big_quiet_step (first | rfl | (go_at_call_of 66 k; refine past_same (K0.out _))))
  refine wpQuiet_nil ?_
  intro w3 hp
  have HF3 := Lib.hid (HW.out.noTrans (past_out hp))
  clear hp p0 p1 p2 p3 p4 p5 p6 p7 p8 p9 p10 p11
  go_wp2_with fail
  go_ret
  exact ⟨rfl, HF3.out⟩
set_option maxHeartbeats 4000000 in
theorem valid_1 (k s t l q f n e sl r ep k1 s1 t1 l1 q1 f1 n1 e1 sl1 r1 ep1 : Int) (d d1 : ByteArray) (w : World) (K0 : Hid (∀ w : World, Calls Try.prog 66 #[.int .i64 k, .int .i64 1, .int .i64 4] w fun e w' => e = .returned (.bool true) ∧ w' = w)) (K1 : Hid (∀ w : World, Calls Try.prog 67 #[.agg #[.int .i64 k, .int .i64 s, .int .i64 t, .int .i64 l, .int .i64 q, .int .i64 f, .int .i64 n, .int .i64 e, .int .i64 sl, .int .i64 r, .int .i64 ep, .string d]] w fun e w' => e = .returned (.agg #[.int .i64 k1, .int .i64 s1, .int .i64 t1, .int .i64 l1, .int .i64 q1, .int .i64 f1, .int .i64 n1, .int .i64 e1, .int .i64 sl1, .int .i64 r1, .int .i64 ep1, .string d1]) ∧ Fr no w w')) (E1 : ∀ w : World, (binOp .eql 23 (.agg #[.int .i64 k, .int .i64 s, .int .i64 t, .int .i64 l, .int .i64 q, .int .i64 f, .int .i64 n, .int .i64 e, .int .i64 sl, .int .i64 r, .int .i64 ep, .string d]) (.agg #[.int .i64 k1, .int .i64 s1, .int .i64 t1, .int .i64 l1, .int .i64 q1, .int .i64 f1, .int .i64 n1, .int .i64 e1, .int .i64 sl1, .int .i64 r1, .int .i64 ep1, .string d1])).run Try.prog w = .ok (.bool false) w) :
    Calls Try.prog 30 #[.agg #[.int .i64 k, .int .i64 s, .int .i64 t, .int .i64 l, .int .i64 q, .int .i64 f, .int .i64 n, .int .i64 e, .int .i64 sl, .int .i64 r, .int .i64 ep, .string d]] w fun e w' => e = .returned (.bool false) ∧ Fr no w w' := by
  have HF := Lib.hid (Fr.refl no w)
  go_enter Try.func30, Try.ntmps30
  go_wp2_with fail
  obtain ⟨W, hW⟩ : ∃ W, W = w.alloc (.cells #[.int .i64 k, .int .i64 s, .int .i64 t, .int .i64 l, .int .i64 q, .int .i64 f, .int .i64 n, .int .i64 e, .int .i64 sl, .int .i64 r, .int .i64 ep, .string d] 23 (0, 0)) := ⟨_, rfl⟩
  have hB : W.heap[w.heap.size]? = some (.cells #[.int .i64 k, .int .i64 s, .int .i64 t, .int .i64 l, .int .i64 q, .int .i64 f, .int .i64 n, .int .i64 e, .int .i64 sl, .int .i64 r, .int .i64 ep, .string d] 23 (0, 0)) := by rw [hW]; exact heap_alloc_new w _
  have HW := Lib.hid (show Fr no w W by rw [hW]; exact HF.out.alloc _)
  rw [← hW]
  clear hW
  obtain ⟨c0, c1, c2, c3, c4, c5, c6, c7, c8, c9, c10, c11⟩ := twelve_cells hB
  have p0 : ∀ p : Past W, p.u.cell? ⟨w.heap.size, 0, none⟩ = some (.int .i64 k) := fun p => p.h.keepc c0
  have p1 : ∀ p : Past W, p.u.cell? ⟨w.heap.size, 1, none⟩ = some (.int .i64 s) := fun p => p.h.keepc c1
  have p2 : ∀ p : Past W, p.u.cell? ⟨w.heap.size, 2, none⟩ = some (.int .i64 t) := fun p => p.h.keepc c2
  have p3 : ∀ p : Past W, p.u.cell? ⟨w.heap.size, 3, none⟩ = some (.int .i64 l) := fun p => p.h.keepc c3
  have p4 : ∀ p : Past W, p.u.cell? ⟨w.heap.size, 4, none⟩ = some (.int .i64 q) := fun p => p.h.keepc c4
  have p5 : ∀ p : Past W, p.u.cell? ⟨w.heap.size, 5, none⟩ = some (.int .i64 f) := fun p => p.h.keepc c5
  have p6 : ∀ p : Past W, p.u.cell? ⟨w.heap.size, 6, none⟩ = some (.int .i64 n) := fun p => p.h.keepc c6
  have p7 : ∀ p : Past W, p.u.cell? ⟨w.heap.size, 7, none⟩ = some (.int .i64 e) := fun p => p.h.keepc c7
  have p8 : ∀ p : Past W, p.u.cell? ⟨w.heap.size, 8, none⟩ = some (.int .i64 sl) := fun p => p.h.keepc c8
  have p9 : ∀ p : Past W, p.u.cell? ⟨w.heap.size, 9, none⟩ = some (.int .i64 r) := fun p => p.h.keepc c9
  have p10 : ∀ p : Past W, p.u.cell? ⟨w.heap.size, 10, none⟩ = some (.int .i64 ep) := fun p => p.h.keepc c10
  have p11 : ∀ p : Past W, p.u.cell? ⟨w.heap.size, 11, none⟩ = some (.string d) := fun p => p.h.keepc c11
  clear c0 c1 c2 c3 c4 c5 c6 c7 c8 c9 c10 c11 hB
  refine wp_region_past (by kernel_rfl) (by kernel_rfl) ?_
  repeat (go_big_quiet_step (first | rfl | exact E1 _ | (go_at_call_of 66 k; refine past_same (K0.out _)) | (go_at_call 67; refine past_of (K1.out _))))
  refine wpQuiet_nil ?_
  intro w3 hp
  have HF3 := Lib.hid (HW.out.noTrans (past_out hp))
  clear hp p0 p1 p2 p3 p4 p5 p6 p7 p8 p9 p10 p11
  go_wp2_with fail
  go_ret
  exact ⟨rfl, HF3.out⟩
set_option maxHeartbeats 4000000 in
theorem valid_2 (k s t l q f n e sl r ep k1 s1 t1 l1 q1 f1 n1 e1 sl1 r1 ep1 : Int) (d d1 : ByteArray) (w : World) (K0 : Hid (∀ w : World, Calls Try.prog 66 #[.int .i64 k, .int .i64 1, .int .i64 4] w fun e w' => e = .returned (.bool true) ∧ w' = w)) (K1 : Hid (∀ w : World, Calls Try.prog 67 #[.agg #[.int .i64 k, .int .i64 s, .int .i64 t, .int .i64 l, .int .i64 q, .int .i64 f, .int .i64 n, .int .i64 e, .int .i64 sl, .int .i64 r, .int .i64 ep, .string d]] w fun e w' => e = .returned (.agg #[.int .i64 k1, .int .i64 s1, .int .i64 t1, .int .i64 l1, .int .i64 q1, .int .i64 f1, .int .i64 n1, .int .i64 e1, .int .i64 sl1, .int .i64 r1, .int .i64 ep1, .string d1]) ∧ Fr no w w')) (E1 : ∀ w : World, (binOp .eql 23 (.agg #[.int .i64 k, .int .i64 s, .int .i64 t, .int .i64 l, .int .i64 q, .int .i64 f, .int .i64 n, .int .i64 e, .int .i64 sl, .int .i64 r, .int .i64 ep, .string d]) (.agg #[.int .i64 k1, .int .i64 s1, .int .i64 t1, .int .i64 l1, .int .i64 q1, .int .i64 f1, .int .i64 n1, .int .i64 e1, .int .i64 sl1, .int .i64 r1, .int .i64 ep1, .string d1])).run Try.prog w = .ok (.bool true) w) (K2 : Hid (∀ w : World, Calls Try.prog 68 #[.agg #[.int .i64 k, .int .i64 s, .int .i64 t, .int .i64 l, .int .i64 q, .int .i64 f, .int .i64 n, .int .i64 e, .int .i64 sl, .int .i64 r, .int .i64 ep, .string d]] w fun e w' => e = .returned (.bool false) ∧ Fr no w w')) :
    Calls Try.prog 30 #[.agg #[.int .i64 k, .int .i64 s, .int .i64 t, .int .i64 l, .int .i64 q, .int .i64 f, .int .i64 n, .int .i64 e, .int .i64 sl, .int .i64 r, .int .i64 ep, .string d]] w fun e w' => e = .returned (.bool false) ∧ Fr no w w' := by
  have HF := Lib.hid (Fr.refl no w)
  go_enter Try.func30, Try.ntmps30
  go_wp2_with fail
  obtain ⟨W, hW⟩ : ∃ W, W = w.alloc (.cells #[.int .i64 k, .int .i64 s, .int .i64 t, .int .i64 l, .int .i64 q, .int .i64 f, .int .i64 n, .int .i64 e, .int .i64 sl, .int .i64 r, .int .i64 ep, .string d] 23 (0, 0)) := ⟨_, rfl⟩
  have hB : W.heap[w.heap.size]? = some (.cells #[.int .i64 k, .int .i64 s, .int .i64 t, .int .i64 l, .int .i64 q, .int .i64 f, .int .i64 n, .int .i64 e, .int .i64 sl, .int .i64 r, .int .i64 ep, .string d] 23 (0, 0)) := by rw [hW]; exact heap_alloc_new w _
  have HW := Lib.hid (show Fr no w W by rw [hW]; exact HF.out.alloc _)
  rw [← hW]
  clear hW
  obtain ⟨c0, c1, c2, c3, c4, c5, c6, c7, c8, c9, c10, c11⟩ := twelve_cells hB
  have p0 : ∀ p : Past W, p.u.cell? ⟨w.heap.size, 0, none⟩ = some (.int .i64 k) := fun p => p.h.keepc c0
  have p1 : ∀ p : Past W, p.u.cell? ⟨w.heap.size, 1, none⟩ = some (.int .i64 s) := fun p => p.h.keepc c1
  have p2 : ∀ p : Past W, p.u.cell? ⟨w.heap.size, 2, none⟩ = some (.int .i64 t) := fun p => p.h.keepc c2
  have p3 : ∀ p : Past W, p.u.cell? ⟨w.heap.size, 3, none⟩ = some (.int .i64 l) := fun p => p.h.keepc c3
  have p4 : ∀ p : Past W, p.u.cell? ⟨w.heap.size, 4, none⟩ = some (.int .i64 q) := fun p => p.h.keepc c4
  have p5 : ∀ p : Past W, p.u.cell? ⟨w.heap.size, 5, none⟩ = some (.int .i64 f) := fun p => p.h.keepc c5
  have p6 : ∀ p : Past W, p.u.cell? ⟨w.heap.size, 6, none⟩ = some (.int .i64 n) := fun p => p.h.keepc c6
  have p7 : ∀ p : Past W, p.u.cell? ⟨w.heap.size, 7, none⟩ = some (.int .i64 e) := fun p => p.h.keepc c7
  have p8 : ∀ p : Past W, p.u.cell? ⟨w.heap.size, 8, none⟩ = some (.int .i64 sl) := fun p => p.h.keepc c8
  have p9 : ∀ p : Past W, p.u.cell? ⟨w.heap.size, 9, none⟩ = some (.int .i64 r) := fun p => p.h.keepc c9
  have p10 : ∀ p : Past W, p.u.cell? ⟨w.heap.size, 10, none⟩ = some (.int .i64 ep) := fun p => p.h.keepc c10
  have p11 : ∀ p : Past W, p.u.cell? ⟨w.heap.size, 11, none⟩ = some (.string d) := fun p => p.h.keepc c11
  clear c0 c1 c2 c3 c4 c5 c6 c7 c8 c9 c10 c11 hB
  refine wp_region_past (by kernel_rfl) (by kernel_rfl) ?_
  repeat (go_big_quiet_step (first | rfl | exact E1 _ | (go_at_call_of 66 k; refine past_same (K0.out _)) | (go_at_call 67; refine past_of (K1.out _)) | (go_at_call 68; refine past_of (K2.out _))))
  refine wpQuiet_nil ?_
  intro w3 hp
  have HF3 := Lib.hid (HW.out.noTrans (past_out hp))
  clear hp p0 p1 p2 p3 p4 p5 p6 p7 p8 p9 p10 p11
  go_wp2_with fail
  go_ret
  exact ⟨rfl, HF3.out⟩
set_option maxHeartbeats 4000000 in
theorem valid_3 (k s t l q f n e sl r ep k1 s1 t1 l1 q1 f1 n1 e1 sl1 r1 ep1 : Int) (d d1 : ByteArray) (w : World) (K0 : Hid (∀ w : World, Calls Try.prog 66 #[.int .i64 k, .int .i64 1, .int .i64 4] w fun e w' => e = .returned (.bool true) ∧ w' = w)) (K1 : Hid (∀ w : World, Calls Try.prog 67 #[.agg #[.int .i64 k, .int .i64 s, .int .i64 t, .int .i64 l, .int .i64 q, .int .i64 f, .int .i64 n, .int .i64 e, .int .i64 sl, .int .i64 r, .int .i64 ep, .string d]] w fun e w' => e = .returned (.agg #[.int .i64 k1, .int .i64 s1, .int .i64 t1, .int .i64 l1, .int .i64 q1, .int .i64 f1, .int .i64 n1, .int .i64 e1, .int .i64 sl1, .int .i64 r1, .int .i64 ep1, .string d1]) ∧ Fr no w w')) (E1 : ∀ w : World, (binOp .eql 23 (.agg #[.int .i64 k, .int .i64 s, .int .i64 t, .int .i64 l, .int .i64 q, .int .i64 f, .int .i64 n, .int .i64 e, .int .i64 sl, .int .i64 r, .int .i64 ep, .string d]) (.agg #[.int .i64 k1, .int .i64 s1, .int .i64 t1, .int .i64 l1, .int .i64 q1, .int .i64 f1, .int .i64 n1, .int .i64 e1, .int .i64 sl1, .int .i64 r1, .int .i64 ep1, .string d1])).run Try.prog w = .ok (.bool true) w) (K2 : Hid (∀ w : World, Calls Try.prog 68 #[.agg #[.int .i64 k, .int .i64 s, .int .i64 t, .int .i64 l, .int .i64 q, .int .i64 f, .int .i64 n, .int .i64 e, .int .i64 sl, .int .i64 r, .int .i64 ep, .string d]] w fun e w' => e = .returned (.bool true) ∧ Fr no w w')) (K3 : Hid (∀ w : World, Calls Try.prog 56 #[.int .i64 l] w fun e w' => e = .returned (.bool false) ∧ w' = w)) :
    Calls Try.prog 30 #[.agg #[.int .i64 k, .int .i64 s, .int .i64 t, .int .i64 l, .int .i64 q, .int .i64 f, .int .i64 n, .int .i64 e, .int .i64 sl, .int .i64 r, .int .i64 ep, .string d]] w fun e w' => e = .returned (.bool false) ∧ Fr no w w' := by
  have HF := Lib.hid (Fr.refl no w)
  go_enter Try.func30, Try.ntmps30
  go_wp2_with fail
  obtain ⟨W, hW⟩ : ∃ W, W = w.alloc (.cells #[.int .i64 k, .int .i64 s, .int .i64 t, .int .i64 l, .int .i64 q, .int .i64 f, .int .i64 n, .int .i64 e, .int .i64 sl, .int .i64 r, .int .i64 ep, .string d] 23 (0, 0)) := ⟨_, rfl⟩
  have hB : W.heap[w.heap.size]? = some (.cells #[.int .i64 k, .int .i64 s, .int .i64 t, .int .i64 l, .int .i64 q, .int .i64 f, .int .i64 n, .int .i64 e, .int .i64 sl, .int .i64 r, .int .i64 ep, .string d] 23 (0, 0)) := by rw [hW]; exact heap_alloc_new w _
  have HW := Lib.hid (show Fr no w W by rw [hW]; exact HF.out.alloc _)
  rw [← hW]
  clear hW
  obtain ⟨c0, c1, c2, c3, c4, c5, c6, c7, c8, c9, c10, c11⟩ := twelve_cells hB
  have p0 : ∀ p : Past W, p.u.cell? ⟨w.heap.size, 0, none⟩ = some (.int .i64 k) := fun p => p.h.keepc c0
  have p1 : ∀ p : Past W, p.u.cell? ⟨w.heap.size, 1, none⟩ = some (.int .i64 s) := fun p => p.h.keepc c1
  have p2 : ∀ p : Past W, p.u.cell? ⟨w.heap.size, 2, none⟩ = some (.int .i64 t) := fun p => p.h.keepc c2
  have p3 : ∀ p : Past W, p.u.cell? ⟨w.heap.size, 3, none⟩ = some (.int .i64 l) := fun p => p.h.keepc c3
  have p4 : ∀ p : Past W, p.u.cell? ⟨w.heap.size, 4, none⟩ = some (.int .i64 q) := fun p => p.h.keepc c4
  have p5 : ∀ p : Past W, p.u.cell? ⟨w.heap.size, 5, none⟩ = some (.int .i64 f) := fun p => p.h.keepc c5
  have p6 : ∀ p : Past W, p.u.cell? ⟨w.heap.size, 6, none⟩ = some (.int .i64 n) := fun p => p.h.keepc c6
  have p7 : ∀ p : Past W, p.u.cell? ⟨w.heap.size, 7, none⟩ = some (.int .i64 e) := fun p => p.h.keepc c7
  have p8 : ∀ p : Past W, p.u.cell? ⟨w.heap.size, 8, none⟩ = some (.int .i64 sl) := fun p => p.h.keepc c8
  have p9 : ∀ p : Past W, p.u.cell? ⟨w.heap.size, 9, none⟩ = some (.int .i64 r) := fun p => p.h.keepc c9
  have p10 : ∀ p : Past W, p.u.cell? ⟨w.heap.size, 10, none⟩ = some (.int .i64 ep) := fun p => p.h.keepc c10
  have p11 : ∀ p : Past W, p.u.cell? ⟨w.heap.size, 11, none⟩ = some (.string d) := fun p => p.h.keepc c11
  clear c0 c1 c2 c3 c4 c5 c6 c7 c8 c9 c10 c11 hB
  refine wp_region_past (by kernel_rfl) (by kernel_rfl) ?_
  repeat (go_big_quiet_step (first | rfl | exact E1 _ | (go_at_call_of 66 k; refine past_same (K0.out _)) | (go_at_call 67; refine past_of (K1.out _)) | (go_at_call 68; refine past_of (K2.out _)) | (go_at_call_of 56 l; refine past_same (K3.out _))))
  refine wpQuiet_nil ?_
  intro w3 hp
  have HF3 := Lib.hid (HW.out.noTrans (past_out hp))
  clear hp p0 p1 p2 p3 p4 p5 p6 p7 p8 p9 p10 p11
  go_wp2_with fail
  go_ret
  exact ⟨rfl, HF3.out⟩
set_option maxHeartbeats 4000000 in
theorem valid_4 (k s t l q f n e sl r ep k1 s1 t1 l1 q1 f1 n1 e1 sl1 r1 ep1 : Int) (d d1 : ByteArray) (w : World) (K0 : Hid (∀ w : World, Calls Try.prog 66 #[.int .i64 k, .int .i64 1, .int .i64 4] w fun e w' => e = .returned (.bool true) ∧ w' = w)) (K1 : Hid (∀ w : World, Calls Try.prog 67 #[.agg #[.int .i64 k, .int .i64 s, .int .i64 t, .int .i64 l, .int .i64 q, .int .i64 f, .int .i64 n, .int .i64 e, .int .i64 sl, .int .i64 r, .int .i64 ep, .string d]] w fun e w' => e = .returned (.agg #[.int .i64 k1, .int .i64 s1, .int .i64 t1, .int .i64 l1, .int .i64 q1, .int .i64 f1, .int .i64 n1, .int .i64 e1, .int .i64 sl1, .int .i64 r1, .int .i64 ep1, .string d1]) ∧ Fr no w w')) (E1 : ∀ w : World, (binOp .eql 23 (.agg #[.int .i64 k, .int .i64 s, .int .i64 t, .int .i64 l, .int .i64 q, .int .i64 f, .int .i64 n, .int .i64 e, .int .i64 sl, .int .i64 r, .int .i64 ep, .string d]) (.agg #[.int .i64 k1, .int .i64 s1, .int .i64 t1, .int .i64 l1, .int .i64 q1, .int .i64 f1, .int .i64 n1, .int .i64 e1, .int .i64 sl1, .int .i64 r1, .int .i64 ep1, .string d1])).run Try.prog w = .ok (.bool true) w) (K2 : Hid (∀ w : World, Calls Try.prog 68 #[.agg #[.int .i64 k, .int .i64 s, .int .i64 t, .int .i64 l, .int .i64 q, .int .i64 f, .int .i64 n, .int .i64 e, .int .i64 sl, .int .i64 r, .int .i64 ep, .string d]] w fun e w' => e = .returned (.bool true) ∧ Fr no w w')) (K3 : Hid (∀ w : World, Calls Try.prog 56 #[.int .i64 l] w fun e w' => e = .returned (.bool true) ∧ w' = w)) (K4 : Hid (∀ w : World, Calls Try.prog 56 #[.int .i64 q] w fun e w' => e = .returned (.bool false) ∧ w' = w)) :
    Calls Try.prog 30 #[.agg #[.int .i64 k, .int .i64 s, .int .i64 t, .int .i64 l, .int .i64 q, .int .i64 f, .int .i64 n, .int .i64 e, .int .i64 sl, .int .i64 r, .int .i64 ep, .string d]] w fun e w' => e = .returned (.bool false) ∧ Fr no w w' := by
  have HF := Lib.hid (Fr.refl no w)
  go_enter Try.func30, Try.ntmps30
  go_wp2_with fail
  obtain ⟨W, hW⟩ : ∃ W, W = w.alloc (.cells #[.int .i64 k, .int .i64 s, .int .i64 t, .int .i64 l, .int .i64 q, .int .i64 f, .int .i64 n, .int .i64 e, .int .i64 sl, .int .i64 r, .int .i64 ep, .string d] 23 (0, 0)) := ⟨_, rfl⟩
  have hB : W.heap[w.heap.size]? = some (.cells #[.int .i64 k, .int .i64 s, .int .i64 t, .int .i64 l, .int .i64 q, .int .i64 f, .int .i64 n, .int .i64 e, .int .i64 sl, .int .i64 r, .int .i64 ep, .string d] 23 (0, 0)) := by rw [hW]; exact heap_alloc_new w _
  have HW := Lib.hid (show Fr no w W by rw [hW]; exact HF.out.alloc _)
  rw [← hW]
  clear hW
  obtain ⟨c0, c1, c2, c3, c4, c5, c6, c7, c8, c9, c10, c11⟩ := twelve_cells hB
  have p0 : ∀ p : Past W, p.u.cell? ⟨w.heap.size, 0, none⟩ = some (.int .i64 k) := fun p => p.h.keepc c0
  have p1 : ∀ p : Past W, p.u.cell? ⟨w.heap.size, 1, none⟩ = some (.int .i64 s) := fun p => p.h.keepc c1
  have p2 : ∀ p : Past W, p.u.cell? ⟨w.heap.size, 2, none⟩ = some (.int .i64 t) := fun p => p.h.keepc c2
  have p3 : ∀ p : Past W, p.u.cell? ⟨w.heap.size, 3, none⟩ = some (.int .i64 l) := fun p => p.h.keepc c3
  have p4 : ∀ p : Past W, p.u.cell? ⟨w.heap.size, 4, none⟩ = some (.int .i64 q) := fun p => p.h.keepc c4
  have p5 : ∀ p : Past W, p.u.cell? ⟨w.heap.size, 5, none⟩ = some (.int .i64 f) := fun p => p.h.keepc c5
  have p6 : ∀ p : Past W, p.u.cell? ⟨w.heap.size, 6, none⟩ = some (.int .i64 n) := fun p => p.h.keepc c6
  have p7 : ∀ p : Past W, p.u.cell? ⟨w.heap.size, 7, none⟩ = some (.int .i64 e) := fun p => p.h.keepc c7
  have p8 : ∀ p : Past W, p.u.cell? ⟨w.heap.size, 8, none⟩ = some (.int .i64 sl) := fun p => p.h.keepc c8
  have p9 : ∀ p : Past W, p.u.cell? ⟨w.heap.size, 9, none⟩ = some (.int .i64 r) := fun p => p.h.keepc c9
  have p10 : ∀ p : Past W, p.u.cell? ⟨w.heap.size, 10, none⟩ = some (.int .i64 ep) := fun p => p.h.keepc c10
  have p11 : ∀ p : Past W, p.u.cell? ⟨w.heap.size, 11, none⟩ = some (.string d) := fun p => p.h.keepc c11
  clear c0 c1 c2 c3 c4 c5 c6 c7 c8 c9 c10 c11 hB
  refine wp_region_past (by kernel_rfl) (by kernel_rfl) ?_
  repeat (go_big_quiet_step (first | rfl | exact E1 _ | (go_at_call_of 66 k; refine past_same (K0.out _)) | (go_at_call 67; refine past_of (K1.out _)) | (go_at_call 68; refine past_of (K2.out _)) | (go_at_call_of 56 l; refine past_same (K3.out _)) | (go_at_call_of 56 q; refine past_same (K4.out _))))
  refine wpQuiet_nil ?_
  intro w3 hp
  have HF3 := Lib.hid (HW.out.noTrans (past_out hp))
  clear hp p0 p1 p2 p3 p4 p5 p6 p7 p8 p9 p10 p11
  go_wp2_with fail
  go_ret
  exact ⟨rfl, HF3.out⟩
set_option maxHeartbeats 4000000 in
theorem valid_5 (k s t l q f n e sl r ep k1 s1 t1 l1 q1 f1 n1 e1 sl1 r1 ep1 : Int) (d d1 : ByteArray) (w : World) (K0 : Hid (∀ w : World, Calls Try.prog 66 #[.int .i64 k, .int .i64 1, .int .i64 4] w fun e w' => e = .returned (.bool true) ∧ w' = w)) (K1 : Hid (∀ w : World, Calls Try.prog 67 #[.agg #[.int .i64 k, .int .i64 s, .int .i64 t, .int .i64 l, .int .i64 q, .int .i64 f, .int .i64 n, .int .i64 e, .int .i64 sl, .int .i64 r, .int .i64 ep, .string d]] w fun e w' => e = .returned (.agg #[.int .i64 k1, .int .i64 s1, .int .i64 t1, .int .i64 l1, .int .i64 q1, .int .i64 f1, .int .i64 n1, .int .i64 e1, .int .i64 sl1, .int .i64 r1, .int .i64 ep1, .string d1]) ∧ Fr no w w')) (E1 : ∀ w : World, (binOp .eql 23 (.agg #[.int .i64 k, .int .i64 s, .int .i64 t, .int .i64 l, .int .i64 q, .int .i64 f, .int .i64 n, .int .i64 e, .int .i64 sl, .int .i64 r, .int .i64 ep, .string d]) (.agg #[.int .i64 k1, .int .i64 s1, .int .i64 t1, .int .i64 l1, .int .i64 q1, .int .i64 f1, .int .i64 n1, .int .i64 e1, .int .i64 sl1, .int .i64 r1, .int .i64 ep1, .string d1])).run Try.prog w = .ok (.bool true) w) (K2 : Hid (∀ w : World, Calls Try.prog 68 #[.agg #[.int .i64 k, .int .i64 s, .int .i64 t, .int .i64 l, .int .i64 q, .int .i64 f, .int .i64 n, .int .i64 e, .int .i64 sl, .int .i64 r, .int .i64 ep, .string d]] w fun e w' => e = .returned (.bool true) ∧ Fr no w w')) (K3 : Hid (∀ w : World, Calls Try.prog 56 #[.int .i64 l] w fun e w' => e = .returned (.bool true) ∧ w' = w)) (K4 : Hid (∀ w : World, Calls Try.prog 56 #[.int .i64 q] w fun e w' => e = .returned (.bool true) ∧ w' = w)) (K5 : Hid (∀ w : World, Calls Try.prog 56 #[.int .i64 f] w fun e w' => e = .returned (.bool false) ∧ w' = w)) :
    Calls Try.prog 30 #[.agg #[.int .i64 k, .int .i64 s, .int .i64 t, .int .i64 l, .int .i64 q, .int .i64 f, .int .i64 n, .int .i64 e, .int .i64 sl, .int .i64 r, .int .i64 ep, .string d]] w fun e w' => e = .returned (.bool false) ∧ Fr no w w' := by
  have HF := Lib.hid (Fr.refl no w)
  go_enter Try.func30, Try.ntmps30
  go_wp2_with fail
  obtain ⟨W, hW⟩ : ∃ W, W = w.alloc (.cells #[.int .i64 k, .int .i64 s, .int .i64 t, .int .i64 l, .int .i64 q, .int .i64 f, .int .i64 n, .int .i64 e, .int .i64 sl, .int .i64 r, .int .i64 ep, .string d] 23 (0, 0)) := ⟨_, rfl⟩
  have hB : W.heap[w.heap.size]? = some (.cells #[.int .i64 k, .int .i64 s, .int .i64 t, .int .i64 l, .int .i64 q, .int .i64 f, .int .i64 n, .int .i64 e, .int .i64 sl, .int .i64 r, .int .i64 ep, .string d] 23 (0, 0)) := by rw [hW]; exact heap_alloc_new w _
  have HW := Lib.hid (show Fr no w W by rw [hW]; exact HF.out.alloc _)
  rw [← hW]
  clear hW
  obtain ⟨c0, c1, c2, c3, c4, c5, c6, c7, c8, c9, c10, c11⟩ := twelve_cells hB
  have p0 : ∀ p : Past W, p.u.cell? ⟨w.heap.size, 0, none⟩ = some (.int .i64 k) := fun p => p.h.keepc c0
  have p1 : ∀ p : Past W, p.u.cell? ⟨w.heap.size, 1, none⟩ = some (.int .i64 s) := fun p => p.h.keepc c1
  have p2 : ∀ p : Past W, p.u.cell? ⟨w.heap.size, 2, none⟩ = some (.int .i64 t) := fun p => p.h.keepc c2
  have p3 : ∀ p : Past W, p.u.cell? ⟨w.heap.size, 3, none⟩ = some (.int .i64 l) := fun p => p.h.keepc c3
  have p4 : ∀ p : Past W, p.u.cell? ⟨w.heap.size, 4, none⟩ = some (.int .i64 q) := fun p => p.h.keepc c4
  have p5 : ∀ p : Past W, p.u.cell? ⟨w.heap.size, 5, none⟩ = some (.int .i64 f) := fun p => p.h.keepc c5
  have p6 : ∀ p : Past W, p.u.cell? ⟨w.heap.size, 6, none⟩ = some (.int .i64 n) := fun p => p.h.keepc c6
  have p7 : ∀ p : Past W, p.u.cell? ⟨w.heap.size, 7, none⟩ = some (.int .i64 e) := fun p => p.h.keepc c7
  have p8 : ∀ p : Past W, p.u.cell? ⟨w.heap.size, 8, none⟩ = some (.int .i64 sl) := fun p => p.h.keepc c8
  have p9 : ∀ p : Past W, p.u.cell? ⟨w.heap.size, 9, none⟩ = some (.int .i64 r) := fun p => p.h.keepc c9
  have p10 : ∀ p : Past W, p.u.cell? ⟨w.heap.size, 10, none⟩ = some (.int .i64 ep) := fun p => p.h.keepc c10
  have p11 : ∀ p : Past W, p.u.cell? ⟨w.heap.size, 11, none⟩ = some (.string d) := fun p => p.h.keepc c11
  clear c0 c1 c2 c3 c4 c5 c6 c7 c8 c9 c10 c11 hB
  refine wp_region_past (by kernel_rfl) (by kernel_rfl) ?_
  repeat (go_big_quiet_step (first | rfl | exact E1 _ | (go_at_call_of 66 k; refine past_same (K0.out _)) | (go_at_call 67; refine past_of (K1.out _)) | (go_at_call 68; refine past_of (K2.out _)) | (go_at_call_of 56 l; refine past_same (K3.out _)) | (go_at_call_of 56 q; refine past_same (K4.out _)) | (go_at_call_of 56 f; refine past_same (K5.out _))))
  refine wpQuiet_nil ?_
  intro w3 hp
  have HF3 := Lib.hid (HW.out.noTrans (past_out hp))
  clear hp p0 p1 p2 p3 p4 p5 p6 p7 p8 p9 p10 p11
  go_wp2_with fail
  go_ret
  exact ⟨rfl, HF3.out⟩
end Go.Proofs.Ytelpdihaonoedaa
