/- The document's Check: the kind 3. -/
import Derived.Test.YtelpdihaonoedaaRck
namespace Go.Proofs.Ytelpdihaonoedaa
open Go.RowKit
set_option linter.unusedVariables false
set_option maxRecDepth 20000

set_option maxHeartbeats 2000000 in
theorem ck3_0 (s t l q f n e sl r ep : Int) (d : ByteArray) (w : World) (Hs : Hid (∀ w : World, Calls Try.prog 43 #[.int .i64 s, .int .i64 31] w fun e w' => e = .returned (.bool false) ∧ w' = w)) :
    Calls Try.prog 19 #[.agg #[.int .i64 3, .int .i64 s, .int .i64 t, .int .i64 l, .int .i64 q, .int .i64 f, .int .i64 n, .int .i64 e, .int .i64 sl, .int .i64 r, .int .i64 ep, .string d]] w fun x w' => x = .returned (.int .i64 1) ∧ Fr no w w' := by
  have HF := Lib.hid (Fr.refl no w)
  obtain ⟨W, hW⟩ : ∃ W, W = w.alloc (.cells #[.int .i64 3, .int .i64 s, .int .i64 t, .int .i64 l, .int .i64 q, .int .i64 f, .int .i64 n, .int .i64 e, .int .i64 sl, .int .i64 r, .int .i64 ep, .string d] 23 (0, 0)) := ⟨_, rfl⟩
  have hB : W.heap[w.heap.size]? = some (.cells #[.int .i64 3, .int .i64 s, .int .i64 t, .int .i64 l, .int .i64 q, .int .i64 f, .int .i64 n, .int .i64 e, .int .i64 sl, .int .i64 r, .int .i64 ep, .string d] 23 (0, 0)) := by rw [hW]; exact heap_alloc_new w _
  have HW := Lib.hid (show Fr no w W by rw [hW]; exact HF.out.alloc _)
  obtain ⟨c0, c1, c2, c3, c4, c5, c6, c7, c8, c9, c10, c11⟩ := twelve_cells hB
  clear hB
  have HWW := Lib.hid hW
  clear hW
  go_enter Try.func19, Try.ntmps19
  go_wp2_with fail
  rw [← HWW.out]
  go_quiet (fail)
  go_wp2_with (first | (go_at_call_of 43 s; refine (Hs.out _).mono ?_; rintro e2 w2 ⟨rfl, rfl⟩) | (go_at_call 43; refine (withinR_0 _ (by decide) _).mono ?_; rintro e2 w2 ⟨rfl, rfl⟩))
  go_ret
  exact ⟨rfl, ⟨HW.out.os, HW.out.tape, HW.out.output, HW.out.size, HW.out.block⟩⟩
set_option maxHeartbeats 2000000 in
theorem ck3_1 (s t l q f n e sl r ep : Int) (d : ByteArray) (w : World) (Hs : Hid (∀ w : World, Calls Try.prog 43 #[.int .i64 s, .int .i64 31] w fun e w' => e = .returned (.bool true) ∧ w' = w)) (Hl : Hid (∀ w : World, Calls Try.prog 43 #[.int .i64 l, .int .i64 255] w fun e w' => e = .returned (.bool false) ∧ w' = w)) :
    Calls Try.prog 19 #[.agg #[.int .i64 3, .int .i64 s, .int .i64 t, .int .i64 l, .int .i64 q, .int .i64 f, .int .i64 n, .int .i64 e, .int .i64 sl, .int .i64 r, .int .i64 ep, .string d]] w fun x w' => x = .returned (.int .i64 1) ∧ Fr no w w' := by
  have HF := Lib.hid (Fr.refl no w)
  obtain ⟨W, hW⟩ : ∃ W, W = w.alloc (.cells #[.int .i64 3, .int .i64 s, .int .i64 t, .int .i64 l, .int .i64 q, .int .i64 f, .int .i64 n, .int .i64 e, .int .i64 sl, .int .i64 r, .int .i64 ep, .string d] 23 (0, 0)) := ⟨_, rfl⟩
  have hB : W.heap[w.heap.size]? = some (.cells #[.int .i64 3, .int .i64 s, .int .i64 t, .int .i64 l, .int .i64 q, .int .i64 f, .int .i64 n, .int .i64 e, .int .i64 sl, .int .i64 r, .int .i64 ep, .string d] 23 (0, 0)) := by rw [hW]; exact heap_alloc_new w _
  have HW := Lib.hid (show Fr no w W by rw [hW]; exact HF.out.alloc _)
  obtain ⟨c0, c1, c2, c3, c4, c5, c6, c7, c8, c9, c10, c11⟩ := twelve_cells hB
  clear hB
  have HWW := Lib.hid hW
  clear hW
  go_enter Try.func19, Try.ntmps19
  go_wp2_with fail
  rw [← HWW.out]
  go_quiet (fail)
  go_wp2_with (first | (go_at_call_of 43 s; refine (Hs.out _).mono ?_; rintro e2 w2 ⟨rfl, rfl⟩) | (go_at_call_of 43 l; refine (Hl.out _).mono ?_; rintro e2 w2 ⟨rfl, rfl⟩) | (go_at_call 43; refine (withinR_0 _ (by decide) _).mono ?_; rintro e2 w2 ⟨rfl, rfl⟩))
  go_ret
  exact ⟨rfl, ⟨HW.out.os, HW.out.tape, HW.out.output, HW.out.size, HW.out.block⟩⟩
set_option maxHeartbeats 2000000 in
theorem ck3_2 (s t l q f n e sl r ep : Int) (d : ByteArray) (w : World) (Hs : Hid (∀ w : World, Calls Try.prog 43 #[.int .i64 s, .int .i64 31] w fun e w' => e = .returned (.bool true) ∧ w' = w)) (Hl : Hid (∀ w : World, Calls Try.prog 43 #[.int .i64 l, .int .i64 255] w fun e w' => e = .returned (.bool true) ∧ w' = w)) (Hq : Hid (∀ w : World, Calls Try.prog 43 #[.int .i64 q, .int .i64 255] w fun e w' => e = .returned (.bool false) ∧ w' = w)) :
    Calls Try.prog 19 #[.agg #[.int .i64 3, .int .i64 s, .int .i64 t, .int .i64 l, .int .i64 q, .int .i64 f, .int .i64 n, .int .i64 e, .int .i64 sl, .int .i64 r, .int .i64 ep, .string d]] w fun x w' => x = .returned (.int .i64 1) ∧ Fr no w w' := by
  have HF := Lib.hid (Fr.refl no w)
  obtain ⟨W, hW⟩ : ∃ W, W = w.alloc (.cells #[.int .i64 3, .int .i64 s, .int .i64 t, .int .i64 l, .int .i64 q, .int .i64 f, .int .i64 n, .int .i64 e, .int .i64 sl, .int .i64 r, .int .i64 ep, .string d] 23 (0, 0)) := ⟨_, rfl⟩
  have hB : W.heap[w.heap.size]? = some (.cells #[.int .i64 3, .int .i64 s, .int .i64 t, .int .i64 l, .int .i64 q, .int .i64 f, .int .i64 n, .int .i64 e, .int .i64 sl, .int .i64 r, .int .i64 ep, .string d] 23 (0, 0)) := by rw [hW]; exact heap_alloc_new w _
  have HW := Lib.hid (show Fr no w W by rw [hW]; exact HF.out.alloc _)
  obtain ⟨c0, c1, c2, c3, c4, c5, c6, c7, c8, c9, c10, c11⟩ := twelve_cells hB
  clear hB
  have HWW := Lib.hid hW
  clear hW
  go_enter Try.func19, Try.ntmps19
  go_wp2_with fail
  rw [← HWW.out]
  go_quiet (fail)
  go_wp2_with (first | (go_at_call_of 43 s; refine (Hs.out _).mono ?_; rintro e2 w2 ⟨rfl, rfl⟩) | (go_at_call_of 43 l; refine (Hl.out _).mono ?_; rintro e2 w2 ⟨rfl, rfl⟩) | (go_at_call_of 43 q; refine (Hq.out _).mono ?_; rintro e2 w2 ⟨rfl, rfl⟩) | (go_at_call 43; refine (withinR_0 _ (by decide) _).mono ?_; rintro e2 w2 ⟨rfl, rfl⟩))
  go_ret
  exact ⟨rfl, ⟨HW.out.os, HW.out.tape, HW.out.output, HW.out.size, HW.out.block⟩⟩
set_option maxHeartbeats 2000000 in
theorem ck3_3 (s t l q f n e sl r ep : Int) (d : ByteArray) (w : World) (Hs : Hid (∀ w : World, Calls Try.prog 43 #[.int .i64 s, .int .i64 31] w fun e w' => e = .returned (.bool true) ∧ w' = w)) (Hl : Hid (∀ w : World, Calls Try.prog 43 #[.int .i64 l, .int .i64 255] w fun e w' => e = .returned (.bool true) ∧ w' = w)) (Hq : Hid (∀ w : World, Calls Try.prog 43 #[.int .i64 q, .int .i64 255] w fun e w' => e = .returned (.bool true) ∧ w' = w)) (tne : (t != (-1)) = true) :
    Calls Try.prog 19 #[.agg #[.int .i64 3, .int .i64 s, .int .i64 t, .int .i64 l, .int .i64 q, .int .i64 f, .int .i64 n, .int .i64 e, .int .i64 sl, .int .i64 r, .int .i64 ep, .string d]] w fun x w' => x = .returned (.int .i64 1) ∧ Fr no w w' := by
  have HF := Lib.hid (Fr.refl no w)
  obtain ⟨W, hW⟩ : ∃ W, W = w.alloc (.cells #[.int .i64 3, .int .i64 s, .int .i64 t, .int .i64 l, .int .i64 q, .int .i64 f, .int .i64 n, .int .i64 e, .int .i64 sl, .int .i64 r, .int .i64 ep, .string d] 23 (0, 0)) := ⟨_, rfl⟩
  have hB : W.heap[w.heap.size]? = some (.cells #[.int .i64 3, .int .i64 s, .int .i64 t, .int .i64 l, .int .i64 q, .int .i64 f, .int .i64 n, .int .i64 e, .int .i64 sl, .int .i64 r, .int .i64 ep, .string d] 23 (0, 0)) := by rw [hW]; exact heap_alloc_new w _
  have HW := Lib.hid (show Fr no w W by rw [hW]; exact HF.out.alloc _)
  obtain ⟨c0, c1, c2, c3, c4, c5, c6, c7, c8, c9, c10, c11⟩ := twelve_cells hB
  clear hB
  have HWW := Lib.hid hW
  clear hW
  go_enter Try.func19, Try.ntmps19
  go_wp2_with fail
  rw [← HWW.out]
  go_quiet (fail)
  go_wp2_with (first | (go_at_call_of 43 s; refine (Hs.out _).mono ?_; rintro e2 w2 ⟨rfl, rfl⟩) | (go_at_call_of 43 l; refine (Hl.out _).mono ?_; rintro e2 w2 ⟨rfl, rfl⟩) | (go_at_call_of 43 q; refine (Hq.out _).mono ?_; rintro e2 w2 ⟨rfl, rfl⟩) | (go_at_call 43; refine (withinR_0 _ (by decide) _).mono ?_; rintro e2 w2 ⟨rfl, rfl⟩))
  go_ret
  exact ⟨rfl, ⟨HW.out.os, HW.out.tape, HW.out.output, HW.out.size, HW.out.block⟩⟩
set_option maxHeartbeats 2000000 in
theorem ck3_5 (s l q f n e sl r ep : Int) (d : ByteArray) (w : World) (Hs : Hid (∀ w : World, Calls Try.prog 43 #[.int .i64 s, .int .i64 31] w fun e w' => e = .returned (.bool true) ∧ w' = w)) (Hl : Hid (∀ w : World, Calls Try.prog 43 #[.int .i64 l, .int .i64 255] w fun e w' => e = .returned (.bool true) ∧ w' = w)) (Hq : Hid (∀ w : World, Calls Try.prog 43 #[.int .i64 q, .int .i64 255] w fun e w' => e = .returned (.bool true) ∧ w' = w)) (ts : ((-1 : Int) == s) = false) (fne : (f != 0) = true) :
    Calls Try.prog 19 #[.agg #[.int .i64 3, .int .i64 s, .int .i64 (-1), .int .i64 l, .int .i64 q, .int .i64 f, .int .i64 n, .int .i64 e, .int .i64 sl, .int .i64 r, .int .i64 ep, .string d]] w fun x w' => x = .returned (.int .i64 1) ∧ Fr no w w' := by
  have HF := Lib.hid (Fr.refl no w)
  obtain ⟨W, hW⟩ : ∃ W, W = w.alloc (.cells #[.int .i64 3, .int .i64 s, .int .i64 (-1), .int .i64 l, .int .i64 q, .int .i64 f, .int .i64 n, .int .i64 e, .int .i64 sl, .int .i64 r, .int .i64 ep, .string d] 23 (0, 0)) := ⟨_, rfl⟩
  have hB : W.heap[w.heap.size]? = some (.cells #[.int .i64 3, .int .i64 s, .int .i64 (-1), .int .i64 l, .int .i64 q, .int .i64 f, .int .i64 n, .int .i64 e, .int .i64 sl, .int .i64 r, .int .i64 ep, .string d] 23 (0, 0)) := by rw [hW]; exact heap_alloc_new w _
  have HW := Lib.hid (show Fr no w W by rw [hW]; exact HF.out.alloc _)
  obtain ⟨c0, c1, c2, c3, c4, c5, c6, c7, c8, c9, c10, c11⟩ := twelve_cells hB
  clear hB
  have HWW := Lib.hid hW
  clear hW
  go_enter Try.func19, Try.ntmps19
  go_wp2_with fail
  rw [← HWW.out]
  go_quiet (fail)
  go_wp2_with (first | (go_at_call_of 43 s; refine (Hs.out _).mono ?_; rintro e2 w2 ⟨rfl, rfl⟩) | (go_at_call_of 43 l; refine (Hl.out _).mono ?_; rintro e2 w2 ⟨rfl, rfl⟩) | (go_at_call_of 43 q; refine (Hq.out _).mono ?_; rintro e2 w2 ⟨rfl, rfl⟩) | (go_at_call 43; refine (withinR_0 _ (by decide) _).mono ?_; rintro e2 w2 ⟨rfl, rfl⟩))
  go_ret
  exact ⟨rfl, ⟨HW.out.os, HW.out.tape, HW.out.output, HW.out.size, HW.out.block⟩⟩
set_option maxHeartbeats 2000000 in
theorem ck3_6 (s l q n e sl r ep : Int) (d : ByteArray) (w : World) (Hs : Hid (∀ w : World, Calls Try.prog 43 #[.int .i64 s, .int .i64 31] w fun e w' => e = .returned (.bool true) ∧ w' = w)) (Hl : Hid (∀ w : World, Calls Try.prog 43 #[.int .i64 l, .int .i64 255] w fun e w' => e = .returned (.bool true) ∧ w' = w)) (Hq : Hid (∀ w : World, Calls Try.prog 43 #[.int .i64 q, .int .i64 255] w fun e w' => e = .returned (.bool true) ∧ w' = w)) (ts : ((-1 : Int) == s) = false) (nne : (n != 0) = true) :
    Calls Try.prog 19 #[.agg #[.int .i64 3, .int .i64 s, .int .i64 (-1), .int .i64 l, .int .i64 q, .int .i64 0, .int .i64 n, .int .i64 e, .int .i64 sl, .int .i64 r, .int .i64 ep, .string d]] w fun x w' => x = .returned (.int .i64 1) ∧ Fr no w w' := by
  have HF := Lib.hid (Fr.refl no w)
  obtain ⟨W, hW⟩ : ∃ W, W = w.alloc (.cells #[.int .i64 3, .int .i64 s, .int .i64 (-1), .int .i64 l, .int .i64 q, .int .i64 0, .int .i64 n, .int .i64 e, .int .i64 sl, .int .i64 r, .int .i64 ep, .string d] 23 (0, 0)) := ⟨_, rfl⟩
  have hB : W.heap[w.heap.size]? = some (.cells #[.int .i64 3, .int .i64 s, .int .i64 (-1), .int .i64 l, .int .i64 q, .int .i64 0, .int .i64 n, .int .i64 e, .int .i64 sl, .int .i64 r, .int .i64 ep, .string d] 23 (0, 0)) := by rw [hW]; exact heap_alloc_new w _
  have HW := Lib.hid (show Fr no w W by rw [hW]; exact HF.out.alloc _)
  obtain ⟨c0, c1, c2, c3, c4, c5, c6, c7, c8, c9, c10, c11⟩ := twelve_cells hB
  clear hB
  have HWW := Lib.hid hW
  clear hW
  go_enter Try.func19, Try.ntmps19
  go_wp2_with fail
  rw [← HWW.out]
  go_quiet (fail)
  go_wp2_with (first | (go_at_call_of 43 s; refine (Hs.out _).mono ?_; rintro e2 w2 ⟨rfl, rfl⟩) | (go_at_call_of 43 l; refine (Hl.out _).mono ?_; rintro e2 w2 ⟨rfl, rfl⟩) | (go_at_call_of 43 q; refine (Hq.out _).mono ?_; rintro e2 w2 ⟨rfl, rfl⟩) | (go_at_call 43; refine (withinR_0 _ (by decide) _).mono ?_; rintro e2 w2 ⟨rfl, rfl⟩))
  go_ret
  exact ⟨rfl, ⟨HW.out.os, HW.out.tape, HW.out.output, HW.out.size, HW.out.block⟩⟩
set_option maxHeartbeats 2000000 in
theorem ck3_7 (s l q e sl r ep : Int) (d : ByteArray) (w : World) (Hs : Hid (∀ w : World, Calls Try.prog 43 #[.int .i64 s, .int .i64 31] w fun e w' => e = .returned (.bool true) ∧ w' = w)) (Hl : Hid (∀ w : World, Calls Try.prog 43 #[.int .i64 l, .int .i64 255] w fun e w' => e = .returned (.bool true) ∧ w' = w)) (Hq : Hid (∀ w : World, Calls Try.prog 43 #[.int .i64 q, .int .i64 255] w fun e w' => e = .returned (.bool true) ∧ w' = w)) (ts : ((-1 : Int) == s) = false) (ene : (e != 0) = true) :
    Calls Try.prog 19 #[.agg #[.int .i64 3, .int .i64 s, .int .i64 (-1), .int .i64 l, .int .i64 q, .int .i64 0, .int .i64 0, .int .i64 e, .int .i64 sl, .int .i64 r, .int .i64 ep, .string d]] w fun x w' => x = .returned (.int .i64 1) ∧ Fr no w w' := by
  have HF := Lib.hid (Fr.refl no w)
  obtain ⟨W, hW⟩ : ∃ W, W = w.alloc (.cells #[.int .i64 3, .int .i64 s, .int .i64 (-1), .int .i64 l, .int .i64 q, .int .i64 0, .int .i64 0, .int .i64 e, .int .i64 sl, .int .i64 r, .int .i64 ep, .string d] 23 (0, 0)) := ⟨_, rfl⟩
  have hB : W.heap[w.heap.size]? = some (.cells #[.int .i64 3, .int .i64 s, .int .i64 (-1), .int .i64 l, .int .i64 q, .int .i64 0, .int .i64 0, .int .i64 e, .int .i64 sl, .int .i64 r, .int .i64 ep, .string d] 23 (0, 0)) := by rw [hW]; exact heap_alloc_new w _
  have HW := Lib.hid (show Fr no w W by rw [hW]; exact HF.out.alloc _)
  obtain ⟨c0, c1, c2, c3, c4, c5, c6, c7, c8, c9, c10, c11⟩ := twelve_cells hB
  clear hB
  have HWW := Lib.hid hW
  clear hW
  go_enter Try.func19, Try.ntmps19
  go_wp2_with fail
  rw [← HWW.out]
  go_quiet (fail)
  go_wp2_with (first | (go_at_call_of 43 s; refine (Hs.out _).mono ?_; rintro e2 w2 ⟨rfl, rfl⟩) | (go_at_call_of 43 l; refine (Hl.out _).mono ?_; rintro e2 w2 ⟨rfl, rfl⟩) | (go_at_call_of 43 q; refine (Hq.out _).mono ?_; rintro e2 w2 ⟨rfl, rfl⟩) | (go_at_call 43; refine (withinR_0 _ (by decide) _).mono ?_; rintro e2 w2 ⟨rfl, rfl⟩))
  go_ret
  exact ⟨rfl, ⟨HW.out.os, HW.out.tape, HW.out.output, HW.out.size, HW.out.block⟩⟩
set_option maxHeartbeats 2000000 in
theorem ck3_8 (s l q sl r ep : Int) (d : ByteArray) (w : World) (Hs : Hid (∀ w : World, Calls Try.prog 43 #[.int .i64 s, .int .i64 31] w fun e w' => e = .returned (.bool true) ∧ w' = w)) (Hl : Hid (∀ w : World, Calls Try.prog 43 #[.int .i64 l, .int .i64 255] w fun e w' => e = .returned (.bool true) ∧ w' = w)) (Hq : Hid (∀ w : World, Calls Try.prog 43 #[.int .i64 q, .int .i64 255] w fun e w' => e = .returned (.bool true) ∧ w' = w)) (ts : ((-1 : Int) == s) = false) (Hsl : Hid (∀ w : World, Calls Try.prog 43 #[.int .i64 sl, .int .i64 109951162] w fun e w' => e = .returned (.bool false) ∧ w' = w)) :
    Calls Try.prog 19 #[.agg #[.int .i64 3, .int .i64 s, .int .i64 (-1), .int .i64 l, .int .i64 q, .int .i64 0, .int .i64 0, .int .i64 0, .int .i64 sl, .int .i64 r, .int .i64 ep, .string d]] w fun x w' => x = .returned (.int .i64 1) ∧ Fr no w w' := by
  have HF := Lib.hid (Fr.refl no w)
  obtain ⟨W, hW⟩ : ∃ W, W = w.alloc (.cells #[.int .i64 3, .int .i64 s, .int .i64 (-1), .int .i64 l, .int .i64 q, .int .i64 0, .int .i64 0, .int .i64 0, .int .i64 sl, .int .i64 r, .int .i64 ep, .string d] 23 (0, 0)) := ⟨_, rfl⟩
  have hB : W.heap[w.heap.size]? = some (.cells #[.int .i64 3, .int .i64 s, .int .i64 (-1), .int .i64 l, .int .i64 q, .int .i64 0, .int .i64 0, .int .i64 0, .int .i64 sl, .int .i64 r, .int .i64 ep, .string d] 23 (0, 0)) := by rw [hW]; exact heap_alloc_new w _
  have HW := Lib.hid (show Fr no w W by rw [hW]; exact HF.out.alloc _)
  obtain ⟨c0, c1, c2, c3, c4, c5, c6, c7, c8, c9, c10, c11⟩ := twelve_cells hB
  clear hB
  have HWW := Lib.hid hW
  clear hW
  go_enter Try.func19, Try.ntmps19
  go_wp2_with fail
  rw [← HWW.out]
  go_quiet (fail)
  go_wp2_with (first | (go_at_call_of 43 s; refine (Hs.out _).mono ?_; rintro e2 w2 ⟨rfl, rfl⟩) | (go_at_call_of 43 l; refine (Hl.out _).mono ?_; rintro e2 w2 ⟨rfl, rfl⟩) | (go_at_call_of 43 q; refine (Hq.out _).mono ?_; rintro e2 w2 ⟨rfl, rfl⟩) | (go_at_call_of 43 sl; refine (Hsl.out _).mono ?_; rintro e2 w2 ⟨rfl, rfl⟩) | (go_at_call 43; refine (withinR_0 _ (by decide) _).mono ?_; rintro e2 w2 ⟨rfl, rfl⟩))
  go_ret
  exact ⟨rfl, ⟨HW.out.os, HW.out.tape, HW.out.output, HW.out.size, HW.out.block⟩⟩
set_option maxHeartbeats 2000000 in
theorem ck3_9 (s l q sl r ep : Int) (d : ByteArray) (w : World) (Hs : Hid (∀ w : World, Calls Try.prog 43 #[.int .i64 s, .int .i64 31] w fun e w' => e = .returned (.bool true) ∧ w' = w)) (Hl : Hid (∀ w : World, Calls Try.prog 43 #[.int .i64 l, .int .i64 255] w fun e w' => e = .returned (.bool true) ∧ w' = w)) (Hq : Hid (∀ w : World, Calls Try.prog 43 #[.int .i64 q, .int .i64 255] w fun e w' => e = .returned (.bool true) ∧ w' = w)) (ts : ((-1 : Int) == s) = false) (Hsl : Hid (∀ w : World, Calls Try.prog 43 #[.int .i64 sl, .int .i64 109951162] w fun e w' => e = .returned (.bool true) ∧ w' = w)) (Hr : Hid (∀ w : World, Calls Try.prog 43 #[.int .i64 r, .int .i64 65535] w fun e w' => e = .returned (.bool false) ∧ w' = w)) :
    Calls Try.prog 19 #[.agg #[.int .i64 3, .int .i64 s, .int .i64 (-1), .int .i64 l, .int .i64 q, .int .i64 0, .int .i64 0, .int .i64 0, .int .i64 sl, .int .i64 r, .int .i64 ep, .string d]] w fun x w' => x = .returned (.int .i64 1) ∧ Fr no w w' := by
  have HF := Lib.hid (Fr.refl no w)
  obtain ⟨W, hW⟩ : ∃ W, W = w.alloc (.cells #[.int .i64 3, .int .i64 s, .int .i64 (-1), .int .i64 l, .int .i64 q, .int .i64 0, .int .i64 0, .int .i64 0, .int .i64 sl, .int .i64 r, .int .i64 ep, .string d] 23 (0, 0)) := ⟨_, rfl⟩
  have hB : W.heap[w.heap.size]? = some (.cells #[.int .i64 3, .int .i64 s, .int .i64 (-1), .int .i64 l, .int .i64 q, .int .i64 0, .int .i64 0, .int .i64 0, .int .i64 sl, .int .i64 r, .int .i64 ep, .string d] 23 (0, 0)) := by rw [hW]; exact heap_alloc_new w _
  have HW := Lib.hid (show Fr no w W by rw [hW]; exact HF.out.alloc _)
  obtain ⟨c0, c1, c2, c3, c4, c5, c6, c7, c8, c9, c10, c11⟩ := twelve_cells hB
  clear hB
  have HWW := Lib.hid hW
  clear hW
  go_enter Try.func19, Try.ntmps19
  go_wp2_with fail
  rw [← HWW.out]
  go_quiet (fail)
  go_wp2_with (first | (go_at_call_of 43 s; refine (Hs.out _).mono ?_; rintro e2 w2 ⟨rfl, rfl⟩) | (go_at_call_of 43 l; refine (Hl.out _).mono ?_; rintro e2 w2 ⟨rfl, rfl⟩) | (go_at_call_of 43 q; refine (Hq.out _).mono ?_; rintro e2 w2 ⟨rfl, rfl⟩) | (go_at_call_of 43 sl; refine (Hsl.out _).mono ?_; rintro e2 w2 ⟨rfl, rfl⟩) | (go_at_call_of 43 r; refine (Hr.out _).mono ?_; rintro e2 w2 ⟨rfl, rfl⟩) | (go_at_call 43; refine (withinR_0 _ (by decide) _).mono ?_; rintro e2 w2 ⟨rfl, rfl⟩))
  go_ret
  exact ⟨rfl, ⟨HW.out.os, HW.out.tape, HW.out.output, HW.out.size, HW.out.block⟩⟩
set_option maxHeartbeats 2000000 in
theorem ck3_10 (s l q sl r ep : Int) (d : ByteArray) (w : World) (Hs : Hid (∀ w : World, Calls Try.prog 43 #[.int .i64 s, .int .i64 31] w fun e w' => e = .returned (.bool true) ∧ w' = w)) (Hl : Hid (∀ w : World, Calls Try.prog 43 #[.int .i64 l, .int .i64 255] w fun e w' => e = .returned (.bool true) ∧ w' = w)) (Hq : Hid (∀ w : World, Calls Try.prog 43 #[.int .i64 q, .int .i64 255] w fun e w' => e = .returned (.bool true) ∧ w' = w)) (ts : ((-1 : Int) == s) = false) (Hsl : Hid (∀ w : World, Calls Try.prog 43 #[.int .i64 sl, .int .i64 109951162] w fun e w' => e = .returned (.bool true) ∧ w' = w)) (Hr : Hid (∀ w : World, Calls Try.prog 43 #[.int .i64 r, .int .i64 65535] w fun e w' => e = .returned (.bool true) ∧ w' = w)) (Hep : Hid (∀ w : World, Calls Try.prog 43 #[.int .i64 ep, .int .i64 65535] w fun e w' => e = .returned (.bool false) ∧ w' = w)) :
    Calls Try.prog 19 #[.agg #[.int .i64 3, .int .i64 s, .int .i64 (-1), .int .i64 l, .int .i64 q, .int .i64 0, .int .i64 0, .int .i64 0, .int .i64 sl, .int .i64 r, .int .i64 ep, .string d]] w fun x w' => x = .returned (.int .i64 1) ∧ Fr no w w' := by
  have HF := Lib.hid (Fr.refl no w)
  obtain ⟨W, hW⟩ : ∃ W, W = w.alloc (.cells #[.int .i64 3, .int .i64 s, .int .i64 (-1), .int .i64 l, .int .i64 q, .int .i64 0, .int .i64 0, .int .i64 0, .int .i64 sl, .int .i64 r, .int .i64 ep, .string d] 23 (0, 0)) := ⟨_, rfl⟩
  have hB : W.heap[w.heap.size]? = some (.cells #[.int .i64 3, .int .i64 s, .int .i64 (-1), .int .i64 l, .int .i64 q, .int .i64 0, .int .i64 0, .int .i64 0, .int .i64 sl, .int .i64 r, .int .i64 ep, .string d] 23 (0, 0)) := by rw [hW]; exact heap_alloc_new w _
  have HW := Lib.hid (show Fr no w W by rw [hW]; exact HF.out.alloc _)
  obtain ⟨c0, c1, c2, c3, c4, c5, c6, c7, c8, c9, c10, c11⟩ := twelve_cells hB
  clear hB
  have HWW := Lib.hid hW
  clear hW
  go_enter Try.func19, Try.ntmps19
  go_wp2_with fail
  rw [← HWW.out]
  go_quiet (fail)
  go_wp2_with (first | (go_at_call_of 43 s; refine (Hs.out _).mono ?_; rintro e2 w2 ⟨rfl, rfl⟩) | (go_at_call_of 43 l; refine (Hl.out _).mono ?_; rintro e2 w2 ⟨rfl, rfl⟩) | (go_at_call_of 43 q; refine (Hq.out _).mono ?_; rintro e2 w2 ⟨rfl, rfl⟩) | (go_at_call_of 43 sl; refine (Hsl.out _).mono ?_; rintro e2 w2 ⟨rfl, rfl⟩) | (go_at_call_of 43 r; refine (Hr.out _).mono ?_; rintro e2 w2 ⟨rfl, rfl⟩) | (go_at_call_of 43 ep; refine (Hep.out _).mono ?_; rintro e2 w2 ⟨rfl, rfl⟩) | (go_at_call 43; refine (withinR_0 _ (by decide) _).mono ?_; rintro e2 w2 ⟨rfl, rfl⟩))
  go_ret
  exact ⟨rfl, ⟨HW.out.os, HW.out.tape, HW.out.output, HW.out.size, HW.out.block⟩⟩
set_option maxHeartbeats 2000000 in
theorem ck3_11 (s l q sl r ep : Int) (d : ByteArray) (w : World) (Hs : Hid (∀ w : World, Calls Try.prog 43 #[.int .i64 s, .int .i64 31] w fun e w' => e = .returned (.bool true) ∧ w' = w)) (Hl : Hid (∀ w : World, Calls Try.prog 43 #[.int .i64 l, .int .i64 255] w fun e w' => e = .returned (.bool true) ∧ w' = w)) (Hq : Hid (∀ w : World, Calls Try.prog 43 #[.int .i64 q, .int .i64 255] w fun e w' => e = .returned (.bool true) ∧ w' = w)) (ts : ((-1 : Int) == s) = false) (Hsl : Hid (∀ w : World, Calls Try.prog 43 #[.int .i64 sl, .int .i64 109951162] w fun e w' => e = .returned (.bool true) ∧ w' = w)) (Hr : Hid (∀ w : World, Calls Try.prog 43 #[.int .i64 r, .int .i64 65535] w fun e w' => e = .returned (.bool true) ∧ w' = w)) (Hep : Hid (∀ w : World, Calls Try.prog 43 #[.int .i64 ep, .int .i64 65535] w fun e w' => e = .returned (.bool true) ∧ w' = w)) :
    Calls Try.prog 19 #[.agg #[.int .i64 3, .int .i64 s, .int .i64 (-1), .int .i64 l, .int .i64 q, .int .i64 0, .int .i64 0, .int .i64 0, .int .i64 sl, .int .i64 r, .int .i64 ep, .string d]] w fun x w' => x = .returned (.int .i64 0) ∧ Fr no w w' := by
  have HF := Lib.hid (Fr.refl no w)
  obtain ⟨W, hW⟩ : ∃ W, W = w.alloc (.cells #[.int .i64 3, .int .i64 s, .int .i64 (-1), .int .i64 l, .int .i64 q, .int .i64 0, .int .i64 0, .int .i64 0, .int .i64 sl, .int .i64 r, .int .i64 ep, .string d] 23 (0, 0)) := ⟨_, rfl⟩
  have hB : W.heap[w.heap.size]? = some (.cells #[.int .i64 3, .int .i64 s, .int .i64 (-1), .int .i64 l, .int .i64 q, .int .i64 0, .int .i64 0, .int .i64 0, .int .i64 sl, .int .i64 r, .int .i64 ep, .string d] 23 (0, 0)) := by rw [hW]; exact heap_alloc_new w _
  have HW := Lib.hid (show Fr no w W by rw [hW]; exact HF.out.alloc _)
  obtain ⟨c0, c1, c2, c3, c4, c5, c6, c7, c8, c9, c10, c11⟩ := twelve_cells hB
  clear hB
  have HWW := Lib.hid hW
  clear hW
  go_enter Try.func19, Try.ntmps19
  go_wp2_with fail
  rw [← HWW.out]
  go_quiet (fail)
  go_wp2_with (first | (go_at_call_of 43 s; refine (Hs.out _).mono ?_; rintro e2 w2 ⟨rfl, rfl⟩) | (go_at_call_of 43 l; refine (Hl.out _).mono ?_; rintro e2 w2 ⟨rfl, rfl⟩) | (go_at_call_of 43 q; refine (Hq.out _).mono ?_; rintro e2 w2 ⟨rfl, rfl⟩) | (go_at_call_of 43 sl; refine (Hsl.out _).mono ?_; rintro e2 w2 ⟨rfl, rfl⟩) | (go_at_call_of 43 r; refine (Hr.out _).mono ?_; rintro e2 w2 ⟨rfl, rfl⟩) | (go_at_call_of 43 ep; refine (Hep.out _).mono ?_; rintro e2 w2 ⟨rfl, rfl⟩) | (go_at_call 43; refine (withinR_0 _ (by decide) _).mono ?_; rintro e2 w2 ⟨rfl, rfl⟩))
  go_ret
  exact ⟨rfl, ⟨HW.out.os, HW.out.tape, HW.out.output, HW.out.size, HW.out.block⟩⟩
end Go.Proofs.Ytelpdihaonoedaa
