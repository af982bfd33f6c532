/- Rk3, Rk4, Rka in one text. -/
import Derived.Test.YtelpdihaonoedaaRkx
import Derived.Test.YtelpdihaonoedaaMst
namespace Go.Proofs.Ytelpdihaonoedaa
open Go.RowKit
set_option linter.unusedVariables false
set_option maxRecDepth 20000

set_option maxHeartbeats 2000000 in
theorem ck3_0 (s t l q f n e sl r ep : Int) (d : ByteArray) (w : World) (Hs : Hid (∀ w : World, Calls Try.prog 43 #[.int .i64 s, .int .i64 31] w fun e w' => e = .returned (.bool false) ∧ w' = w)) :
    Calls Try.prog 19 #[.agg #[.int .i64 3, .int .i64 s, .int .i64 t, .int .i64 l, .int .i64 q, .int .i64 f, .int .i64 n, .int .i64 e, .int .i64 sl, .int .i64 r, .int .i64 ep, .string d]] w fun x w' => x = .returned (.int .i64 1) ∧ Fr no w w' := by
  have HF := Lib.hid (Fr.refl no w)
  obtain ⟨W, hW⟩ : ∃ W, W = w.alloc (.cells #[.int .i64 3, .int .i64 s, .int .i64 t, .int .i64 l, .int .i64 q, .int .i64 f, .int .i64 n, .int .i64 e, .int .i64 sl, .int .i64 r, .int .i64 ep, .string d] 23 (0, 0)) := ⟨_, rfl⟩
  have hB : W.heap[w.heap.size]? = some (.cells #[.int .i64 3, .int .i64 s, .int .i64 t, .int .i64 l, .int .i64 q, .int .i64 f, .int .i64 n, .int .i64 e, .int .i64 sl, .int .i64 r, .int .i64 ep, .string d] 23 (0, 0)) := by rw [hW]; exact heap_alloc_new w _
  have HW := Lib.hid (show Fr no w W by rw [hW]; exact HF.out.alloc _)
  obtain ⟨c0, c1, c2, c3, c4, c5, c6, c7, c8, c9, c10, c11⟩ := twelve_cells hB
  clear hB
  have HWW := Lib.hid hW
  clear hW
  go_enter Try.func19, Try.ntmps19
  go_wp2_with fail
  rw [← HWW.out]
  go_quiet (fail)
  go_wp2_with (first | (go_at_call_of 43 s; refine (Hs.out _).mono ?_; rintro e2 w2 ⟨rfl, rfl⟩) | (go_at_call 43; refine (withinR_0 _ (by decide) _).mono ?_; rintro e2 w2 ⟨rfl, rfl⟩))
  go_ret
  exact ⟨rfl, ⟨HW.out.os, HW.out.tape, HW.out.output, HW.out.size, HW.out.block⟩⟩
set_option maxHeartbeats 2000000 in
theorem ck3_1 (s t l q f n e sl r ep : Int) (d : ByteArray) (w : World) (Hs : Hid (∀ w : World, Calls Try.prog 43 #[.int .i64 s, .int .i64 31] w fun e w' => e = .returned (.bool true) ∧ w' = w)) (Hl : Hid (∀ w : World, Calls Try.prog 43 #[.int .i64 l, .int .i64 255] w fun e w' => e = .returned (.bool false) ∧ w' = w)) :
    Calls Try.prog 19 #[.agg #[.int .i64 3, .int .i64 s, .int .i64 t, .int .i64 l, .int .i64 q, .int .i64 f, .int .i64 n, .int .i64 e, .int .i64 sl, .int .i64 r, .int .i64 ep, .string d]] w fun x w' => x = .returned (.int .i64 1) ∧ Fr no w w' := by
  have HF := Lib.hid (Fr.refl no w)
  obtain ⟨W, hW⟩ : ∃ W, W = w.alloc (.cells #[.int .i64 3, .int .i64 s, .int .i64 t, .int .i64 l, .int .i64 q, .int .i64 f, .int .i64 n, .int .i64 e, .int .i64 sl, .int .i64 r, .int .i64 ep, .string d] 23 (0, 0)) := ⟨_, rfl⟩
  have hB : W.heap[w.heap.size]? = some (.cells #[.int .i64 3, .int .i64 s, .int .i64 t, .int .i64 l, .int .i64 q, .int .i64 f, .int .i64 n, .int .i64 e, .int .i64 sl, .int .i64 r, .int .i64 ep, .string d] 23 (0, 0)) := by rw [hW]; exact heap_alloc_new w _
  have HW := Lib.hid (show Fr no w W by rw [hW]; exact HF.out.alloc _)
  obtain ⟨c0, c1, c2, c3, c4, c5, c6, c7, c8, c9, c10, c11⟩ := twelve_cells hB
  clear hB
  have HWW := Lib.hid hW
  clear hW
  go_enter Try.func19, Try.ntmps19
  go_wp2_with fail
  rw [← HWW.out]
  go_quiet (fail)
  go_wp2_with (first | (go_at_call_of 43 s; refine (Hs.out _).mono ?_; rintro e2 w2 ⟨rfl, rfl⟩) | (go_at_call_of 43 l; refine (Hl.out _).mono ?_; rintro e2 w2 ⟨rfl, rfl⟩) | (go_at_call 43; refine (withinR_0 _ (by decide) _).mono ?_; rintro e2 w2 ⟨rfl, rfl⟩))
  go_ret
  exact ⟨rfl, ⟨HW.out.os, HW.out.tape, HW.out.output, HW.out.size, HW.out.block⟩⟩
set_option maxHeartbeats 2000000 in
theorem ck3_2 (s t l q f n e sl r ep : Int) (d : ByteArray) (w : World) (Hs : Hid (∀ w : World, Calls Try.prog 43 #[.int .i64 s, .int .i64 31] w fun e w' => e = .returned (.bool true) ∧ w' = w)) (Hl : Hid (∀ w : World, Calls Try.prog 43 #[.int .i64 l, .int .i64 255] w fun e w' => e = .returned (.bool true) ∧ w' = w)) (Hq : Hid (∀ w : World, Calls Try.prog 43 #[.int .i64 q, .int .i64 255] w fun e w' => e = .returned (.bool false) ∧ w' = w)) :
    Calls Try.prog 19 #[.agg #[.int .i64 3, .int .i64 s, .int .i64 t, .int .i64 l, .int .i64 q, .int .i64 f, .int .i64 n, .int .i64 e, .int .i64 sl, .int .i64 r, .int .i64 ep, .string d]] w fun x w' => x = .returned (.int .i64 1) ∧ Fr no w w' := by
  have HF := Lib.hid (Fr.refl no w)
  obtain ⟨W, hW⟩ : ∃ W, W = w.alloc (.cells #[.int .i64 3, .int .i64 s, .int .i64 t, .int .i64 l, .int .i64 q, .int .i64 f, .int .i64 n, .int .i64 e, .int .i64 sl, .int .i64 r, .int .i64 ep, .string d] 23 (0, 0)) := ⟨_, rfl⟩
  have hB : W.heap[w.heap.size]? = some (.cells #[.int .i64 3, .int .i64 s, .int .i64 t, .int .i64 l, .int .i64 q, .int .i64 f, .int .i64 n, .int .i64 e, .int .i64 sl, .int .i64 r, .int .i64 ep, .string d] 23 (0, 0)) := by rw [hW]; exact heap_alloc_new w _
  have HW := Lib.hid (show Fr no w W by rw [hW]; exact HF.out.alloc _)
  obtain ⟨c0, c1, c2, c3, c4, c5, c6, c7, c8, c9, c10, c11⟩ := twelve_cells hB
  clear hB
  have HWW := Lib.hid hW
  clear hW
  go_enter Try.func19, Try.ntmps19
  go_wp2_with fail
  rw [← HWW.out]
  go_quiet (fail)
  go_wp2_with (first | (go_at_call_of 43 s; refine (Hs.out _).mono ?_; rintro e2 w2 ⟨rfl, rfl⟩) | (go_at_call_of 43 l; refine (Hl.out _).mono ?_; rintro e2 w2 ⟨rfl, rfl⟩) | (go_at_call_of 43 q; refine (Hq.out _).mono ?_; rintro e2 w2 ⟨rfl, rfl⟩) | (go_at_call 43; refine (withinR_0 _ (by decide) _).mono ?_; rintro e2 w2 ⟨rfl, rfl⟩))
  go_ret
  exact ⟨rfl, ⟨HW.out.os, HW.out.tape, HW.out.output, HW.out.size, HW.out.block⟩⟩
set_option maxHeartbeats 2000000 in
theorem ck3_3 (s t l q f n e sl r ep : Int) (d : ByteArray) (w : World) (Hs : Hid (∀ w : World, Calls Try.prog 43 #[.int .i64 s, .int .i64 31] w fun e w' => e = .returned (.bool true) ∧ w' = w)) (Hl : Hid (∀ w : World, Calls Try.prog 43 #[.int .i64 l, .int .i64 255] w fun e w' => e = .returned (.bool true) ∧ w' = w)) (Hq : Hid (∀ w : World, Calls Try.prog 43 #[.int .i64 q, .int .i64 255] w fun e w' => e = .returned (.bool true) ∧ w' = w)) (tne : (t != (-1)) = true) :
    Calls Try.prog 19 #[.agg #[.int .i64 3, .int .i64 s, .int .i64 t, .int .i64 l, .int .i64 q, .int .i64 f, .int .i64 n, .int .i64 e, .int .i64 sl, .int .i64 r, .int .i64 ep, .string d]] w fun x w' => x = .returned (.int .i64 1) ∧ Fr no w w' := by
  have HF := Lib.hid (Fr.refl no w)
  obtain ⟨W, hW⟩ : ∃ W, W = w.alloc (.cells #[.int .i64 3, .int .i64 s, .int .i64 t, .int .i64 l, .int .i64 q, .int .i64 f, .int .i64 n, .int .i64 e, .int .i64 sl, .int .i64 r, .int .i64 ep, .string d] 23 (0, 0)) := ⟨_, rfl⟩
  have hB : W.heap[w.heap.size]? = some (.cells #[.int .i64 3, .int .i64 s, .int .i64 t, .int .i64 l, .int .i64 q, .int .i64 f, .int .i64 n, .int .i64 e, .int .i64 sl, .int .i64 r, .int .i64 ep, .string d] 23 (0, 0)) := by rw [hW]; exact heap_alloc_new w _
  have HW := Lib.hid (show Fr no w W by rw [hW]; exact HF.out.alloc _)
  obtain ⟨c0, c1, c2, c3, c4, c5, c6, c7, c8, c9, c10, c11⟩ := twelve_cells hB
  clear hB
  have HWW := Lib.hid hW
  clear hW
  go_enter Try.func19, Try.ntmps19
  go_wp2_with fail
  rw [← HWW.out]
  go_quiet (fail)
  go_wp2_with (first | (go_at_call_of 43 s; refine (Hs.out _).mono ?_; rintro e2 w2 ⟨rfl, rfl⟩) | (go_at_call_of 43 l; refine (Hl.out _).mono ?_; rintro e2 w2 ⟨rfl, rfl⟩) | (go_at_call_of 43 q; refine (Hq.out _).mono ?_; rintro e2 w2 ⟨rfl, rfl⟩) | (go_at_call 43; refine (withinR_0 _ (by decide) _).mono ?_; rintro e2 w2 ⟨rfl, rfl⟩))
  go_ret
  exact ⟨rfl, ⟨HW.out.os, HW.out.tape, HW.out.output, HW.out.size, HW.out.block⟩⟩
set_option maxHeartbeats 2000000 in
theorem ck3_5 (s l q f n e sl r ep : Int) (d : ByteArray) (w : World) (Hs : Hid (∀ w : World, Calls Try.prog 43 #[.int .i64 s, .int .i64 31] w fun e w' => e = .returned (.bool true) ∧ w' = w)) (Hl : Hid (∀ w : World, Calls Try.prog 43 #[.int .i64 l, .int .i64 255] w fun e w' => e = .returned (.bool true) ∧ w' = w)) (Hq : Hid (∀ w : World, Calls Try.prog 43 #[.int .i64 q, .int .i64 255] w fun e w' => e = .returned (.bool true) ∧ w' = w)) (ts : ((-1 : Int) == s) = false) (fne : (f != 0) = true) :
    Calls Try.prog 19 #[.agg #[.int .i64 3, .int .i64 s, .int .i64 (-1), .int .i64 l, .int .i64 q, .int .i64 f, .int .i64 n, .int .i64 e, .int .i64 sl, .int .i64 r, .int .i64 ep, .string d]] w fun x w' => x = .returned (.int .i64 1) ∧ Fr no w w' := by
  have HF := Lib.hid (Fr.refl no w)
  obtain ⟨W, hW⟩ : ∃ W, W = w.alloc (.cells #[.int .i64 3, .int .i64 s, .int .i64 (-1), .int .i64 l, .int .i64 q, .int .i64 f, .int .i64 n, .int .i64 e, .int .i64 sl, .int .i64 r, .int .i64 ep, .string d] 23 (0, 0)) := ⟨_, rfl⟩
  have hB : W.heap[w.heap.size]? = some (.cells #[.int .i64 3, .int .i64 s, .int .i64 (-1), .int .i64 l, .int .i64 q, .int .i64 f, .int .i64 n, .int .i64 e, .int .i64 sl, .int .i64 r, .int .i64 ep, .string d] 23 (0, 0)) := by rw [hW]; exact heap_alloc_new w _
  have HW := Lib.hid (show Fr no w W by rw [hW]; exact HF.out.alloc _)
  obtain ⟨c0, c1, c2, c3, c4, c5, c6, c7, c8, c9, c10, c11⟩ := twelve_cells hB
  clear hB
  have HWW := Lib.hid hW
  clear hW
  go_enter Try.func19, Try.ntmps19
  go_wp2_with fail
  rw [← HWW.out]
  go_quiet (fail)
  go_wp2_with (first | (go_at_call_of 43 s; refine (Hs.out _).mono ?_; rintro e2 w2 ⟨rfl, rfl⟩) | (go_at_call_of 43 l; refine (Hl.out _).mono ?_; rintro e2 w2 ⟨rfl, rfl⟩) | (go_at_call_of 43 q; refine (Hq.out _).mono ?_; rintro e2 w2 ⟨rfl, rfl⟩) | (go_at_call 43; refine (withinR_0 _ (by decide) _).mono ?_; rintro e2 w2 ⟨rfl, rfl⟩))
  go_ret
  exact ⟨rfl, ⟨HW.out.os, HW.out.tape, HW.out.output, HW.out.size, HW.out.block⟩⟩
set_option maxHeartbeats 2000000 in
theorem ck3_6 (s l q n e sl r ep : Int) (d : ByteArray) (w : World) (Hs : Hid (∀ w : World, Calls Try.prog 43 #[.int .i64 s, .int .i64 31] w fun e w' => e = .returned (.bool true) ∧ w' = w)) (Hl : Hid (∀ w : World, Calls Try.prog 43 #[.int .i64 l, .int .i64 255] w fun e w' => e = .returned (.bool true) ∧ w' = w)) (Hq : Hid (∀ w : World, Calls Try.prog 43 #[.int .i64 q, .int .i64 255] w fun e w' => e = .returned (.bool true) ∧ w' = w)) (ts : ((-1 : Int) == s) = false) (nne : (n != 0) = true) :
    Calls Try.prog 19 #[.agg #[.int .i64 3, .int .i64 s, .int .i64 (-1), .int .i64 l, .int .i64 q, .int .i64 0, .int .i64 n, .int .i64 e, .int .i64 sl, .int .i64 r, .int .i64 ep, .string d]] w fun x w' => x = .returned (.int .i64 1) ∧ Fr no w w' := by
  have HF := Lib.hid (Fr.refl no w)
  obtain ⟨W, hW⟩ : ∃ W, W = w.alloc (.cells #[.int .i64 3, .int .i64 s, .int .i64 (-1), .int .i64 l, .int .i64 q, .int .i64 0, .int .i64 n, .int .i64 e, .int .i64 sl, .int .i64 r, .int .i64 ep, .string d] 23 (0, 0)) := ⟨_, rfl⟩
  have hB : W.heap[w.heap.size]? = some (.cells #[.int .i64 3, .int .i64 s, .int .i64 (-1), .int .i64 l, .int .i64 q, .int .i64 0, .int .i64 n, .int .i64 e, .int .i64 sl, .int .i64 r, .int .i64 ep, .string d] 23 (0, 0)) := by rw [hW]; exact heap_alloc_new w _
  have HW := Lib.hid (show Fr no w W by rw [hW]; exact HF.out.alloc _)
  obtain ⟨c0, c1, c2, c3, c4, c5, c6, c7, c8, c9, c10, c11⟩ := twelve_cells hB
  clear hB
  have HWW := Lib.hid hW
  clear hW
  go_enter Try.func19, Try.ntmps19
  go_wp2_with fail
  rw [← HWW.out]
  go_quiet (fail)
  go_wp2_with (first | (go_at_call_of 43 s; refine (Hs.out _).mono ?_; rintro e2 w2 ⟨rfl, rfl⟩) | (go_at_call_of 43 l; refine (Hl.out _).mono ?_; rintro e2 w2 ⟨rfl, rfl⟩) | (go_at_call_of 43 q; refine (Hq.out _).mono ?_; rintro e2 w2 ⟨rfl, rfl⟩) | (go_at_call 43; refine (withinR_0 _ (by decide) _).mono ?_; rintro e2 w2 ⟨rfl, rfl⟩))
  go_ret
  exact ⟨rfl, ⟨HW.out.os, HW.out.tape, HW.out.output, HW.out.size, HW.out.block⟩⟩
set_option maxHeartbeats 2000000 in
theorem ck3_7 (s l q e sl r ep : Int) (d : ByteArray) (w : World) (Hs : Hid (∀ w : World, Calls Try.prog 43 #[.int .i64 s, .int .i64 31] w fun e w' => e = .returned (.bool true) ∧ w' = w)) (Hl : Hid (∀ w : World, Calls Try.prog 43 #[.int .i64 l, .int .i64 255] w fun e w' => e = .returned (.bool true) ∧ w' = w)) (Hq : Hid (∀ w : World, Calls Try.prog 43 #[.int .i64 q, .int .i64 255] w fun e w' => e = .returned (.bool true) ∧ w' = w)) (ts : ((-1 : Int) == s) = false) (ene : (e != 0) = true) :
    Calls Try.prog 19 #[.agg #[.int .i64 3, .int .i64 s, .int .i64 (-1), .int .i64 l, .int .i64 q, .int .i64 0, .int .i64 0, .int .i64 e, .int .i64 sl, .int .i64 r, .int .i64 ep, .string d]] w fun x w' => x = .returned (.int .i64 1) ∧ Fr no w w' := by
  have HF := Lib.hid (Fr.refl no w)
  obtain ⟨W, hW⟩ : ∃ W, W = w.alloc (.cells #[.int .i64 3, .int .i64 s, .int .i64 (-1), .int .i64 l, .int .i64 q, .int .i64 0, .int .i64 0, .int .i64 e, .int .i64 sl, .int .i64 r, .int .i64 ep, .string d] 23 (0, 0)) := ⟨_, rfl⟩
  have hB : W.heap[w.heap.size]? = some (.cells #[.int .i64 3, .int .i64 s, .int .i64 (-1), .int .i64 l, .int .i64 q, .int .i64 0, .int .i64 0, .int .i64 e, .int .i64 sl, .int .i64 r, .int .i64 ep, .string d] 23 (0, 0)) := by rw [hW]; exact heap_alloc_new w _
  have HW := Lib.hid (show Fr no w W by rw [hW]; exact HF.out.alloc _)
  obtain ⟨c0, c1, c2, c3, c4, c5, c6, c7, c8, c9, c10, c11⟩ := twelve_cells hB
  clear hB
  have HWW := Lib.hid hW
  clear hW
  go_enter Try.func19, Try.ntmps19
  go_wp2_with fail
  rw [← HWW.out]
  go_quiet (fail)
  go_wp2_with (first | (go_at_call_of 43 s; refine (Hs.out _).mono ?_; rintro e2 w2 ⟨rfl, rfl⟩) | (go_at_call_of 43 l; refine (Hl.out _).mono ?_; rintro e2 w2 ⟨rfl, rfl⟩) | (go_at_call_of 43 q; refine (Hq.out _).mono ?_; rintro e2 w2 ⟨rfl, rfl⟩) | (go_at_call 43; refine (withinR_0 _ (by decide) _).mono ?_; rintro e2 w2 ⟨rfl, rfl⟩))
  go_ret
  exact ⟨rfl, ⟨HW.out.os, HW.out.tape, HW.out.output, HW.out.size, HW.out.block⟩⟩
set_option maxHeartbeats 2000000 in
theorem ck3_8 (s l q sl r ep : Int) (d : ByteArray) (w : World) (Hs : Hid (∀ w : World, Calls Try.prog 43 #[.int .i64 s, .int .i64 31] w fun e w' => e = .returned (.bool true) ∧ w' = w)) (Hl : Hid (∀ w : World, Calls Try.prog 43 #[.int .i64 l, .int .i64 255] w fun e w' => e = .returned (.bool true) ∧ w' = w)) (Hq : Hid (∀ w : World, Calls Try.prog 43 #[.int .i64 q, .int .i64 255] w fun e w' => e = .returned (.bool true) ∧ w' = w)) (ts : ((-1 : Int) == s) = false) (Hsl : Hid (∀ w : World, Calls Try.prog 43 #[.int .i64 sl, .int .i64 109951162] w fun e w' => e = .returned (.bool false) ∧ w' = w)) :
    Calls Try.prog 19 #[.agg #[.int .i64 3, .int .i64 s, .int .i64 (-1), .int .i64 l, .int .i64 q, .int .i64 0, .int .i64 0, .int .i64 0, .int .i64 sl, .int .i64 r, .int .i64 ep, .string d]] w fun x w' => x = .returned (.int .i64 1) ∧ Fr no w w' := by
  have HF := Lib.hid (Fr.refl no w)
  obtain ⟨W, hW⟩ : ∃ W, W = w.alloc (.cells #[.int .i64 3, .int .i64 s, .int .i64 (-1), .int .i64 l, .int .i64 q, .int .i64 0, .int .i64 0, .int .i64 0, .int .i64 sl, .int .i64 r, .int .i64 ep, .string d] 23 (0, 0)) := ⟨_, rfl⟩
  have hB : W.heap[w.heap.size]? = some (.cells #[.int .i64 3, .int .i64 s, .int .i64 (-1), .int .i64 l, .int .i64 q, .int .i64 0, .int .i64 0, .int .i64 0, .int .i64 sl, .int .i64 r, .int .i64 ep, .string d] 23 (0, 0)) := by rw [hW]; exact heap_alloc_new w _
  have HW := Lib.hid (show Fr no w W by rw [hW]; exact HF.out.alloc _)
  obtain ⟨c0, c1, c2, c3, c4, c5, c6, c7, c8, c9, c10, c11⟩ := twelve_cells hB
  clear hB
  have HWW := Lib.hid hW
  clear hW
  go_enter Try.func19, Try.ntmps19
  go_wp2_with fail
  rw [← HWW.out]
  go_quiet (fail)
  go_wp2_with (first | (go_at_call_of 43 s; refine (Hs.out _).mono ?_; rintro e2 w2 ⟨rfl, rfl⟩) | (go_at_call_of 43 l; refine (Hl.out _).mono ?_; rintro e2 w2 ⟨rfl, rfl⟩) | (go_at_call_of 43 q; refine (Hq.out _).mono ?_; rintro e2 w2 ⟨rfl, rfl⟩) | (go_at_call_of 43 sl; refine (Hsl.out _).mono ?_; rintro e2 w2 ⟨rfl, rfl⟩) | (go_at_call 43; refine (withinR_0 _ (by decide) _).mono ?_; rintro e2 w2 ⟨rfl, rfl⟩))
  go_ret
  exact ⟨rfl, ⟨HW.out.os, HW.out.tape, HW.out.output, HW.out.size, HW.out.block⟩⟩
set_option maxHeartbeats 2000000 in
theorem ck3_9 (s l q sl r ep : Int) (d : ByteArray) (w : World) (Hs : Hid (∀ w : World, Calls Try.prog 43 #[.int .i64 s, .int .i64 31] w fun e w' => e = .returned (.bool true) ∧ w' = w)) (Hl : Hid (∀ w : World, Calls Try.prog 43 #[.int .i64 l, .int .i64 255] w fun e w' => e = .returned (.bool true) ∧ w' = w)) (Hq : Hid (∀ w : World, Calls Try.prog 43 #[.int .i64 q, .int .i64 255] w fun e w' => e = .returned (.bool true) ∧ w' = w)) (ts : ((-1 : Int) == s) = false) (Hsl : Hid (∀ w : World, Calls Try.prog 43 #[.int .i64 sl, .int .i64 109951162] w fun e w' => e = .returned (.bool true) ∧ w' = w)) (Hr : Hid (∀ w : World, Calls Try.prog 43 #[.int .i64 r, .int .i64 65535] w fun e w' => e = .returned (.bool false) ∧ w' = w)) :
    Calls Try.prog 19 #[.agg #[.int .i64 3, .int .i64 s, .int .i64 (-1), .int .i64 l, .int .i64 q, .int .i64 0, .int .i64 0, .int .i64 0, .int .i64 sl, .int .i64 r, .int .i64 ep, .string d]] w fun x w' => x = .returned (.int .i64 1) ∧ Fr no w w' := by
  have HF := Lib.hid (Fr.refl no w)
  obtain ⟨W, hW⟩ : ∃ W, W = w.alloc (.cells #[.int .i64 3, .int .i64 s, .int .i64 (-1), .int .i64 l, .int .i64 q, .int .i64 0, .int .i64 0, .int .i64 0, .int .i64 sl, .int .i64 r, .int .i64 ep, .string d] 23 (0, 0)) := ⟨_, rfl⟩
  have hB : W.heap[w.heap.size]? = some (.cells #[.int .i64 3, .int .i64 s, .int .i64 (-1), .int .i64 l, .int .i64 q, .int .i64 0, .int .i64 0, .int .i64 0, .int .i64 sl, .int .i64 r, .int .i64 ep, .string d] 23 (0, 0)) := by rw [hW]; exact heap_alloc_new w _
  have HW := Lib.hid (show Fr no w W by rw [hW]; exact HF.out.alloc _)
  obtain ⟨c0, c1, c2, c3, c4, c5, c6, c7, c8, c9, c10, c11⟩ := twelve_cells hB
  clear hB
  have HWW := Lib.hid hW
  clear hW
  go_enter Try.func19, Try.ntmps19
  go_wp2_with fail
  rw [← HWW.out]
  go_quiet (fail)
  go_wp2_with (first | (go_at_call_of 43 s; refine (Hs.out _).mono ?_; rintro e2 w2 ⟨rfl, rfl⟩) | (go_at_call_of 43 l; refine (Hl.out _).mono ?_; rintro e2 w2 ⟨rfl, rfl⟩) | (go_at_call_of 43 q; refine (Hq.out _).mono ?_; rintro e2 w2 ⟨rfl, rfl⟩) | (go_at_call_of 43 sl; refine (Hsl.out _).mono ?_; rintro e2 w2 ⟨rfl, rfl⟩) | (go_at_call_of 43 r; refine (Hr.out _).mono ?_; rintro e2 w2 ⟨rfl, rfl⟩) | (go_at_call 43; refine (withinR_0 _ (by decide) _).mono ?_; rintro e2 w2 ⟨rfl, rfl⟩))
  go_ret
  exact ⟨rfl, ⟨HW.out.os, HW.out.tape, HW.out.output, HW.out.size, HW.out.block⟩⟩
set_option maxHeartbeats 2000000 in
theorem ck3_10 (s l q sl r ep : Int) (d : ByteArray) (w : World) (Hs : Hid (∀ w : World, Calls Try.prog 43 #[.int .i64 s, .int .i64 31] w fun e w' => e = .returned (.bool true) ∧ w' = w)) (Hl : Hid (∀ w : World, Calls Try.prog 43 #[.int .i64 l, .int .i64 255] w fun e w' => e = .returned (.bool true) ∧ w' = w)) (Hq : Hid (∀ w : World, Calls Try.prog 43 #[.int .i64 q, .int .i64 255] w fun e w' => e = .returned (.bool true) ∧ w' = w)) (ts : ((-1 : Int) == s) = false) (Hsl : Hid (∀ w : World, Calls Try.prog 43 #[.int .i64 sl, .int .i64 109951162] w fun e w' => e = .returned (.bool true) ∧ w' = w)) (Hr : Hid (∀ w : World, Calls Try.prog 43 #[.int .i64 r, .int .i64 65535] w fun e w' => e = .returned (.bool true) ∧ w' = w)) (Hep : Hid (∀ w : World, Calls Try.prog 43 #[.int .i64 ep, .int .i64 65535] w fun e w' => e = .returned (.bool false) ∧ w' = w)) :
    Calls Try.prog 19 #[.agg #[.int .i64 3, .int .i64 s, .int .i64 (-1), .int .i64 l, .int .i64 q, .int .i64 0, .int .i64 0, .int .i64 0, .int .i64 sl, .int .i64 r, .int .i64 ep, .string d]] w fun x w' => x = .returned (.int .i64 1) ∧ Fr no w w' := by
  have HF := Lib.hid (Fr.refl no w)
  obtain ⟨W, hW⟩ : ∃ W, W = w.alloc (.cells #[.int .i64 3, .int .i64 s, .int .i64 (-1), .int .i64 l, .int .i64 q, .int .i64 0, .int .i64 0, .int .i64 0, .int .i64 sl, .int .i64 r, .int .i64 ep, .string d] 23 (0, 0)) := ⟨_, rfl⟩
  have hB : W.heap[w.heap.size]? = some (.cells #[.int .i64 3, .int .i64 s, .int .i64 (-1), .int .i64 l, .int .i64 q, .int .i64 0, .int .i64 0, .int .i64 0, .int .i64 sl, .int .i64 r, .int .i64 ep, .string d] 23 (0, 0)) := by rw [hW]; exact heap_alloc_new w _
  have HW := Lib.hid (show Fr no w W by rw [hW]; exact HF.out.alloc _)
  obtain ⟨c0, c1, c2, c3, c4, c5, c6, c7, c8, c9, c10, c11⟩ := twelve_cells hB
  clear hB
  have HWW := Lib.hid hW
  clear hW
  go_enter Try.func19, Try.ntmps19
  go_wp2_with fail
  rw [← HWW.out]
  go_quiet (fail)
  go_wp2_with (first | (go_at_call_of 43 s; refine (Hs.out _).mono ?_; rintro e2 w2 ⟨rfl, rfl⟩) | (go_at_call_of 43 l; refine (Hl.out _).mono ?_; rintro e2 w2 ⟨rfl, rfl⟩) | (go_at_call_of 43 q; refine (Hq.out _).mono ?_; rintro e2 w2 ⟨rfl, rfl⟩) | (go_at_call_of 43 sl; refine (Hsl.out _).mono ?_; rintro e2 w2 ⟨rfl, rfl⟩) | (go_at_call_of 43 r; refine (Hr.out _).mono ?_; rintro e2 w2 ⟨rfl, rfl⟩) | (go_at_call_of 43 ep; refine (Hep.out _).mono ?_; rintro e2 w2 ⟨rfl, rfl⟩) | (go_at_call 43; refine (withinR_0 _ (by decide) _).mono ?_; rintro e2 w2 ⟨rfl, rfl⟩))
  go_ret
  exact ⟨rfl, ⟨HW.out.os, HW.out.tape, HW.out.output, HW.out.size, HW.out.block⟩⟩
set_option maxHeartbeats 2000000 in
theorem ck3_11 (s l q sl r ep : Int) (d : ByteArray) (w : World) (Hs : Hid (∀ w : World, Calls Try.prog 43 #[.int .i64 s, .int .i64 31] w fun e w' => e = .returned (.bool true) ∧ w' = w)) (Hl : Hid (∀ w : World, Calls Try.prog 43 #[.int .i64 l, .int .i64 255] w fun e w' => e = .returned (.bool true) ∧ w' = w)) (Hq : Hid (∀ w : World, Calls Try.prog 43 #[.int .i64 q, .int .i64 255] w fun e w' => e = .returned (.bool true) ∧ w' = w)) (ts : ((-1 : Int) == s) = false) (Hsl : Hid (∀ w : World, Calls Try.prog 43 #[.int .i64 sl, .int .i64 109951162] w fun e w' => e = .returned (.bool true) ∧ w' = w)) (Hr : Hid (∀ w : World, Calls Try.prog 43 #[.int .i64 r, .int .i64 65535] w fun e w' => e = .returned (.bool true) ∧ w' = w)) (Hep : Hid (∀ w : World, Calls Try.prog 43 #[.int .i64 ep, .int .i64 65535] w fun e w' => e = .returned (.bool true) ∧ w' = w)) :
    Calls Try.prog 19 #[.agg #[.int .i64 3, .int .i64 s, .int .i64 (-1), .int .i64 l, .int .i64 q, .int .i64 0, .int .i64 0, .int .i64 0, .int .i64 sl, .int .i64 r, .int .i64 ep, .string d]] w fun x w' => x = .returned (.int .i64 0) ∧ Fr no w w' := by
  have HF := Lib.hid (Fr.refl no w)
  obtain ⟨W, hW⟩ : ∃ W, W = w.alloc (.cells #[.int .i64 3, .int .i64 s, .int .i64 (-1), .int .i64 l, .int .i64 q, .int .i64 0, .int .i64 0, .int .i64 0, .int .i64 sl, .int .i64 r, .int .i64 ep, .string d] 23 (0, 0)) := ⟨_, rfl⟩
  have hB : W.heap[w.heap.size]? = some (.cells #[.int .i64 3, .int .i64 s, .int .i64 (-1), .int .i64 l, .int .i64 q, .int .i64 0, .int .i64 0, .int .i64 0, .int .i64 sl, .int .i64 r, .int .i64 ep, .string d] 23 (0, 0)) := by rw [hW]; exact heap_alloc_new w _
  have HW := Lib.hid (show Fr no w W by rw [hW]; exact HF.out.alloc _)
  obtain ⟨c0, c1, c2, c3, c4, c5, c6, c7, c8, c9, c10, c11⟩ := twelve_cells hB
  clear hB
  have HWW := Lib.hid hW
  clear hW
  go_enter Try.func19, Try.ntmps19
  go_wp2_with fail
  rw [← HWW.out]
  go_quiet (fail)
  go_wp2_with (first | (go_at_call_of 43 s; refine (Hs.out _).mono ?_; rintro e2 w2 ⟨rfl, rfl⟩) | (go_at_call_of 43 l; refine (Hl.out _).mono ?_; rintro e2 w2 ⟨rfl, rfl⟩) | (go_at_call_of 43 q; refine (Hq.out _).mono ?_; rintro e2 w2 ⟨rfl, rfl⟩) | (go_at_call_of 43 sl; refine (Hsl.out _).mono ?_; rintro e2 w2 ⟨rfl, rfl⟩) | (go_at_call_of 43 r; refine (Hr.out _).mono ?_; rintro e2 w2 ⟨rfl, rfl⟩) | (go_at_call_of 43 ep; refine (Hep.out _).mono ?_; rintro e2 w2 ⟨rfl, rfl⟩) | (go_at_call 43; refine (withinR_0 _ (by decide) _).mono ?_; rintro e2 w2 ⟨rfl, rfl⟩))
  go_ret
  exact ⟨rfl, ⟨HW.out.os, HW.out.tape, HW.out.output, HW.out.size, HW.out.block⟩⟩
end Go.Proofs.Ytelpdihaonoedaa
namespace Go.Proofs.Ytelpdihaonoedaa
open Go.RowKit
set_option linter.unusedVariables false
set_option maxRecDepth 20000

set_option maxHeartbeats 2000000 in
theorem ck4_0 (s t l q f n e sl r ep : Int) (d : ByteArray) (w : World) (Hs : Hid (∀ w : World, Calls Try.prog 43 #[.int .i64 s, .int .i64 31] w fun e w' => e = .returned (.bool false) ∧ w' = w)) :
    Calls Try.prog 19 #[.agg #[.int .i64 4, .int .i64 s, .int .i64 t, .int .i64 l, .int .i64 q, .int .i64 f, .int .i64 n, .int .i64 e, .int .i64 sl, .int .i64 r, .int .i64 ep, .string d]] w fun x w' => x = .returned (.int .i64 1) ∧ Fr no w w' := by
  have HF := Lib.hid (Fr.refl no w)
  obtain ⟨W, hW⟩ : ∃ W, W = w.alloc (.cells #[.int .i64 4, .int .i64 s, .int .i64 t, .int .i64 l, .int .i64 q, .int .i64 f, .int .i64 n, .int .i64 e, .int .i64 sl, .int .i64 r, .int .i64 ep, .string d] 23 (0, 0)) := ⟨_, rfl⟩
  have hB : W.heap[w.heap.size]? = some (.cells #[.int .i64 4, .int .i64 s, .int .i64 t, .int .i64 l, .int .i64 q, .int .i64 f, .int .i64 n, .int .i64 e, .int .i64 sl, .int .i64 r, .int .i64 ep, .string d] 23 (0, 0)) := by rw [hW]; exact heap_alloc_new w _
  have HW := Lib.hid (show Fr no w W by rw [hW]; exact HF.out.alloc _)
  obtain ⟨c0, c1, c2, c3, c4, c5, c6, c7, c8, c9, c10, c11⟩ := twelve_cells hB
  clear hB
  have HWW := Lib.hid hW
  clear hW
  go_enter Try.func19, Try.ntmps19
  go_wp2_with fail
  rw [← HWW.out]
  go_quiet (fail)
  go_wp2_with (first | (go_at_call_of 43 s; refine (Hs.out _).mono ?_; rintro e2 w2 ⟨rfl, rfl⟩) | (go_at_call 43; refine (withinR_0 _ (by decide) _).mono ?_; rintro e2 w2 ⟨rfl, rfl⟩))
  go_ret
  exact ⟨rfl, ⟨HW.out.os, HW.out.tape, HW.out.output, HW.out.size, HW.out.block⟩⟩
set_option maxHeartbeats 2000000 in
theorem ck4_1 (s t l q f n e sl r ep : Int) (d : ByteArray) (w : World) (Hs : Hid (∀ w : World, Calls Try.prog 43 #[.int .i64 s, .int .i64 31] w fun e w' => e = .returned (.bool true) ∧ w' = w)) (Hl : Hid (∀ w : World, Calls Try.prog 43 #[.int .i64 l, .int .i64 255] w fun e w' => e = .returned (.bool false) ∧ w' = w)) :
    Calls Try.prog 19 #[.agg #[.int .i64 4, .int .i64 s, .int .i64 t, .int .i64 l, .int .i64 q, .int .i64 f, .int .i64 n, .int .i64 e, .int .i64 sl, .int .i64 r, .int .i64 ep, .string d]] w fun x w' => x = .returned (.int .i64 1) ∧ Fr no w w' := by
  have HF := Lib.hid (Fr.refl no w)
  obtain ⟨W, hW⟩ : ∃ W, W = w.alloc (.cells #[.int .i64 4, .int .i64 s, .int .i64 t, .int .i64 l, .int .i64 q, .int .i64 f, .int .i64 n, .int .i64 e, .int .i64 sl, .int .i64 r, .int .i64 ep, .string d] 23 (0, 0)) := ⟨_, rfl⟩
  have hB : W.heap[w.heap.size]? = some (.cells #[.int .i64 4, .int .i64 s, .int .i64 t, .int .i64 l, .int .i64 q, .int .i64 f, .int .i64 n, .int .i64 e, .int .i64 sl, .int .i64 r, .int .i64 ep, .string d] 23 (0, 0)) := by rw [hW]; exact heap_alloc_new w _
  have HW := Lib.hid (show Fr no w W by rw [hW]; exact HF.out.alloc _)
  obtain ⟨c0, c1, c2, c3, c4, c5, c6, c7, c8, c9, c10, c11⟩ := twelve_cells hB
  clear hB
  have HWW := Lib.hid hW
  clear hW
  go_enter Try.func19, Try.ntmps19
  go_wp2_with fail
  rw [← HWW.out]
  go_quiet (fail)
  go_wp2_with (first | (go_at_call_of 43 s; refine (Hs.out _).mono ?_; rintro e2 w2 ⟨rfl, rfl⟩) | (go_at_call_of 43 l; refine (Hl.out _).mono ?_; rintro e2 w2 ⟨rfl, rfl⟩) | (go_at_call 43; refine (withinR_0 _ (by decide) _).mono ?_; rintro e2 w2 ⟨rfl, rfl⟩))
  go_ret
  exact ⟨rfl, ⟨HW.out.os, HW.out.tape, HW.out.output, HW.out.size, HW.out.block⟩⟩
set_option maxHeartbeats 2000000 in
theorem ck4_2 (s t l q f n e sl r ep : Int) (d : ByteArray) (w : World) (Hs : Hid (∀ w : World, Calls Try.prog 43 #[.int .i64 s, .int .i64 31] w fun e w' => e = .returned (.bool true) ∧ w' = w)) (Hl : Hid (∀ w : World, Calls Try.prog 43 #[.int .i64 l, .int .i64 255] w fun e w' => e = .returned (.bool true) ∧ w' = w)) (Hq : Hid (∀ w : World, Calls Try.prog 43 #[.int .i64 q, .int .i64 255] w fun e w' => e = .returned (.bool false) ∧ w' = w)) :
    Calls Try.prog 19 #[.agg #[.int .i64 4, .int .i64 s, .int .i64 t, .int .i64 l, .int .i64 q, .int .i64 f, .int .i64 n, .int .i64 e, .int .i64 sl, .int .i64 r, .int .i64 ep, .string d]] w fun x w' => x = .returned (.int .i64 1) ∧ Fr no w w' := by
  have HF := Lib.hid (Fr.refl no w)
  obtain ⟨W, hW⟩ : ∃ W, W = w.alloc (.cells #[.int .i64 4, .int .i64 s, .int .i64 t, .int .i64 l, .int .i64 q, .int .i64 f, .int .i64 n, .int .i64 e, .int .i64 sl, .int .i64 r, .int .i64 ep, .string d] 23 (0, 0)) := ⟨_, rfl⟩
  have hB : W.heap[w.heap.size]? = some (.cells #[.int .i64 4, .int .i64 s, .int .i64 t, .int .i64 l, .int .i64 q, .int .i64 f, .int .i64 n, .int .i64 e, .int .i64 sl, .int .i64 r, .int .i64 ep, .string d] 23 (0, 0)) := by rw [hW]; exact heap_alloc_new w _
  have HW := Lib.hid (show Fr no w W by rw [hW]; exact HF.out.alloc _)
  obtain ⟨c0, c1, c2, c3, c4, c5, c6, c7, c8, c9, c10, c11⟩ := twelve_cells hB
  clear hB
  have HWW := Lib.hid hW
  clear hW
  go_enter Try.func19, Try.ntmps19
  go_wp2_with fail
  rw [← HWW.out]
  go_quiet (fail)
  go_wp2_with (first | (go_at_call_of 43 s; refine (Hs.out _).mono ?_; rintro e2 w2 ⟨rfl, rfl⟩) | (go_at_call_of 43 l; refine (Hl.out _).mono ?_; rintro e2 w2 ⟨rfl, rfl⟩) | (go_at_call_of 43 q; refine (Hq.out _).mono ?_; rintro e2 w2 ⟨rfl, rfl⟩) | (go_at_call 43; refine (withinR_0 _ (by decide) _).mono ?_; rintro e2 w2 ⟨rfl, rfl⟩))
  go_ret
  exact ⟨rfl, ⟨HW.out.os, HW.out.tape, HW.out.output, HW.out.size, HW.out.block⟩⟩
set_option maxHeartbeats 2000000 in
theorem ck4_3 (s t l q f n e sl r ep : Int) (d : ByteArray) (w : World) (Hs : Hid (∀ w : World, Calls Try.prog 43 #[.int .i64 s, .int .i64 31] w fun e w' => e = .returned (.bool true) ∧ w' = w)) (Hl : Hid (∀ w : World, Calls Try.prog 43 #[.int .i64 l, .int .i64 255] w fun e w' => e = .returned (.bool true) ∧ w' = w)) (Hq : Hid (∀ w : World, Calls Try.prog 43 #[.int .i64 q, .int .i64 255] w fun e w' => e = .returned (.bool true) ∧ w' = w)) (tlt : t < -1) :
    Calls Try.prog 19 #[.agg #[.int .i64 4, .int .i64 s, .int .i64 t, .int .i64 l, .int .i64 q, .int .i64 f, .int .i64 n, .int .i64 e, .int .i64 sl, .int .i64 r, .int .i64 ep, .string d]] w fun x w' => x = .returned (.int .i64 1) ∧ Fr no w w' := by
  have HF := Lib.hid (Fr.refl no w)
  obtain ⟨W, hW⟩ : ∃ W, W = w.alloc (.cells #[.int .i64 4, .int .i64 s, .int .i64 t, .int .i64 l, .int .i64 q, .int .i64 f, .int .i64 n, .int .i64 e, .int .i64 sl, .int .i64 r, .int .i64 ep, .string d] 23 (0, 0)) := ⟨_, rfl⟩
  have hB : W.heap[w.heap.size]? = some (.cells #[.int .i64 4, .int .i64 s, .int .i64 t, .int .i64 l, .int .i64 q, .int .i64 f, .int .i64 n, .int .i64 e, .int .i64 sl, .int .i64 r, .int .i64 ep, .string d] 23 (0, 0)) := by rw [hW]; exact heap_alloc_new w _
  have HW := Lib.hid (show Fr no w W by rw [hW]; exact HF.out.alloc _)
  obtain ⟨c0, c1, c2, c3, c4, c5, c6, c7, c8, c9, c10, c11⟩ := twelve_cells hB
  clear hB
  have HWW := Lib.hid hW
  clear hW
  go_enter Try.func19, Try.ntmps19
  go_wp2_with fail
  rw [← HWW.out]
  go_quiet (fail)
  go_wp2_with (first | (go_at_call_of 43 s; refine (Hs.out _).mono ?_; rintro e2 w2 ⟨rfl, rfl⟩) | (go_at_call_of 43 l; refine (Hl.out _).mono ?_; rintro e2 w2 ⟨rfl, rfl⟩) | (go_at_call_of 43 q; refine (Hq.out _).mono ?_; rintro e2 w2 ⟨rfl, rfl⟩) | (go_at_call 43; refine (withinR_0 _ (by decide) _).mono ?_; rintro e2 w2 ⟨rfl, rfl⟩))
  go_ret
  exact ⟨rfl, ⟨HW.out.os, HW.out.tape, HW.out.output, HW.out.size, HW.out.block⟩⟩
set_option maxHeartbeats 2000000 in
theorem ck4_4 (s t l q f n e sl r ep : Int) (d : ByteArray) (w : World) (Hs : Hid (∀ w : World, Calls Try.prog 43 #[.int .i64 s, .int .i64 31] w fun e w' => e = .returned (.bool true) ∧ w' = w)) (Hl : Hid (∀ w : World, Calls Try.prog 43 #[.int .i64 l, .int .i64 255] w fun e w' => e = .returned (.bool true) ∧ w' = w)) (Hq : Hid (∀ w : World, Calls Try.prog 43 #[.int .i64 q, .int .i64 255] w fun e w' => e = .returned (.bool true) ∧ w' = w)) (tlt : ¬ t < -1) (tgt : 31 < t) :
    Calls Try.prog 19 #[.agg #[.int .i64 4, .int .i64 s, .int .i64 t, .int .i64 l, .int .i64 q, .int .i64 f, .int .i64 n, .int .i64 e, .int .i64 sl, .int .i64 r, .int .i64 ep, .string d]] w fun x w' => x = .returned (.int .i64 1) ∧ Fr no w w' := by
  have HF := Lib.hid (Fr.refl no w)
  have Dtlt : decide (t < -1) = false := decide_eq_false tlt
  obtain ⟨W, hW⟩ : ∃ W, W = w.alloc (.cells #[.int .i64 4, .int .i64 s, .int .i64 t, .int .i64 l, .int .i64 q, .int .i64 f, .int .i64 n, .int .i64 e, .int .i64 sl, .int .i64 r, .int .i64 ep, .string d] 23 (0, 0)) := ⟨_, rfl⟩
  have hB : W.heap[w.heap.size]? = some (.cells #[.int .i64 4, .int .i64 s, .int .i64 t, .int .i64 l, .int .i64 q, .int .i64 f, .int .i64 n, .int .i64 e, .int .i64 sl, .int .i64 r, .int .i64 ep, .string d] 23 (0, 0)) := by rw [hW]; exact heap_alloc_new w _
  have HW := Lib.hid (show Fr no w W by rw [hW]; exact HF.out.alloc _)
  obtain ⟨c0, c1, c2, c3, c4, c5, c6, c7, c8, c9, c10, c11⟩ := twelve_cells hB
  clear hB
  have HWW := Lib.hid hW
  clear hW
  go_enter Try.func19, Try.ntmps19
  go_wp2_with fail
  rw [← HWW.out]
  go_quiet (fail)
  go_wp2_with (first | (go_at_call_of 43 s; refine (Hs.out _).mono ?_; rintro e2 w2 ⟨rfl, rfl⟩) | (go_at_call_of 43 l; refine (Hl.out _).mono ?_; rintro e2 w2 ⟨rfl, rfl⟩) | (go_at_call_of 43 q; refine (Hq.out _).mono ?_; rintro e2 w2 ⟨rfl, rfl⟩) | (go_at_call 43; refine (withinR_0 _ (by decide) _).mono ?_; rintro e2 w2 ⟨rfl, rfl⟩))
  go_ret
  exact ⟨rfl, ⟨HW.out.os, HW.out.tape, HW.out.output, HW.out.size, HW.out.block⟩⟩
set_option maxHeartbeats 2000000 in
theorem ck4_5 (s t l q f n e sl r ep : Int) (d : ByteArray) (w : World) (Hs : Hid (∀ w : World, Calls Try.prog 43 #[.int .i64 s, .int .i64 31] w fun e w' => e = .returned (.bool true) ∧ w' = w)) (Hl : Hid (∀ w : World, Calls Try.prog 43 #[.int .i64 l, .int .i64 255] w fun e w' => e = .returned (.bool true) ∧ w' = w)) (Hq : Hid (∀ w : World, Calls Try.prog 43 #[.int .i64 q, .int .i64 255] w fun e w' => e = .returned (.bool true) ∧ w' = w)) (tlt : ¬ t < -1) (tgt : ¬ 31 < t) (ts : (t == s) = true) :
    Calls Try.prog 19 #[.agg #[.int .i64 4, .int .i64 s, .int .i64 t, .int .i64 l, .int .i64 q, .int .i64 f, .int .i64 n, .int .i64 e, .int .i64 sl, .int .i64 r, .int .i64 ep, .string d]] w fun x w' => x = .returned (.int .i64 1) ∧ Fr no w w' := by
  have HF := Lib.hid (Fr.refl no w)
  have Dtlt : decide (t < -1) = false := decide_eq_false tlt
  have Dtgt : decide (31 < t) = false := decide_eq_false tgt
  obtain ⟨W, hW⟩ : ∃ W, W = w.alloc (.cells #[.int .i64 4, .int .i64 s, .int .i64 t, .int .i64 l, .int .i64 q, .int .i64 f, .int .i64 n, .int .i64 e, .int .i64 sl, .int .i64 r, .int .i64 ep, .string d] 23 (0, 0)) := ⟨_, rfl⟩
  have hB : W.heap[w.heap.size]? = some (.cells #[.int .i64 4, .int .i64 s, .int .i64 t, .int .i64 l, .int .i64 q, .int .i64 f, .int .i64 n, .int .i64 e, .int .i64 sl, .int .i64 r, .int .i64 ep, .string d] 23 (0, 0)) := by rw [hW]; exact heap_alloc_new w _
  have HW := Lib.hid (show Fr no w W by rw [hW]; exact HF.out.alloc _)
  obtain ⟨c0, c1, c2, c3, c4, c5, c6, c7, c8, c9, c10, c11⟩ := twelve_cells hB
  clear hB
  have HWW := Lib.hid hW
  clear hW
  go_enter Try.func19, Try.ntmps19
  go_wp2_with fail
  rw [← HWW.out]
  go_quiet (fail)
  go_wp2_with (first | (go_at_call_of 43 s; refine (Hs.out _).mono ?_; rintro e2 w2 ⟨rfl, rfl⟩) | (go_at_call_of 43 l; refine (Hl.out _).mono ?_; rintro e2 w2 ⟨rfl, rfl⟩) | (go_at_call_of 43 q; refine (Hq.out _).mono ?_; rintro e2 w2 ⟨rfl, rfl⟩) | (go_at_call 43; refine (withinR_0 _ (by decide) _).mono ?_; rintro e2 w2 ⟨rfl, rfl⟩))
  go_ret
  exact ⟨rfl, ⟨HW.out.os, HW.out.tape, HW.out.output, HW.out.size, HW.out.block⟩⟩
set_option maxHeartbeats 2000000 in
theorem ck4_6 (s t l q f n e sl r ep : Int) (d : ByteArray) (w : World) (Hs : Hid (∀ w : World, Calls Try.prog 43 #[.int .i64 s, .int .i64 31] w fun e w' => e = .returned (.bool true) ∧ w' = w)) (Hl : Hid (∀ w : World, Calls Try.prog 43 #[.int .i64 l, .int .i64 255] w fun e w' => e = .returned (.bool true) ∧ w' = w)) (Hq : Hid (∀ w : World, Calls Try.prog 43 #[.int .i64 q, .int .i64 255] w fun e w' => e = .returned (.bool true) ∧ w' = w)) (tlt : ¬ t < -1) (tgt : ¬ 31 < t) (ts : (t == s) = false) (fne : (f != 0) = true) :
    Calls Try.prog 19 #[.agg #[.int .i64 4, .int .i64 s, .int .i64 t, .int .i64 l, .int .i64 q, .int .i64 f, .int .i64 n, .int .i64 e, .int .i64 sl, .int .i64 r, .int .i64 ep, .string d]] w fun x w' => x = .returned (.int .i64 1) ∧ Fr no w w' := by
  have HF := Lib.hid (Fr.refl no w)
  have Dtlt : decide (t < -1) = false := decide_eq_false tlt
  have Dtgt : decide (31 < t) = false := decide_eq_false tgt
  obtain ⟨W, hW⟩ : ∃ W, W = w.alloc (.cells #[.int .i64 4, .int .i64 s, .int .i64 t, .int .i64 l, .int .i64 q, .int .i64 f, .int .i64 n, .int .i64 e, .int .i64 sl, .int .i64 r, .int .i64 ep, .string d] 23 (0, 0)) := ⟨_, rfl⟩
  have hB : W.heap[w.heap.size]? = some (.cells #[.int .i64 4, .int .i64 s, .int .i64 t, .int .i64 l, .int .i64 q, .int .i64 f, .int .i64 n, .int .i64 e, .int .i64 sl, .int .i64 r, .int .i64 ep, .string d] 23 (0, 0)) := by rw [hW]; exact heap_alloc_new w _
  have HW := Lib.hid (show Fr no w W by rw [hW]; exact HF.out.alloc _)
  obtain ⟨c0, c1, c2, c3, c4, c5, c6, c7, c8, c9, c10, c11⟩ := twelve_cells hB
  clear hB
  have HWW := Lib.hid hW
  clear hW
  go_enter Try.func19, Try.ntmps19
  go_wp2_with fail
  rw [← HWW.out]
  go_quiet (fail)
  go_wp2_with (first | (go_at_call_of 43 s; refine (Hs.out _).mono ?_; rintro e2 w2 ⟨rfl, rfl⟩) | (go_at_call_of 43 l; refine (Hl.out _).mono ?_; rintro e2 w2 ⟨rfl, rfl⟩) | (go_at_call_of 43 q; refine (Hq.out _).mono ?_; rintro e2 w2 ⟨rfl, rfl⟩) | (go_at_call 43; refine (withinR_0 _ (by decide) _).mono ?_; rintro e2 w2 ⟨rfl, rfl⟩))
  go_ret
  exact ⟨rfl, ⟨HW.out.os, HW.out.tape, HW.out.output, HW.out.size, HW.out.block⟩⟩
set_option maxHeartbeats 2000000 in
theorem ck4_7 (s t l q n e sl r ep : Int) (d : ByteArray) (w : World) (Hs : Hid (∀ w : World, Calls Try.prog 43 #[.int .i64 s, .int .i64 31] w fun e w' => e = .returned (.bool true) ∧ w' = w)) (Hl : Hid (∀ w : World, Calls Try.prog 43 #[.int .i64 l, .int .i64 255] w fun e w' => e = .returned (.bool true) ∧ w' = w)) (Hq : Hid (∀ w : World, Calls Try.prog 43 #[.int .i64 q, .int .i64 255] w fun e w' => e = .returned (.bool true) ∧ w' = w)) (tlt : ¬ t < -1) (tgt : ¬ 31 < t) (ts : (t == s) = false) (nne : (n != 0) = true) :
    Calls Try.prog 19 #[.agg #[.int .i64 4, .int .i64 s, .int .i64 t, .int .i64 l, .int .i64 q, .int .i64 0, .int .i64 n, .int .i64 e, .int .i64 sl, .int .i64 r, .int .i64 ep, .string d]] w fun x w' => x = .returned (.int .i64 1) ∧ Fr no w w' := by
  have HF := Lib.hid (Fr.refl no w)
  have Dtlt : decide (t < -1) = false := decide_eq_false tlt
  have Dtgt : decide (31 < t) = false := decide_eq_false tgt
  obtain ⟨W, hW⟩ : ∃ W, W = w.alloc (.cells #[.int .i64 4, .int .i64 s, .int .i64 t, .int .i64 l, .int .i64 q, .int .i64 0, .int .i64 n, .int .i64 e, .int .i64 sl, .int .i64 r, .int .i64 ep, .string d] 23 (0, 0)) := ⟨_, rfl⟩
  have hB : W.heap[w.heap.size]? = some (.cells #[.int .i64 4, .int .i64 s, .int .i64 t, .int .i64 l, .int .i64 q, .int .i64 0, .int .i64 n, .int .i64 e, .int .i64 sl, .int .i64 r, .int .i64 ep, .string d] 23 (0, 0)) := by rw [hW]; exact heap_alloc_new w _
  have HW := Lib.hid (show Fr no w W by rw [hW]; exact HF.out.alloc _)
  obtain ⟨c0, c1, c2, c3, c4, c5, c6, c7, c8, c9, c10, c11⟩ := twelve_cells hB
  clear hB
  have HWW := Lib.hid hW
  clear hW
  go_enter Try.func19, Try.ntmps19
  go_wp2_with fail
  rw [← HWW.out]
  go_quiet (fail)
  go_wp2_with (first | (go_at_call_of 43 s; refine (Hs.out _).mono ?_; rintro e2 w2 ⟨rfl, rfl⟩) | (go_at_call_of 43 l; refine (Hl.out _).mono ?_; rintro e2 w2 ⟨rfl, rfl⟩) | (go_at_call_of 43 q; refine (Hq.out _).mono ?_; rintro e2 w2 ⟨rfl, rfl⟩) | (go_at_call 43; refine (withinR_0 _ (by decide) _).mono ?_; rintro e2 w2 ⟨rfl, rfl⟩))
  go_ret
  exact ⟨rfl, ⟨HW.out.os, HW.out.tape, HW.out.output, HW.out.size, HW.out.block⟩⟩
set_option maxHeartbeats 2000000 in
theorem ck4_8 (s t l q e sl r ep : Int) (d : ByteArray) (w : World) (Hs : Hid (∀ w : World, Calls Try.prog 43 #[.int .i64 s, .int .i64 31] w fun e w' => e = .returned (.bool true) ∧ w' = w)) (Hl : Hid (∀ w : World, Calls Try.prog 43 #[.int .i64 l, .int .i64 255] w fun e w' => e = .returned (.bool true) ∧ w' = w)) (Hq : Hid (∀ w : World, Calls Try.prog 43 #[.int .i64 q, .int .i64 255] w fun e w' => e = .returned (.bool true) ∧ w' = w)) (tlt : ¬ t < -1) (tgt : ¬ 31 < t) (ts : (t == s) = false) (ene : (e != 0) = true) :
    Calls Try.prog 19 #[.agg #[.int .i64 4, .int .i64 s, .int .i64 t, .int .i64 l, .int .i64 q, .int .i64 0, .int .i64 0, .int .i64 e, .int .i64 sl, .int .i64 r, .int .i64 ep, .string d]] w fun x w' => x = .returned (.int .i64 1) ∧ Fr no w w' := by
  have HF := Lib.hid (Fr.refl no w)
  have Dtlt : decide (t < -1) = false := decide_eq_false tlt
  have Dtgt : decide (31 < t) = false := decide_eq_false tgt
  obtain ⟨W, hW⟩ : ∃ W, W = w.alloc (.cells #[.int .i64 4, .int .i64 s, .int .i64 t, .int .i64 l, .int .i64 q, .int .i64 0, .int .i64 0, .int .i64 e, .int .i64 sl, .int .i64 r, .int .i64 ep, .string d] 23 (0, 0)) := ⟨_, rfl⟩
  have hB : W.heap[w.heap.size]? = some (.cells #[.int .i64 4, .int .i64 s, .int .i64 t, .int .i64 l, .int .i64 q, .int .i64 0, .int .i64 0, .int .i64 e, .int .i64 sl, .int .i64 r, .int .i64 ep, .string d] 23 (0, 0)) := by rw [hW]; exact heap_alloc_new w _
  have HW := Lib.hid (show Fr no w W by rw [hW]; exact HF.out.alloc _)
  obtain ⟨c0, c1, c2, c3, c4, c5, c6, c7, c8, c9, c10, c11⟩ := twelve_cells hB
  clear hB
  have HWW := Lib.hid hW
  clear hW
  go_enter Try.func19, Try.ntmps19
  go_wp2_with fail
  rw [← HWW.out]
  go_quiet (fail)
  go_wp2_with (first | (go_at_call_of 43 s; refine (Hs.out _).mono ?_; rintro e2 w2 ⟨rfl, rfl⟩) | (go_at_call_of 43 l; refine (Hl.out _).mono ?_; rintro e2 w2 ⟨rfl, rfl⟩) | (go_at_call_of 43 q; refine (Hq.out _).mono ?_; rintro e2 w2 ⟨rfl, rfl⟩) | (go_at_call 43; refine (withinR_0 _ (by decide) _).mono ?_; rintro e2 w2 ⟨rfl, rfl⟩))
  go_ret
  exact ⟨rfl, ⟨HW.out.os, HW.out.tape, HW.out.output, HW.out.size, HW.out.block⟩⟩
set_option maxHeartbeats 2000000 in
theorem ck4_9 (s t l q sl r ep : Int) (d : ByteArray) (w : World) (Hs : Hid (∀ w : World, Calls Try.prog 43 #[.int .i64 s, .int .i64 31] w fun e w' => e = .returned (.bool true) ∧ w' = w)) (Hl : Hid (∀ w : World, Calls Try.prog 43 #[.int .i64 l, .int .i64 255] w fun e w' => e = .returned (.bool true) ∧ w' = w)) (Hq : Hid (∀ w : World, Calls Try.prog 43 #[.int .i64 q, .int .i64 255] w fun e w' => e = .returned (.bool true) ∧ w' = w)) (tlt : ¬ t < -1) (tgt : ¬ 31 < t) (ts : (t == s) = false) (slne : (sl != 0) = true) :
    Calls Try.prog 19 #[.agg #[.int .i64 4, .int .i64 s, .int .i64 t, .int .i64 l, .int .i64 q, .int .i64 0, .int .i64 0, .int .i64 0, .int .i64 sl, .int .i64 r, .int .i64 ep, .string d]] w fun x w' => x = .returned (.int .i64 1) ∧ Fr no w w' := by
  have HF := Lib.hid (Fr.refl no w)
  have Dtlt : decide (t < -1) = false := decide_eq_false tlt
  have Dtgt : decide (31 < t) = false := decide_eq_false tgt
  obtain ⟨W, hW⟩ : ∃ W, W = w.alloc (.cells #[.int .i64 4, .int .i64 s, .int .i64 t, .int .i64 l, .int .i64 q, .int .i64 0, .int .i64 0, .int .i64 0, .int .i64 sl, .int .i64 r, .int .i64 ep, .string d] 23 (0, 0)) := ⟨_, rfl⟩
  have hB : W.heap[w.heap.size]? = some (.cells #[.int .i64 4, .int .i64 s, .int .i64 t, .int .i64 l, .int .i64 q, .int .i64 0, .int .i64 0, .int .i64 0, .int .i64 sl, .int .i64 r, .int .i64 ep, .string d] 23 (0, 0)) := by rw [hW]; exact heap_alloc_new w _
  have HW := Lib.hid (show Fr no w W by rw [hW]; exact HF.out.alloc _)
  obtain ⟨c0, c1, c2, c3, c4, c5, c6, c7, c8, c9, c10, c11⟩ := twelve_cells hB
  clear hB
  have HWW := Lib.hid hW
  clear hW
  go_enter Try.func19, Try.ntmps19
  go_wp2_with fail
  rw [← HWW.out]
  go_quiet (fail)
  go_wp2_with (first | (go_at_call_of 43 s; refine (Hs.out _).mono ?_; rintro e2 w2 ⟨rfl, rfl⟩) | (go_at_call_of 43 l; refine (Hl.out _).mono ?_; rintro e2 w2 ⟨rfl, rfl⟩) | (go_at_call_of 43 q; refine (Hq.out _).mono ?_; rintro e2 w2 ⟨rfl, rfl⟩) | (go_at_call 43; refine (withinR_0 _ (by decide) _).mono ?_; rintro e2 w2 ⟨rfl, rfl⟩))
  go_ret
  exact ⟨rfl, ⟨HW.out.os, HW.out.tape, HW.out.output, HW.out.size, HW.out.block⟩⟩
set_option maxHeartbeats 2000000 in
theorem ck4_10 (s t l q r ep : Int) (d : ByteArray) (w : World) (Hs : Hid (∀ w : World, Calls Try.prog 43 #[.int .i64 s, .int .i64 31] w fun e w' => e = .returned (.bool true) ∧ w' = w)) (Hl : Hid (∀ w : World, Calls Try.prog 43 #[.int .i64 l, .int .i64 255] w fun e w' => e = .returned (.bool true) ∧ w' = w)) (Hq : Hid (∀ w : World, Calls Try.prog 43 #[.int .i64 q, .int .i64 255] w fun e w' => e = .returned (.bool true) ∧ w' = w)) (tlt : ¬ t < -1) (tgt : ¬ 31 < t) (ts : (t == s) = false) (rne : (r != 0) = true) :
    Calls Try.prog 19 #[.agg #[.int .i64 4, .int .i64 s, .int .i64 t, .int .i64 l, .int .i64 q, .int .i64 0, .int .i64 0, .int .i64 0, .int .i64 0, .int .i64 r, .int .i64 ep, .string d]] w fun x w' => x = .returned (.int .i64 1) ∧ Fr no w w' := by
  have HF := Lib.hid (Fr.refl no w)
  have Dtlt : decide (t < -1) = false := decide_eq_false tlt
  have Dtgt : decide (31 < t) = false := decide_eq_false tgt
  obtain ⟨W, hW⟩ : ∃ W, W = w.alloc (.cells #[.int .i64 4, .int .i64 s, .int .i64 t, .int .i64 l, .int .i64 q, .int .i64 0, .int .i64 0, .int .i64 0, .int .i64 0, .int .i64 r, .int .i64 ep, .string d] 23 (0, 0)) := ⟨_, rfl⟩
  have hB : W.heap[w.heap.size]? = some (.cells #[.int .i64 4, .int .i64 s, .int .i64 t, .int .i64 l, .int .i64 q, .int .i64 0, .int .i64 0, .int .i64 0, .int .i64 0, .int .i64 r, .int .i64 ep, .string d] 23 (0, 0)) := by rw [hW]; exact heap_alloc_new w _
  have HW := Lib.hid (show Fr no w W by rw [hW]; exact HF.out.alloc _)
  obtain ⟨c0, c1, c2, c3, c4, c5, c6, c7, c8, c9, c10, c11⟩ := twelve_cells hB
  clear hB
  have HWW := Lib.hid hW
  clear hW
  go_enter Try.func19, Try.ntmps19
  go_wp2_with fail
  rw [← HWW.out]
  go_quiet (fail)
  go_wp2_with (first | (go_at_call_of 43 s; refine (Hs.out _).mono ?_; rintro e2 w2 ⟨rfl, rfl⟩) | (go_at_call_of 43 l; refine (Hl.out _).mono ?_; rintro e2 w2 ⟨rfl, rfl⟩) | (go_at_call_of 43 q; refine (Hq.out _).mono ?_; rintro e2 w2 ⟨rfl, rfl⟩) | (go_at_call 43; refine (withinR_0 _ (by decide) _).mono ?_; rintro e2 w2 ⟨rfl, rfl⟩))
  go_ret
  exact ⟨rfl, ⟨HW.out.os, HW.out.tape, HW.out.output, HW.out.size, HW.out.block⟩⟩
set_option maxHeartbeats 2000000 in
theorem ck4_11 (s t l q ep : Int) (d : ByteArray) (w : World) (Hs : Hid (∀ w : World, Calls Try.prog 43 #[.int .i64 s, .int .i64 31] w fun e w' => e = .returned (.bool true) ∧ w' = w)) (Hl : Hid (∀ w : World, Calls Try.prog 43 #[.int .i64 l, .int .i64 255] w fun e w' => e = .returned (.bool true) ∧ w' = w)) (Hq : Hid (∀ w : World, Calls Try.prog 43 #[.int .i64 q, .int .i64 255] w fun e w' => e = .returned (.bool true) ∧ w' = w)) (tlt : ¬ t < -1) (tgt : ¬ 31 < t) (ts : (t == s) = false) (epne : (ep != 0) = true) :
    Calls Try.prog 19 #[.agg #[.int .i64 4, .int .i64 s, .int .i64 t, .int .i64 l, .int .i64 q, .int .i64 0, .int .i64 0, .int .i64 0, .int .i64 0, .int .i64 0, .int .i64 ep, .string d]] w fun x w' => x = .returned (.int .i64 1) ∧ Fr no w w' := by
  have HF := Lib.hid (Fr.refl no w)
  have Dtlt : decide (t < -1) = false := decide_eq_false tlt
  have Dtgt : decide (31 < t) = false := decide_eq_false tgt
  obtain ⟨W, hW⟩ : ∃ W, W = w.alloc (.cells #[.int .i64 4, .int .i64 s, .int .i64 t, .int .i64 l, .int .i64 q, .int .i64 0, .int .i64 0, .int .i64 0, .int .i64 0, .int .i64 0, .int .i64 ep, .string d] 23 (0, 0)) := ⟨_, rfl⟩
  have hB : W.heap[w.heap.size]? = some (.cells #[.int .i64 4, .int .i64 s, .int .i64 t, .int .i64 l, .int .i64 q, .int .i64 0, .int .i64 0, .int .i64 0, .int .i64 0, .int .i64 0, .int .i64 ep, .string d] 23 (0, 0)) := by rw [hW]; exact heap_alloc_new w _
  have HW := Lib.hid (show Fr no w W by rw [hW]; exact HF.out.alloc _)
  obtain ⟨c0, c1, c2, c3, c4, c5, c6, c7, c8, c9, c10, c11⟩ := twelve_cells hB
  clear hB
  have HWW := Lib.hid hW
  clear hW
  go_enter Try.func19, Try.ntmps19
  go_wp2_with fail
  rw [← HWW.out]
  go_quiet (fail)
  go_wp2_with (first | (go_at_call_of 43 s; refine (Hs.out _).mono ?_; rintro e2 w2 ⟨rfl, rfl⟩) | (go_at_call_of 43 l; refine (Hl.out _).mono ?_; rintro e2 w2 ⟨rfl, rfl⟩) | (go_at_call_of 43 q; refine (Hq.out _).mono ?_; rintro e2 w2 ⟨rfl, rfl⟩) | (go_at_call 43; refine (withinR_0 _ (by decide) _).mono ?_; rintro e2 w2 ⟨rfl, rfl⟩))
  go_ret
  exact ⟨rfl, ⟨HW.out.os, HW.out.tape, HW.out.output, HW.out.size, HW.out.block⟩⟩
set_option maxHeartbeats 2000000 in
theorem ck4_12 (s t l q : Int) (d : ByteArray) (w : World) (Hs : Hid (∀ w : World, Calls Try.prog 43 #[.int .i64 s, .int .i64 31] w fun e w' => e = .returned (.bool true) ∧ w' = w)) (Hl : Hid (∀ w : World, Calls Try.prog 43 #[.int .i64 l, .int .i64 255] w fun e w' => e = .returned (.bool true) ∧ w' = w)) (Hq : Hid (∀ w : World, Calls Try.prog 43 #[.int .i64 q, .int .i64 255] w fun e w' => e = .returned (.bool true) ∧ w' = w)) (tlt : ¬ t < -1) (tgt : ¬ 31 < t) (ts : (t == s) = false) :
    Calls Try.prog 19 #[.agg #[.int .i64 4, .int .i64 s, .int .i64 t, .int .i64 l, .int .i64 q, .int .i64 0, .int .i64 0, .int .i64 0, .int .i64 0, .int .i64 0, .int .i64 0, .string d]] w fun x w' => x = .returned (.int .i64 0) ∧ Fr no w w' := by
  have HF := Lib.hid (Fr.refl no w)
  have Dtlt : decide (t < -1) = false := decide_eq_false tlt
  have Dtgt : decide (31 < t) = false := decide_eq_false tgt
  obtain ⟨W, hW⟩ : ∃ W, W = w.alloc (.cells #[.int .i64 4, .int .i64 s, .int .i64 t, .int .i64 l, .int .i64 q, .int .i64 0, .int .i64 0, .int .i64 0, .int .i64 0, .int .i64 0, .int .i64 0, .string d] 23 (0, 0)) := ⟨_, rfl⟩
  have hB : W.heap[w.heap.size]? = some (.cells #[.int .i64 4, .int .i64 s, .int .i64 t, .int .i64 l, .int .i64 q, .int .i64 0, .int .i64 0, .int .i64 0, .int .i64 0, .int .i64 0, .int .i64 0, .string d] 23 (0, 0)) := by rw [hW]; exact heap_alloc_new w _
  have HW := Lib.hid (show Fr no w W by rw [hW]; exact HF.out.alloc _)
  obtain ⟨c0, c1, c2, c3, c4, c5, c6, c7, c8, c9, c10, c11⟩ := twelve_cells hB
  clear hB
  have HWW := Lib.hid hW
  clear hW
  go_enter Try.func19, Try.ntmps19
  go_wp2_with fail
  rw [← HWW.out]
  go_quiet (fail)
  go_wp2_with (first | (go_at_call_of 43 s; refine (Hs.out _).mono ?_; rintro e2 w2 ⟨rfl, rfl⟩) | (go_at_call_of 43 l; refine (Hl.out _).mono ?_; rintro e2 w2 ⟨rfl, rfl⟩) | (go_at_call_of 43 q; refine (Hq.out _).mono ?_; rintro e2 w2 ⟨rfl, rfl⟩) | (go_at_call 43; refine (withinR_0 _ (by decide) _).mono ?_; rintro e2 w2 ⟨rfl, rfl⟩))
  go_ret
  exact ⟨rfl, ⟨HW.out.os, HW.out.tape, HW.out.output, HW.out.size, HW.out.block⟩⟩
end Go.Proofs.Ytelpdihaonoedaa
namespace Go.Proofs.Ytelpdihaonoedaa
open Go.RowKit
set_option linter.unusedVariables false
set_option maxRecDepth 20000

theorem inR_ff {n a b : Int} (h : inR n a b = false) : ¬ (a ≤ n ∧ n ≤ b) := by intro e; rw [inR_t.2 e] at h; cases h
theorem ok1 {s t l q f n e sl r ep : Int} {d : ByteArray} : okF ⟨1, s, t, l, q, f, n, e, sl, r, ep, d⟩ = true ↔ (0 ≤ s ∧ s ≤ 31) ∧ (0 ≤ t ∧ t ≤ 31) ∧ t ≠ s ∧ (0 ≤ l ∧ l ≤ 255) ∧ (0 ≤ q ∧ q ≤ 255) ∧ (0 ≤ f ∧ f ≤ 255) ∧ (0 ≤ n ∧ n ≤ 65535) ∧ e = 0 ∧ sl = 0 ∧ r = 0 ∧ ep = 0 := by
  by_cases ht : t = -1
  · simp [okF, eqF, nmF, adB, inR, ht]
  · simp [okF, eqF, nmF, adB, inR, ht]; omega
theorem ok2 {s t l q f n e sl r ep : Int} {d : ByteArray} : okF ⟨2, s, t, l, q, f, n, e, sl, r, ep, d⟩ = true ↔ (0 ≤ s ∧ s ≤ 31) ∧ (0 ≤ t ∧ t ≤ 31) ∧ t ≠ s ∧ (0 ≤ l ∧ l ≤ 255) ∧ (0 ≤ q ∧ q ≤ 255) ∧ f = 0 ∧ n = 0 ∧ (-32768 ≤ e ∧ e ≤ 32767) ∧ sl = 0 ∧ r = 0 ∧ ep = 0 ∧ d.toList = [] := by
  by_cases ht : t = -1
  · simp [okF, eqF, nmF, adB, inR, ht]
  · by_cases hd : d.toList = []
    · simp [okF, eqF, nmF, adB, inR, ht, hd]; omega
    · simp [okF, eqF, nmF, adB, inR, ht, hd]
theorem ok3 {s t l q f n e sl r ep : Int} {d : ByteArray} : okF ⟨3, s, t, l, q, f, n, e, sl, r, ep, d⟩ = true ↔ (0 ≤ s ∧ s ≤ 31) ∧ t = -1 ∧ (0 ≤ l ∧ l ≤ 255) ∧ (0 ≤ q ∧ q ≤ 255) ∧ f = 0 ∧ n = 0 ∧ e = 0 ∧ (0 ≤ sl ∧ sl ≤ 109951162) ∧ (0 ≤ r ∧ r ≤ 65535) ∧ (0 ≤ ep ∧ ep ≤ 65535) := by
  by_cases ht : t = -1
  · simp [okF, eqF, nmF, adB, inR, ht]; omega
  · simp [okF, eqF, nmF, adB, inR, ht]
theorem ok4 {s t l q f n e sl r ep : Int} {d : ByteArray} : okF ⟨4, s, t, l, q, f, n, e, sl, r, ep, d⟩ = true ↔ (0 ≤ s ∧ s ≤ 31) ∧ (-1 ≤ t ∧ t ≤ 31) ∧ t ≠ s ∧ (0 ≤ l ∧ l ≤ 255) ∧ (0 ≤ q ∧ q ≤ 255) ∧ f = 0 ∧ n = 0 ∧ e = 0 ∧ sl = 0 ∧ r = 0 ∧ ep = 0 := by
  by_cases ht : t = -1
  · simp [okF, eqF, nmF, adB, inR, ht]; omega
  · simp [okF, eqF, nmF, adB, inR, ht]; omega
set_option maxHeartbeats 1000000 in
theorem ckr1 (s t l q f n e sl r ep : Int) (d : ByteArray) (w : World) :
    Calls Try.prog 19 #[.agg (frA ⟨1, s, t, l, q, f, n, e, sl, r, ep, d⟩)] w fun x w' => x = .returned (.int .i64 (if okF ⟨1, s, t, l, q, f, n, e, sl, r, ep, d⟩ then 0 else 1)) ∧ Fr no w w' := by
  cases bws : inR s 0 31
  · have Hs := Lib.hid (fun w => by have := withinR_any s 31 w; rw [bws] at this; exact this)
    have cws := inR_ff bws
    have hf : okF ⟨1, s, t, l, q, f, n, e, sl, r, ep, d⟩ = false := by
      rw [Bool.eq_false_iff]
      intro hh
      rw [ok1] at hh
      omega
    rw [hf]
    exact ck1_0 s t l q f n e sl r ep d w Hs
  have Hs := Lib.hid (fun w => by have := withinR_any s 31 w; rw [bws] at this; exact this)
  have cws := inR_t.1 bws
  clear bws
  cases bwl : inR l 0 255
  · have Hl := Lib.hid (fun w => by have := withinR_any l 255 w; rw [bwl] at this; exact this)
    have cwl := inR_ff bwl
    have hf : okF ⟨1, s, t, l, q, f, n, e, sl, r, ep, d⟩ = false := by
      rw [Bool.eq_false_iff]
      intro hh
      rw [ok1] at hh
      omega
    rw [hf]
    exact ck1_1 s t l q f n e sl r ep d w Hs Hl
  have Hl := Lib.hid (fun w => by have := withinR_any l 255 w; rw [bwl] at this; exact this)
  have cwl := inR_t.1 bwl
  clear bwl
  cases bwq : inR q 0 255
  · have Hq := Lib.hid (fun w => by have := withinR_any q 255 w; rw [bwq] at this; exact this)
    have cwq := inR_ff bwq
    have hf : okF ⟨1, s, t, l, q, f, n, e, sl, r, ep, d⟩ = false := by
      rw [Bool.eq_false_iff]
      intro hh
      rw [ok1] at hh
      omega
    rw [hf]
    exact ck1_2 s t l q f n e sl r ep d w Hs Hl Hq
  have Hq := Lib.hid (fun w => by have := withinR_any q 255 w; rw [bwq] at this; exact this)
  have cwq := inR_t.1 bwq
  clear bwq
  by_cases tlt : t < -1
  · skip
    have hf : okF ⟨1, s, t, l, q, f, n, e, sl, r, ep, d⟩ = false := by
      rw [Bool.eq_false_iff]
      intro hh
      rw [ok1] at hh
      omega
    rw [hf]
    exact ck1_3 s t l q f n e sl r ep d w Hs Hl Hq tlt
  by_cases tgt : 31 < t
  · skip
    have hf : okF ⟨1, s, t, l, q, f, n, e, sl, r, ep, d⟩ = false := by
      rw [Bool.eq_false_iff]
      intro hh
      rw [ok1] at hh
      omega
    rw [hf]
    exact ck1_4 s t l q f n e sl r ep d w Hs Hl Hq tlt tgt
  by_cases ets : t = s
  · have ts : (t == s) = true := by simp [ets]
    have hf : okF ⟨1, s, t, l, q, f, n, e, sl, r, ep, d⟩ = false := by
      rw [Bool.eq_false_iff]
      intro hh
      rw [ok1] at hh
      omega
    rw [hf]
    exact ck1_5 s t l q f n e sl r ep d w Hs Hl Hq tlt tgt ts
  have ts : (t == s) = false := by simpa using ets
  by_cases etm : t = -1
  · have tm : (t == -1) = true := by simp [etm]
    have hf : okF ⟨1, s, t, l, q, f, n, e, sl, r, ep, d⟩ = false := by
      rw [Bool.eq_false_iff]
      intro hh
      rw [ok1] at hh
      omega
    rw [hf]
    exact ck1_6 s t l q f n e sl r ep d w Hs Hl Hq tlt tgt ts tm
  have tm : (t == -1) = false := by simpa using etm
  rcases (Decidable.em (e = 0)).symm with eene | eene
  · have ene : (e != 0) = true := by simp [eene]
    have hf : okF ⟨1, s, t, l, q, f, n, e, sl, r, ep, d⟩ = false := by
      rw [Bool.eq_false_iff]
      intro hh
      rw [ok1] at hh
      omega
    rw [hf]
    exact ck1_7 s t l q f n e sl r ep d w Hs Hl Hq tlt tgt ts tm ene
  subst eene
  rcases (Decidable.em (sl = 0)).symm with eslne | eslne
  · have slne : (sl != 0) = true := by simp [eslne]
    have hf : okF ⟨1, s, t, l, q, f, n, 0, sl, r, ep, d⟩ = false := by
      rw [Bool.eq_false_iff]
      intro hh
      rw [ok1] at hh
      omega
    rw [hf]
    exact ck1_8 s t l q f n sl r ep d w Hs Hl Hq tlt tgt ts tm slne
  subst eslne
  rcases (Decidable.em (r = 0)).symm with erne | erne
  · have rne : (r != 0) = true := by simp [erne]
    have hf : okF ⟨1, s, t, l, q, f, n, 0, 0, r, ep, d⟩ = false := by
      rw [Bool.eq_false_iff]
      intro hh
      rw [ok1] at hh
      omega
    rw [hf]
    exact ck1_9 s t l q f n r ep d w Hs Hl Hq tlt tgt ts tm rne
  subst erne
  rcases (Decidable.em (ep = 0)).symm with eepne | eepne
  · have epne : (ep != 0) = true := by simp [eepne]
    have hf : okF ⟨1, s, t, l, q, f, n, 0, 0, 0, ep, d⟩ = false := by
      rw [Bool.eq_false_iff]
      intro hh
      rw [ok1] at hh
      omega
    rw [hf]
    exact ck1_10 s t l q f n ep d w Hs Hl Hq tlt tgt ts tm epne
  subst eepne
  cases bwf : inR f 0 255
  · have Hf := Lib.hid (fun w => by have := withinR_any f 255 w; rw [bwf] at this; exact this)
    have cwf := inR_ff bwf
    have hf : okF ⟨1, s, t, l, q, f, n, 0, 0, 0, 0, d⟩ = false := by
      rw [Bool.eq_false_iff]
      intro hh
      rw [ok1] at hh
      omega
    rw [hf]
    exact ck1_11 s t l q f n d w Hs Hl Hq tlt tgt ts tm Hf
  have Hf := Lib.hid (fun w => by have := withinR_any f 255 w; rw [bwf] at this; exact this)
  have cwf := inR_t.1 bwf
  clear bwf
  cases bwn : inR n 0 65535
  · have Hn := Lib.hid (fun w => by have := withinR_any n 65535 w; rw [bwn] at this; exact this)
    have cwn := inR_ff bwn
    have hf : okF ⟨1, s, t, l, q, f, n, 0, 0, 0, 0, d⟩ = false := by
      rw [Bool.eq_false_iff]
      intro hh
      rw [ok1] at hh
      omega
    rw [hf]
    exact ck1_12 s t l q f n d w Hs Hl Hq tlt tgt ts tm Hf Hn
  have Hn := Lib.hid (fun w => by have := withinR_any n 65535 w; rw [bwn] at this; exact this)
  have cwn := inR_t.1 bwn
  clear bwn
  have hf : okF ⟨1, s, t, l, q, f, n, 0, 0, 0, 0, d⟩ = true := by
    rw [ok1]
    omega
  rw [hf]
  exact ck1_13 s t l q f n d w Hs Hl Hq tlt tgt ts tm Hf Hn
set_option maxHeartbeats 1000000 in
theorem ckr2 (s t l q f n e sl r ep : Int) (d : ByteArray) (w : World) :
    Calls Try.prog 19 #[.agg (frA ⟨2, s, t, l, q, f, n, e, sl, r, ep, d⟩)] w fun x w' => x = .returned (.int .i64 (if okF ⟨2, s, t, l, q, f, n, e, sl, r, ep, d⟩ then 0 else 1)) ∧ Fr no w w' := by
  cases bws : inR s 0 31
  · have Hs := Lib.hid (fun w => by have := withinR_any s 31 w; rw [bws] at this; exact this)
    have cws := inR_ff bws
    have hf : okF ⟨2, s, t, l, q, f, n, e, sl, r, ep, d⟩ = false := by
      rw [Bool.eq_false_iff]
      intro hh
      rw [ok2] at hh
      omega
    rw [hf]
    exact ck2_0 s t l q f n e sl r ep d w Hs
  have Hs := Lib.hid (fun w => by have := withinR_any s 31 w; rw [bws] at this; exact this)
  have cws := inR_t.1 bws
  clear bws
  cases bwl : inR l 0 255
  · have Hl := Lib.hid (fun w => by have := withinR_any l 255 w; rw [bwl] at this; exact this)
    have cwl := inR_ff bwl
    have hf : okF ⟨2, s, t, l, q, f, n, e, sl, r, ep, d⟩ = false := by
      rw [Bool.eq_false_iff]
      intro hh
      rw [ok2] at hh
      omega
    rw [hf]
    exact ck2_1 s t l q f n e sl r ep d w Hs Hl
  have Hl := Lib.hid (fun w => by have := withinR_any l 255 w; rw [bwl] at this; exact this)
  have cwl := inR_t.1 bwl
  clear bwl
  cases bwq : inR q 0 255
  · have Hq := Lib.hid (fun w => by have := withinR_any q 255 w; rw [bwq] at this; exact this)
    have cwq := inR_ff bwq
    have hf : okF ⟨2, s, t, l, q, f, n, e, sl, r, ep, d⟩ = false := by
      rw [Bool.eq_false_iff]
      intro hh
      rw [ok2] at hh
      omega
    rw [hf]
    exact ck2_2 s t l q f n e sl r ep d w Hs Hl Hq
  have Hq := Lib.hid (fun w => by have := withinR_any q 255 w; rw [bwq] at this; exact this)
  have cwq := inR_t.1 bwq
  clear bwq
  by_cases tlt : t < -1
  · skip
    have hf : okF ⟨2, s, t, l, q, f, n, e, sl, r, ep, d⟩ = false := by
      rw [Bool.eq_false_iff]
      intro hh
      rw [ok2] at hh
      omega
    rw [hf]
    exact ck2_3 s t l q f n e sl r ep d w Hs Hl Hq tlt
  by_cases tgt : 31 < t
  · skip
    have hf : okF ⟨2, s, t, l, q, f, n, e, sl, r, ep, d⟩ = false := by
      rw [Bool.eq_false_iff]
      intro hh
      rw [ok2] at hh
      omega
    rw [hf]
    exact ck2_4 s t l q f n e sl r ep d w Hs Hl Hq tlt tgt
  by_cases ets : t = s
  · have ts : (t == s) = true := by simp [ets]
    have hf : okF ⟨2, s, t, l, q, f, n, e, sl, r, ep, d⟩ = false := by
      rw [Bool.eq_false_iff]
      intro hh
      rw [ok2] at hh
      omega
    rw [hf]
    exact ck2_5 s t l q f n e sl r ep d w Hs Hl Hq tlt tgt ts
  have ts : (t == s) = false := by simpa using ets
  by_cases etm : t = -1
  · have tm : (t == -1) = true := by simp [etm]
    have hf : okF ⟨2, s, t, l, q, f, n, e, sl, r, ep, d⟩ = false := by
      rw [Bool.eq_false_iff]
      intro hh
      rw [ok2] at hh
      omega
    rw [hf]
    exact ck2_6 s t l q f n e sl r ep d w Hs Hl Hq tlt tgt ts tm
  have tm : (t == -1) = false := by simpa using etm
  rcases (Decidable.em (f = 0)).symm with efne | efne
  · have fne : (f != 0) = true := by simp [efne]
    have hf : okF ⟨2, s, t, l, q, f, n, e, sl, r, ep, d⟩ = false := by
      rw [Bool.eq_false_iff]
      intro hh
      rw [ok2] at hh
      omega
    rw [hf]
    exact ck2_7 s t l q f n e sl r ep d w Hs Hl Hq tlt tgt ts tm fne
  subst efne
  rcases (Decidable.em (n = 0)).symm with enne | enne
  · have nne : (n != 0) = true := by simp [enne]
    have hf : okF ⟨2, s, t, l, q, 0, n, e, sl, r, ep, d⟩ = false := by
      rw [Bool.eq_false_iff]
      intro hh
      rw [ok2] at hh
      omega
    rw [hf]
    exact ck2_8 s t l q n e sl r ep d w Hs Hl Hq tlt tgt ts tm nne
  subst enne
  rcases (Decidable.em (sl = 0)).symm with eslne | eslne
  · have slne : (sl != 0) = true := by simp [eslne]
    have hf : okF ⟨2, s, t, l, q, 0, 0, e, sl, r, ep, d⟩ = false := by
      rw [Bool.eq_false_iff]
      intro hh
      rw [ok2] at hh
      omega
    rw [hf]
    exact ck2_9 s t l q e sl r ep d w Hs Hl Hq tlt tgt ts tm slne
  subst eslne
  rcases (Decidable.em (r = 0)).symm with erne | erne
  · have rne : (r != 0) = true := by simp [erne]
    have hf : okF ⟨2, s, t, l, q, 0, 0, e, 0, r, ep, d⟩ = false := by
      rw [Bool.eq_false_iff]
      intro hh
      rw [ok2] at hh
      omega
    rw [hf]
    exact ck2_10 s t l q e r ep d w Hs Hl Hq tlt tgt ts tm rne
  subst erne
  rcases (Decidable.em (ep = 0)).symm with eepne | eepne
  · have epne : (ep != 0) = true := by simp [eepne]
    have hf : okF ⟨2, s, t, l, q, 0, 0, e, 0, 0, ep, d⟩ = false := by
      rw [Bool.eq_false_iff]
      intro hh
      rw [ok2] at hh
      omega
    rw [hf]
    exact ck2_11 s t l q e ep d w Hs Hl Hq tlt tgt ts tm epne
  subst eepne
  rcases (Decidable.em (d = ⟨#[]⟩)).symm with de | de
  · have dne : d.toList ≠ [] := fun h => de (str_eq (by rw [h, ByteArray.toList_eq]))
    have hf : okF ⟨2, s, t, l, q, 0, 0, e, 0, 0, 0, d⟩ = false := by
      rw [Bool.eq_false_iff]
      intro hh
      rw [ok2] at hh
      exact de (str_eq (by rw [hh.2.2.2.2.2.2.2.2.2.2.2, ByteArray.toList_eq]))
    rw [hf]
    exact ck2_12 s t l q e d w Hs Hl Hq tlt tgt ts tm dne
  subst de
  by_cases elt : e < -32768
  · skip
    have hf : okF ⟨2, s, t, l, q, 0, 0, e, 0, 0, 0, ⟨#[]⟩⟩ = false := by
      rw [Bool.eq_false_iff]
      intro hh
      rw [ok2] at hh
      omega
    rw [hf]
    exact ck2_13 s t l q e w Hs Hl Hq tlt tgt ts tm elt
  by_cases egt : 32767 < e
  · skip
    have hf : okF ⟨2, s, t, l, q, 0, 0, e, 0, 0, 0, ⟨#[]⟩⟩ = false := by
      rw [Bool.eq_false_iff]
      intro hh
      rw [ok2] at hh
      omega
    rw [hf]
    exact ck2_14 s t l q e w Hs Hl Hq tlt tgt ts tm elt egt
  have hf : okF ⟨2, s, t, l, q, 0, 0, e, 0, 0, 0, ⟨#[]⟩⟩ = true := by
    rw [ok2]
    refine ⟨by omega, by omega, by omega, by omega, by omega, rfl, rfl, by omega, rfl, rfl, rfl, by rw [ByteArray.toList_eq]⟩
  rw [hf]
  exact ck2_15 s t l q e w Hs Hl Hq tlt tgt ts tm elt egt
set_option maxHeartbeats 1000000 in
theorem ckr3 (s t l q f n e sl r ep : Int) (d : ByteArray) (w : World) :
    Calls Try.prog 19 #[.agg (frA ⟨3, s, t, l, q, f, n, e, sl, r, ep, d⟩)] w fun x w' => x = .returned (.int .i64 (if okF ⟨3, s, t, l, q, f, n, e, sl, r, ep, d⟩ then 0 else 1)) ∧ Fr no w w' := by
  cases bws : inR s 0 31
  · have Hs := Lib.hid (fun w => by have := withinR_any s 31 w; rw [bws] at this; exact this)
    have cws := inR_ff bws
    have hf : okF ⟨3, s, t, l, q, f, n, e, sl, r, ep, d⟩ = false := by
      rw [Bool.eq_false_iff]
      intro hh
      rw [ok3] at hh
      omega
    rw [hf]
    exact ck3_0 s t l q f n e sl r ep d w Hs
  have Hs := Lib.hid (fun w => by have := withinR_any s 31 w; rw [bws] at this; exact this)
  have cws := inR_t.1 bws
  clear bws
  cases bwl : inR l 0 255
  · have Hl := Lib.hid (fun w => by have := withinR_any l 255 w; rw [bwl] at this; exact this)
    have cwl := inR_ff bwl
    have hf : okF ⟨3, s, t, l, q, f, n, e, sl, r, ep, d⟩ = false := by
      rw [Bool.eq_false_iff]
      intro hh
      rw [ok3] at hh
      omega
    rw [hf]
    exact ck3_1 s t l q f n e sl r ep d w Hs Hl
  have Hl := Lib.hid (fun w => by have := withinR_any l 255 w; rw [bwl] at this; exact this)
  have cwl := inR_t.1 bwl
  clear bwl
  cases bwq : inR q 0 255
  · have Hq := Lib.hid (fun w => by have := withinR_any q 255 w; rw [bwq] at this; exact this)
    have cwq := inR_ff bwq
    have hf : okF ⟨3, s, t, l, q, f, n, e, sl, r, ep, d⟩ = false := by
      rw [Bool.eq_false_iff]
      intro hh
      rw [ok3] at hh
      omega
    rw [hf]
    exact ck3_2 s t l q f n e sl r ep d w Hs Hl Hq
  have Hq := Lib.hid (fun w => by have := withinR_any q 255 w; rw [bwq] at this; exact this)
  have cwq := inR_t.1 bwq
  clear bwq
  rcases (Decidable.em (t = -1)).symm with etne | etne
  · have tne : (t != (-1)) = true := by simp [etne]
    have hf : okF ⟨3, s, t, l, q, f, n, e, sl, r, ep, d⟩ = false := by
      rw [Bool.eq_false_iff]
      intro hh
      rw [ok3] at hh
      omega
    rw [hf]
    exact ck3_3 s t l q f n e sl r ep d w Hs Hl Hq tne
  subst etne
  have ts : ((-1 : Int) == s) = false := by simp; omega
  rcases (Decidable.em (f = 0)).symm with efne | efne
  · have fne : (f != 0) = true := by simp [efne]
    have hf : okF ⟨3, s, (-1), l, q, f, n, e, sl, r, ep, d⟩ = false := by
      rw [Bool.eq_false_iff]
      intro hh
      rw [ok3] at hh
      omega
    rw [hf]
    exact ck3_5 s l q f n e sl r ep d w Hs Hl Hq ts fne
  subst efne
  rcases (Decidable.em (n = 0)).symm with enne | enne
  · have nne : (n != 0) = true := by simp [enne]
    have hf : okF ⟨3, s, (-1), l, q, 0, n, e, sl, r, ep, d⟩ = false := by
      rw [Bool.eq_false_iff]
      intro hh
      rw [ok3] at hh
      omega
    rw [hf]
    exact ck3_6 s l q n e sl r ep d w Hs Hl Hq ts nne
  subst enne
  rcases (Decidable.em (e = 0)).symm with eene | eene
  · have ene : (e != 0) = true := by simp [eene]
    have hf : okF ⟨3, s, (-1), l, q, 0, 0, e, sl, r, ep, d⟩ = false := by
      rw [Bool.eq_false_iff]
      intro hh
      rw [ok3] at hh
      omega
    rw [hf]
    exact ck3_7 s l q e sl r ep d w Hs Hl Hq ts ene
  subst eene
  cases bwsl : inR sl 0 109951162
  · have Hsl := Lib.hid (fun w => by have := withinR_any sl 109951162 w; rw [bwsl] at this; exact this)
    have cwsl := inR_ff bwsl
    have hf : okF ⟨3, s, (-1), l, q, 0, 0, 0, sl, r, ep, d⟩ = false := by
      rw [Bool.eq_false_iff]
      intro hh
      rw [ok3] at hh
      omega
    rw [hf]
    exact ck3_8 s l q sl r ep d w Hs Hl Hq ts Hsl
  have Hsl := Lib.hid (fun w => by have := withinR_any sl 109951162 w; rw [bwsl] at this; exact this)
  have cwsl := inR_t.1 bwsl
  clear bwsl
  cases bwr : inR r 0 65535
  · have Hr := Lib.hid (fun w => by have := withinR_any r 65535 w; rw [bwr] at this; exact this)
    have cwr := inR_ff bwr
    have hf : okF ⟨3, s, (-1), l, q, 0, 0, 0, sl, r, ep, d⟩ = false := by
      rw [Bool.eq_false_iff]
      intro hh
      rw [ok3] at hh
      omega
    rw [hf]
    exact ck3_9 s l q sl r ep d w Hs Hl Hq ts Hsl Hr
  have Hr := Lib.hid (fun w => by have := withinR_any r 65535 w; rw [bwr] at this; exact this)
  have cwr := inR_t.1 bwr
  clear bwr
  cases bwep : inR ep 0 65535
  · have Hep := Lib.hid (fun w => by have := withinR_any ep 65535 w; rw [bwep] at this; exact this)
    have cwep := inR_ff bwep
    have hf : okF ⟨3, s, (-1), l, q, 0, 0, 0, sl, r, ep, d⟩ = false := by
      rw [Bool.eq_false_iff]
      intro hh
      rw [ok3] at hh
      omega
    rw [hf]
    exact ck3_10 s l q sl r ep d w Hs Hl Hq ts Hsl Hr Hep
  have Hep := Lib.hid (fun w => by have := withinR_any ep 65535 w; rw [bwep] at this; exact this)
  have cwep := inR_t.1 bwep
  clear bwep
  have hf : okF ⟨3, s, (-1), l, q, 0, 0, 0, sl, r, ep, d⟩ = true := by
    rw [ok3]
    omega
  rw [hf]
  exact ck3_11 s l q sl r ep d w Hs Hl Hq ts Hsl Hr Hep
set_option maxHeartbeats 1000000 in
theorem ckr4 (s t l q f n e sl r ep : Int) (d : ByteArray) (w : World) :
    Calls Try.prog 19 #[.agg (frA ⟨4, s, t, l, q, f, n, e, sl, r, ep, d⟩)] w fun x w' => x = .returned (.int .i64 (if okF ⟨4, s, t, l, q, f, n, e, sl, r, ep, d⟩ then 0 else 1)) ∧ Fr no w w' := by
  cases bws : inR s 0 31
  · have Hs := Lib.hid (fun w => by have := withinR_any s 31 w; rw [bws] at this; exact this)
    have cws := inR_ff bws
    have hf : okF ⟨4, s, t, l, q, f, n, e, sl, r, ep, d⟩ = false := by
      rw [Bool.eq_false_iff]
      intro hh
      rw [ok4] at hh
      omega
    rw [hf]
    exact ck4_0 s t l q f n e sl r ep d w Hs
  have Hs := Lib.hid (fun w => by have := withinR_any s 31 w; rw [bws] at this; exact this)
  have cws := inR_t.1 bws
  clear bws
  cases bwl : inR l 0 255
  · have Hl := Lib.hid (fun w => by have := withinR_any l 255 w; rw [bwl] at this; exact this)
    have cwl := inR_ff bwl
    have hf : okF ⟨4, s, t, l, q, f, n, e, sl, r, ep, d⟩ = false := by
      rw [Bool.eq_false_iff]
      intro hh
      rw [ok4] at hh
      omega
    rw [hf]
    exact ck4_1 s t l q f n e sl r ep d w Hs Hl
  have Hl := Lib.hid (fun w => by have := withinR_any l 255 w; rw [bwl] at this; exact this)
  have cwl := inR_t.1 bwl
  clear bwl
  cases bwq : inR q 0 255
  · have Hq := Lib.hid (fun w => by have := withinR_any q 255 w; rw [bwq] at this; exact this)
    have cwq := inR_ff bwq
    have hf : okF ⟨4, s, t, l, q, f, n, e, sl, r, ep, d⟩ = false := by
      rw [Bool.eq_false_iff]
      intro hh
      rw [ok4] at hh
      omega
    rw [hf]
    exact ck4_2 s t l q f n e sl r ep d w Hs Hl Hq
  have Hq := Lib.hid (fun w => by have := withinR_any q 255 w; rw [bwq] at this; exact this)
  have cwq := inR_t.1 bwq
  clear bwq
  by_cases tlt : t < -1
  · skip
    have hf : okF ⟨4, s, t, l, q, f, n, e, sl, r, ep, d⟩ = false := by
      rw [Bool.eq_false_iff]
      intro hh
      rw [ok4] at hh
      omega
    rw [hf]
    exact ck4_3 s t l q f n e sl r ep d w Hs Hl Hq tlt
  by_cases tgt : 31 < t
  · skip
    have hf : okF ⟨4, s, t, l, q, f, n, e, sl, r, ep, d⟩ = false := by
      rw [Bool.eq_false_iff]
      intro hh
      rw [ok4] at hh
      omega
    rw [hf]
    exact ck4_4 s t l q f n e sl r ep d w Hs Hl Hq tlt tgt
  by_cases ets : t = s
  · have ts : (t == s) = true := by simp [ets]
    have hf : okF ⟨4, s, t, l, q, f, n, e, sl, r, ep, d⟩ = false := by
      rw [Bool.eq_false_iff]
      intro hh
      rw [ok4] at hh
      omega
    rw [hf]
    exact ck4_5 s t l q f n e sl r ep d w Hs Hl Hq tlt tgt ts
  have ts : (t == s) = false := by simpa using ets
  rcases (Decidable.em (f = 0)).symm with efne | efne
  · have fne : (f != 0) = true := by simp [efne]
    have hf : okF ⟨4, s, t, l, q, f, n, e, sl, r, ep, d⟩ = false := by
      rw [Bool.eq_false_iff]
      intro hh
      rw [ok4] at hh
      omega
    rw [hf]
    exact ck4_6 s t l q f n e sl r ep d w Hs Hl Hq tlt tgt ts fne
  subst efne
  rcases (Decidable.em (n = 0)).symm with enne | enne
  · have nne : (n != 0) = true := by simp [enne]
    have hf : okF ⟨4, s, t, l, q, 0, n, e, sl, r, ep, d⟩ = false := by
      rw [Bool.eq_false_iff]
      intro hh
      rw [ok4] at hh
      omega
    rw [hf]
    exact ck4_7 s t l q n e sl r ep d w Hs Hl Hq tlt tgt ts nne
  subst enne
  rcases (Decidable.em (e = 0)).symm with eene | eene
  · have ene : (e != 0) = true := by simp [eene]
    have hf : okF ⟨4, s, t, l, q, 0, 0, e, sl, r, ep, d⟩ = false := by
      rw [Bool.eq_false_iff]
      intro hh
      rw [ok4] at hh
      omega
    rw [hf]
    exact ck4_8 s t l q e sl r ep d w Hs Hl Hq tlt tgt ts ene
  subst eene
  rcases (Decidable.em (sl = 0)).symm with eslne | eslne
  · have slne : (sl != 0) = true := by simp [eslne]
    have hf : okF ⟨4, s, t, l, q, 0, 0, 0, sl, r, ep, d⟩ = false := by
      rw [Bool.eq_false_iff]
      intro hh
      rw [ok4] at hh
      omega
    rw [hf]
    exact ck4_9 s t l q sl r ep d w Hs Hl Hq tlt tgt ts slne
  subst eslne
  rcases (Decidable.em (r = 0)).symm with erne | erne
  · have rne : (r != 0) = true := by simp [erne]
    have hf : okF ⟨4, s, t, l, q, 0, 0, 0, 0, r, ep, d⟩ = false := by
      rw [Bool.eq_false_iff]
      intro hh
      rw [ok4] at hh
      omega
    rw [hf]
    exact ck4_10 s t l q r ep d w Hs Hl Hq tlt tgt ts rne
  subst erne
  rcases (Decidable.em (ep = 0)).symm with eepne | eepne
  · have epne : (ep != 0) = true := by simp [eepne]
    have hf : okF ⟨4, s, t, l, q, 0, 0, 0, 0, 0, ep, d⟩ = false := by
      rw [Bool.eq_false_iff]
      intro hh
      rw [ok4] at hh
      omega
    rw [hf]
    exact ck4_11 s t l q ep d w Hs Hl Hq tlt tgt ts epne
  subst eepne
  have hf : okF ⟨4, s, t, l, q, 0, 0, 0, 0, 0, 0, d⟩ = true := by
    rw [ok4]
    omega
  rw [hf]
  exact ck4_12 s t l q d w Hs Hl Hq tlt tgt ts
set_option maxHeartbeats 2000000 in
theorem ckr0 (k s t l q f n e sl r ep : Int) (d : ByteArray) (w : World) (k1 : (k == 1) = false) (k2 : (k == 2) = false) (k3 : (k == 3) = false) (k4 : (k == 4) = false) :
    Calls Try.prog 19 #[.agg (frA ⟨k, s, t, l, q, f, n, e, sl, r, ep, d⟩)] w fun x w' => x = .returned (.int .i64 1) ∧ Fr no w w' := by
  have HF := Lib.hid (Fr.refl no w)
  simp only [frA]
  obtain ⟨W, hW⟩ : ∃ W, W = w.alloc (.cells #[.int .i64 k, .int .i64 s, .int .i64 t, .int .i64 l, .int .i64 q, .int .i64 f, .int .i64 n, .int .i64 e, .int .i64 sl, .int .i64 r, .int .i64 ep, .string d] 23 (0, 0)) := ⟨_, rfl⟩
  have hB : W.heap[w.heap.size]? = some (.cells #[.int .i64 k, .int .i64 s, .int .i64 t, .int .i64 l, .int .i64 q, .int .i64 f, .int .i64 n, .int .i64 e, .int .i64 sl, .int .i64 r, .int .i64 ep, .string d] 23 (0, 0)) := by rw [hW]; exact heap_alloc_new w _
  have HW := Lib.hid (show Fr no w W by rw [hW]; exact HF.out.alloc _)
  obtain ⟨c0, c1, c2, c3, c4, c5, c6, c7, c8, c9, c10, c11⟩ := twelve_cells hB
  clear hB
  have HWW := Lib.hid hW
  clear hW
  go_enter Try.func19, Try.ntmps19
  go_wp2_with fail
  rw [← HWW.out]
  go_quiet (fail)
  go_wp2_with fail
  go_ret
  exact ⟨rfl, ⟨HW.out.os, HW.out.tape, HW.out.output, HW.out.size, HW.out.block⟩⟩
theorem ckr_any (x : Frm) (w : World) : Calls Try.prog 19 #[.agg (frA x)] w fun e w' => e = .returned (.int .i64 (if okF x then 0 else 1)) ∧ Fr no w w' := by
  obtain ⟨k, s, t, l, q, f, n, e, sl, r, ep, d⟩ := x
  by_cases h1 : k = 1
  · subst h1; exact ckr1 s t l q f n e sl r ep d w
  by_cases h2 : k = 2
  · subst h2; exact ckr2 s t l q f n e sl r ep d w
  by_cases h3 : k = 3
  · subst h3; exact ckr3 s t l q f n e sl r ep d w
  by_cases h4 : k = 4
  · subst h4; exact ckr4 s t l q f n e sl r ep d w
  have hf : okF ⟨k, s, t, l, q, f, n, e, sl, r, ep, d⟩ = false := by
    rw [Bool.eq_false_iff]
    intro hh
    have := (okF_parts hh).1
    simp only at this
    omega
  rw [hf]
  exact ckr0 k s t l q f n e sl r ep d w (by simpa using h1) (by simpa using h2) (by simpa using h3) (by simpa using h4)
end Go.Proofs.Ytelpdihaonoedaa
