/- The document's Check: the kind 4. -/
import Derived.Test.YtelpdihaonoedaaRck
namespace Go.Proofs.Ytelpdihaonoedaa
open Go.RowKit
set_option linter.unusedVariables false
set_option maxRecDepth 20000

set_option maxHeartbeats 2000000 in
theorem ck4_0 (s t l q f n e sl r ep : Int) (d : ByteArray) (w : World) (Hs : Hid (∀ w : World, Calls Try.prog 43 #[.int .i64 s, .int .i64 31] w fun e w' => e = .returned (.bool false) ∧ w' = w)) :
    Calls Try.prog 19 #[.agg #[.int .i64 4, .int .i64 s, .int .i64 t, .int .i64 l, .int .i64 q, .int .i64 f, .int .i64 n, .int .i64 e, .int .i64 sl, .int .i64 r, .int .i64 ep, .string d]] w fun x w' => x = .returned (.int .i64 1) ∧ Fr no w w' := by
  have HF := Lib.hid (Fr.refl no w)
  obtain ⟨W, hW⟩ : ∃ W, W = w.alloc (.cells #[.int .i64 4, .int .i64 s, .int .i64 t, .int .i64 l, .int .i64 q, .int .i64 f, .int .i64 n, .int .i64 e, .int .i64 sl, .int .i64 r, .int .i64 ep, .string d] 23 (0, 0)) := ⟨_, rfl⟩
  have hB : W.heap[w.heap.size]? = some (.cells #[.int .i64 4, .int .i64 s, .int .i64 t, .int .i64 l, .int .i64 q, .int .i64 f, .int .i64 n, .int .i64 e, .int .i64 sl, .int .i64 r, .int .i64 ep, .string d] 23 (0, 0)) := by rw [hW]; exact heap_alloc_new w _
  have HW := Lib.hid (show Fr no w W by rw [hW]; exact HF.out.alloc _)
  obtain ⟨c0, c1, c2, c3, c4, c5, c6, c7, c8, c9, c10, c11⟩ := twelve_cells hB
  clear hB
  have HWW := Lib.hid hW
  clear hW
  go_enter Try.func19, Try.ntmps19
  go_wp2_with fail
  rw [← HWW.out]
  go_quiet (fail)
  go_wp2_with (first | (go_at_call_of 43 s; refine (Hs.out _).mono ?_; rintro e2 w2 ⟨rfl, rfl⟩) | (go_at_call 43; refine (withinR_0 _ (by decide) _).mono ?_; rintro e2 w2 ⟨rfl, rfl⟩))
  go_ret
  exact ⟨rfl, ⟨HW.out.os, HW.out.tape, HW.out.output, HW.out.size, HW.out.block⟩⟩
set_option maxHeartbeats 2000000 in
theorem ck4_1 (s t l q f n e sl r ep : Int) (d : ByteArray) (w : World) (Hs : Hid (∀ w : World, Calls Try.prog 43 #[.int .i64 s, .int .i64 31] w fun e w' => e = .returned (.bool true) ∧ w' = w)) (Hl : Hid (∀ w : World, Calls Try.prog 43 #[.int .i64 l, .int .i64 255] w fun e w' => e = .returned (.bool false) ∧ w' = w)) :
    Calls Try.prog 19 #[.agg #[.int .i64 4, .int .i64 s, .int .i64 t, .int .i64 l, .int .i64 q, .int .i64 f, .int .i64 n, .int .i64 e, .int .i64 sl, .int .i64 r, .int .i64 ep, .string d]] w fun x w' => x = .returned (.int .i64 1) ∧ Fr no w w' := by
  have HF := Lib.hid (Fr.refl no w)
  obtain ⟨W, hW⟩ : ∃ W, W = w.alloc (.cells #[.int .i64 4, .int .i64 s, .int .i64 t, .int .i64 l, .int .i64 q, .int .i64 f, .int .i64 n, .int .i64 e, .int .i64 sl, .int .i64 r, .int .i64 ep, .string d] 23 (0, 0)) := ⟨_, rfl⟩
  have hB : W.heap[w.heap.size]? = some (.cells #[.int .i64 4, .int .i64 s, .int .i64 t, .int .i64 l, .int .i64 q, .int .i64 f, .int .i64 n, .int .i64 e, .int .i64 sl, .int .i64 r, .int .i64 ep, .string d] 23 (0, 0)) := by rw [hW]; exact heap_alloc_new w _
  have HW := Lib.hid (show Fr no w W by rw [hW]; exact HF.out.alloc _)
  obtain ⟨c0, c1, c2, c3, c4, c5, c6, c7, c8, c9, c10, c11⟩ := twelve_cells hB
  clear hB
  have HWW := Lib.hid hW
  clear hW
  go_enter Try.func19, Try.ntmps19
  go_wp2_with fail
  rw [← HWW.out]
  go_quiet (fail)
  go_wp2_with (first | (go_at_call_of 43 s; refine (Hs.out _).mono ?_; rintro e2 w2 ⟨rfl, rfl⟩) | (go_at_call_of 43 l; refine (Hl.out _).mono ?_; rintro e2 w2 ⟨rfl, rfl⟩) | (go_at_call 43; refine (withinR_0 _ (by decide) _).mono ?_; rintro e2 w2 ⟨rfl, rfl⟩))
  go_ret
  exact ⟨rfl, ⟨HW.out.os, HW.out.tape, HW.out.output, HW.out.size, HW.out.block⟩⟩
set_option maxHeartbeats 2000000 in
theorem ck4_2 (s t l q f n e sl r ep : Int) (d : ByteArray) (w : World) (Hs : Hid (∀ w : World, Calls Try.prog 43 #[.int .i64 s, .int .i64 31] w fun e w' => e = .returned (.bool true) ∧ w' = w)) (Hl : Hid (∀ w : World, Calls Try.prog 43 #[.int .i64 l, .int .i64 255] w fun e w' => e = .returned (.bool true) ∧ w' = w)) (Hq : Hid (∀ w : World, Calls Try.prog 43 #[.int .i64 q, .int .i64 255] w fun e w' => e = .returned (.bool false) ∧ w' = w)) :
    Calls Try.prog 19 #[.agg #[.int .i64 4, .int .i64 s, .int .i64 t, .int .i64 l, .int .i64 q, .int .i64 f, .int .i64 n, .int .i64 e, .int .i64 sl, .int .i64 r, .int .i64 ep, .string d]] w fun x w' => x = .returned (.int .i64 1) ∧ Fr no w w' := by
  have HF := Lib.hid (Fr.refl no w)
  obtain ⟨W, hW⟩ : ∃ W, W = w.alloc (.cells #[.int .i64 4, .int .i64 s, .int .i64 t, .int .i64 l, .int .i64 q, .int .i64 f, .int .i64 n, .int .i64 e, .int .i64 sl, .int .i64 r, .int .i64 ep, .string d] 23 (0, 0)) := ⟨_, rfl⟩
  have hB : W.heap[w.heap.size]? = some (.cells #[.int .i64 4, .int .i64 s, .int .i64 t, .int .i64 l, .int .i64 q, .int .i64 f, .int .i64 n, .int .i64 e, .int .i64 sl, .int .i64 r, .int .i64 ep, .string d] 23 (0, 0)) := by rw [hW]; exact heap_alloc_new w _
  have HW := Lib.hid (show Fr no w W by rw [hW]; exact HF.out.alloc _)
  obtain ⟨c0, c1, c2, c3, c4, c5, c6, c7, c8, c9, c10, c11⟩ := twelve_cells hB
  clear hB
  have HWW := Lib.hid hW
  clear hW
  go_enter Try.func19, Try.ntmps19
  go_wp2_with fail
  rw [← HWW.out]
  go_quiet (fail)
  go_wp2_with (first | (go_at_call_of 43 s; refine (Hs.out _).mono ?_; rintro e2 w2 ⟨rfl, rfl⟩) | (go_at_call_of 43 l; refine (Hl.out _).mono ?_; rintro e2 w2 ⟨rfl, rfl⟩) | (go_at_call_of 43 q; refine (Hq.out _).mono ?_; rintro e2 w2 ⟨rfl, rfl⟩) | (go_at_call 43; refine (withinR_0 _ (by decide) _).mono ?_; rintro e2 w2 ⟨rfl, rfl⟩))
  go_ret
  exact ⟨rfl, ⟨HW.out.os, HW.out.tape, HW.out.output, HW.out.size, HW.out.block⟩⟩
set_option maxHeartbeats 2000000 in
theorem ck4_3 (s t l q f n e sl r ep : Int) (d : ByteArray) (w : World) (Hs : Hid (∀ w : World, Calls Try.prog 43 #[.int .i64 s, .int .i64 31] w fun e w' => e = .returned (.bool true) ∧ w' = w)) (Hl : Hid (∀ w : World, Calls Try.prog 43 #[.int .i64 l, .int .i64 255] w fun e w' => e = .returned (.bool true) ∧ w' = w)) (Hq : Hid (∀ w : World, Calls Try.prog 43 #[.int .i64 q, .int .i64 255] w fun e w' => e = .returned (.bool true) ∧ w' = w)) (tlt : t < -1) :
    Calls Try.prog 19 #[.agg #[.int .i64 4, .int .i64 s, .int .i64 t, .int .i64 l, .int .i64 q, .int .i64 f, .int .i64 n, .int .i64 e, .int .i64 sl, .int .i64 r, .int .i64 ep, .string d]] w fun x w' => x = .returned (.int .i64 1) ∧ Fr no w w' := by
  have HF := Lib.hid (Fr.refl no w)
  obtain ⟨W, hW⟩ : ∃ W, W = w.alloc (.cells #[.int .i64 4, .int .i64 s, .int .i64 t, .int .i64 l, .int .i64 q, .int .i64 f, .int .i64 n, .int .i64 e, .int .i64 sl, .int .i64 r, .int .i64 ep, .string d] 23 (0, 0)) := ⟨_, rfl⟩
  have hB : W.heap[w.heap.size]? = some (.cells #[.int .i64 4, .int .i64 s, .int .i64 t, .int .i64 l, .int .i64 q, .int .i64 f, .int .i64 n, .int .i64 e, .int .i64 sl, .int .i64 r, .int .i64 ep, .string d] 23 (0, 0)) := by rw [hW]; exact heap_alloc_new w _
  have HW := Lib.hid (show Fr no w W by rw [hW]; exact HF.out.alloc _)
  obtain ⟨c0, c1, c2, c3, c4, c5, c6, c7, c8, c9, c10, c11⟩ := twelve_cells hB
  clear hB
  have HWW := Lib.hid hW
  clear hW
  go_enter Try.func19, Try.ntmps19
  go_wp2_with fail
  rw [← HWW.out]
  go_quiet (fail)
  go_wp2_with (first | (go_at_call_of 43 s; refine (Hs.out _).mono ?_; rintro e2 w2 ⟨rfl, rfl⟩) | (go_at_call_of 43 l; refine (Hl.out _).mono ?_; rintro e2 w2 ⟨rfl, rfl⟩) | (go_at_call_of 43 q; refine (Hq.out _).mono ?_; rintro e2 w2 ⟨rfl, rfl⟩) | (go_at_call 43; refine (withinR_0 _ (by decide) _).mono ?_; rintro e2 w2 ⟨rfl, rfl⟩))
  go_ret
  exact ⟨rfl, ⟨HW.out.os, HW.out.tape, HW.out.output, HW.out.size, HW.out.block⟩⟩
set_option maxHeartbeats 2000000 in
theorem ck4_4 (s t l q f n e sl r ep : Int) (d : ByteArray) (w : World) (Hs : Hid (∀ w : World, Calls Try.prog 43 #[.int .i64 s, .int .i64 31] w fun e w' => e = .returned (.bool true) ∧ w' = w)) (Hl : Hid (∀ w : World, Calls Try.prog 43 #[.int .i64 l, .int .i64 255] w fun e w' => e = .returned (.bool true) ∧ w' = w)) (Hq : Hid (∀ w : World, Calls Try.prog 43 #[.int .i64 q, .int .i64 255] w fun e w' => e = .returned (.bool true) ∧ w' = w)) (tlt : ¬ t < -1) (tgt : 31 < t) :
    Calls Try.prog 19 #[.agg #[.int .i64 4, .int .i64 s, .int .i64 t, .int .i64 l, .int .i64 q, .int .i64 f, .int .i64 n, .int .i64 e, .int .i64 sl, .int .i64 r, .int .i64 ep, .string d]] w fun x w' => x = .returned (.int .i64 1) ∧ Fr no w w' := by
  have HF := Lib.hid (Fr.refl no w)
  have Dtlt : decide (t < -1) = false := decide_eq_false tlt
  obtain ⟨W, hW⟩ : ∃ W, W = w.alloc (.cells #[.int .i64 4, .int .i64 s, .int .i64 t, .int .i64 l, .int .i64 q, .int .i64 f, .int .i64 n, .int .i64 e, .int .i64 sl, .int .i64 r, .int .i64 ep, .string d] 23 (0, 0)) := ⟨_, rfl⟩
  have hB : W.heap[w.heap.size]? = some (.cells #[.int .i64 4, .int .i64 s, .int .i64 t, .int .i64 l, .int .i64 q, .int .i64 f, .int .i64 n, .int .i64 e, .int .i64 sl, .int .i64 r, .int .i64 ep, .string d] 23 (0, 0)) := by rw [hW]; exact heap_alloc_new w _
  have HW := Lib.hid (show Fr no w W by rw [hW]; exact HF.out.alloc _)
  obtain ⟨c0, c1, c2, c3, c4, c5, c6, c7, c8, c9, c10, c11⟩ := twelve_cells hB
  clear hB
  have HWW := Lib.hid hW
  clear hW
  go_enter Try.func19, Try.ntmps19
  go_wp2_with fail
  rw [← HWW.out]
  go_quiet (fail)
  go_wp2_with (first | (go_at_call_of 43 s; refine (Hs.out _).mono ?_; rintro e2 w2 ⟨rfl, rfl⟩) | (go_at_call_of 43 l; refine (Hl.out _).mono ?_; rintro e2 w2 ⟨rfl, rfl⟩) | (go_at_call_of 43 q; refine (Hq.out _).mono ?_; rintro e2 w2 ⟨rfl, rfl⟩) | (go_at_call 43; refine (withinR_0 _ (by decide) _).mono ?_; rintro e2 w2 ⟨rfl, rfl⟩))
  go_ret
  exact ⟨rfl, ⟨HW.out.os, HW.out.tape, HW.out.output, HW.out.size, HW.out.block⟩⟩
set_option maxHeartbeats 2000000 in
theorem ck4_5 (s t l q f n e sl r ep : Int) (d : ByteArray) (w : World) (Hs : Hid (∀ w : World, Calls Try.prog 43 #[.int .i64 s, .int .i64 31] w fun e w' => e = .returned (.bool true) ∧ w' = w)) (Hl : Hid (∀ w : World, Calls Try.prog 43 #[.int .i64 l, .int .i64 255] w fun e w' => e = .returned (.bool true) ∧ w' = w)) (Hq : Hid (∀ w : World, Calls Try.prog 43 #[.int .i64 q, .int .i64 255] w fun e w' => e = .returned (.bool true) ∧ w' = w)) (tlt : ¬ t < -1) (tgt : ¬ 31 < t) (ts : (t == s) = true) :
    Calls Try.prog 19 #[.agg #[.int .i64 4, .int .i64 s, .int .i64 t, .int .i64 l, .int .i64 q, .int .i64 f, .int .i64 n, .int .i64 e, .int .i64 sl, .int .i64 r, .int .i64 ep, .string d]] w fun x w' => x = .returned (.int .i64 1) ∧ Fr no w w' := by
  have HF := Lib.hid (Fr.refl no w)
  have Dtlt : decide (t < -1) = false := decide_eq_false tlt
  have Dtgt : decide (31 < t) = false := decide_eq_false tgt
  obtain ⟨W, hW⟩ : ∃ W, W = w.alloc (.cells #[.int .i64 4, .int .i64 s, .int .i64 t, .int .i64 l, .int .i64 q, .int .i64 f, .int .i64 n, .int .i64 e, .int .i64 sl, .int .i64 r, .int .i64 ep, .string d] 23 (0, 0)) := ⟨_, rfl⟩
  have hB : W.heap[w.heap.size]? = some (.cells #[.int .i64 4, .int .i64 s, .int .i64 t, .int .i64 l, .int .i64 q, .int .i64 f, .int .i64 n, .int .i64 e, .int .i64 sl, .int .i64 r, .int .i64 ep, .string d] 23 (0, 0)) := by rw [hW]; exact heap_alloc_new w _
  have HW := Lib.hid (show Fr no w W by rw [hW]; exact HF.out.alloc _)
  obtain ⟨c0, c1, c2, c3, c4, c5, c6, c7, c8, c9, c10, c11⟩ := twelve_cells hB
  clear hB
  have HWW := Lib.hid hW
  clear hW
  go_enter Try.func19, Try.ntmps19
  go_wp2_with fail
  rw [← HWW.out]
  go_quiet (fail)
  go_wp2_with (first | (go_at_call_of 43 s; refine (Hs.out _).mono ?_; rintro e2 w2 ⟨rfl, rfl⟩) | (go_at_call_of 43 l; refine (Hl.out _).mono ?_; rintro e2 w2 ⟨rfl, rfl⟩) | (go_at_call_of 43 q; refine (Hq.out _).mono ?_; rintro e2 w2 ⟨rfl, rfl⟩) | (go_at_call 43; refine (withinR_0 _ (by decide) _).mono ?_; rintro e2 w2 ⟨rfl, rfl⟩))
  go_ret
  exact ⟨rfl, ⟨HW.out.os, HW.out.tape, HW.out.output, HW.out.size, HW.out.block⟩⟩
set_option maxHeartbeats 2000000 in
theorem ck4_6 (s t l q f n e sl r ep : Int) (d : ByteArray) (w : World) (Hs : Hid (∀ w : World, Calls Try.prog 43 #[.int .i64 s, .int .i64 31] w fun e w' => e = .returned (.bool true) ∧ w' = w)) (Hl : Hid (∀ w : World, Calls Try.prog 43 #[.int .i64 l, .int .i64 255] w fun e w' => e = .returned (.bool true) ∧ w' = w)) (Hq : Hid (∀ w : World, Calls Try.prog 43 #[.int .i64 q, .int .i64 255] w fun e w' => e = .returned (.bool true) ∧ w' = w)) (tlt : ¬ t < -1) (tgt : ¬ 31 < t) (ts : (t == s) = false) (fne : (f != 0) = true) :
    Calls Try.prog 19 #[.agg #[.int .i64 4, .int .i64 s, .int .i64 t, .int .i64 l, .int .i64 q, .int .i64 f, .int .i64 n, .int .i64 e, .int .i64 sl, .int .i64 r, .int .i64 ep, .string d]] w fun x w' => x = .returned (.int .i64 1) ∧ Fr no w w' := by
  have HF := Lib.hid (Fr.refl no w)
  have Dtlt : decide (t < -1) = false := decide_eq_false tlt
  have Dtgt : decide (31 < t) = false := decide_eq_false tgt
  obtain ⟨W, hW⟩ : ∃ W, W = w.alloc (.cells #[.int .i64 4, .int .i64 s, .int .i64 t, .int .i64 l, .int .i64 q, .int .i64 f, .int .i64 n, .int .i64 e, .int .i64 sl, .int .i64 r, .int .i64 ep, .string d] 23 (0, 0)) := ⟨_, rfl⟩
  have hB : W.heap[w.heap.size]? = some (.cells #[.int .i64 4, .int .i64 s, .int .i64 t, .int .i64 l, .int .i64 q, .int .i64 f, .int .i64 n, .int .i64 e, .int .i64 sl, .int .i64 r, .int .i64 ep, .string d] 23 (0, 0)) := by rw [hW]; exact heap_alloc_new w _
  have HW := Lib.hid (show Fr no w W by rw [hW]; exact HF.out.alloc _)
  obtain ⟨c0, c1, c2, c3, c4, c5, c6, c7, c8, c9, c10, c11⟩ := twelve_cells hB
  clear hB
  have HWW := Lib.hid hW
  clear hW
  go_enter Try.func19, Try.ntmps19
  go_wp2_with fail
  rw [← HWW.out]
  go_quiet (fail)
  go_wp2_with (first | (go_at_call_of 43 s; refine (Hs.out _).mono ?_; rintro e2 w2 ⟨rfl, rfl⟩) | (go_at_call_of 43 l; refine (Hl.out _).mono ?_; rintro e2 w2 ⟨rfl, rfl⟩) | (go_at_call_of 43 q; refine (Hq.out _).mono ?_; rintro e2 w2 ⟨rfl, rfl⟩) | (go_at_call 43; refine (withinR_0 _ (by decide) _).mono ?_; rintro e2 w2 ⟨rfl, rfl⟩))
  go_ret
  exact ⟨rfl, ⟨HW.out.os, HW.out.tape, HW.out.output, HW.out.size, HW.out.block⟩⟩
set_option maxHeartbeats 2000000 in
theorem ck4_7 (s t l q n e sl r ep : Int) (d : ByteArray) (w : World) (Hs : Hid (∀ w : World, Calls Try.prog 43 #[.int .i64 s, .int .i64 31] w fun e w' => e = .returned (.bool true) ∧ w' = w)) (Hl : Hid (∀ w : World, Calls Try.prog 43 #[.int .i64 l, .int .i64 255] w fun e w' => e = .returned (.bool true) ∧ w' = w)) (Hq : Hid (∀ w : World, Calls Try.prog 43 #[.int .i64 q, .int .i64 255] w fun e w' => e = .returned (.bool true) ∧ w' = w)) (tlt : ¬ t < -1) (tgt : ¬ 31 < t) (ts : (t == s) = false) (nne : (n != 0) = true) :
    Calls Try.prog 19 #[.agg #[.int .i64 4, .int .i64 s, .int .i64 t, .int .i64 l, .int .i64 q, .int .i64 0, .int .i64 n, .int .i64 e, .int .i64 sl, .int .i64 r, .int .i64 ep, .string d]] w fun x w' => x = .returned (.int .i64 1) ∧ Fr no w w' := by
  have HF := Lib.hid (Fr.refl no w)
  have Dtlt : decide (t < -1) = false := decide_eq_false tlt
  have Dtgt : decide (31 < t) = false := decide_eq_false tgt
  obtain ⟨W, hW⟩ : ∃ W, W = w.alloc (.cells #[.int .i64 4, .int .i64 s, .int .i64 t, .int .i64 l, .int .i64 q, .int .i64 0, .int .i64 n, .int .i64 e, .int .i64 sl, .int .i64 r, .int .i64 ep, .string d] 23 (0, 0)) := ⟨_, rfl⟩
  have hB : W.heap[w.heap.size]? = some (.cells #[.int .i64 4, .int .i64 s, .int .i64 t, .int .i64 l, .int .i64 q, .int .i64 0, .int .i64 n, .int .i64 e, .int .i64 sl, .int .i64 r, .int .i64 ep, .string d] 23 (0, 0)) := by rw [hW]; exact heap_alloc_new w _
  have HW := Lib.hid (show Fr no w W by rw [hW]; exact HF.out.alloc _)
  obtain ⟨c0, c1, c2, c3, c4, c5, c6, c7, c8, c9, c10, c11⟩ := twelve_cells hB
  clear hB
  have HWW := Lib.hid hW
  clear hW
  go_enter Try.func19, Try.ntmps19
  go_wp2_with fail
  rw [← HWW.out]
  go_quiet (fail)
  go_wp2_with (first | (go_at_call_of 43 s; refine (Hs.out _).mono ?_; rintro e2 w2 ⟨rfl, rfl⟩) | (go_at_call_of 43 l; refine (Hl.out _).mono ?_; rintro e2 w2 ⟨rfl, rfl⟩) | (go_at_call_of 43 q; refine (Hq.out _).mono ?_; rintro e2 w2 ⟨rfl, rfl⟩) | (go_at_call 43; refine (withinR_0 _ (by decide) _).mono ?_; rintro e2 w2 ⟨rfl, rfl⟩))
  go_ret
  exact ⟨rfl, ⟨HW.out.os, HW.out.tape, HW.out.output, HW.out.size, HW.out.block⟩⟩
set_option maxHeartbeats 2000000 in
theorem ck4_8 (s t l q e sl r ep : Int) (d : ByteArray) (w : World) (Hs : Hid (∀ w : World, Calls Try.prog 43 #[.int .i64 s, .int .i64 31] w fun e w' => e = .returned (.bool true) ∧ w' = w)) (Hl : Hid (∀ w : World, Calls Try.prog 43 #[.int .i64 l, .int .i64 255] w fun e w' => e = .returned (.bool true) ∧ w' = w)) (Hq : Hid (∀ w : World, Calls Try.prog 43 #[.int .i64 q, .int .i64 255] w fun e w' => e = .returned (.bool true) ∧ w' = w)) (tlt : ¬ t < -1) (tgt : ¬ 31 < t) (ts : (t == s) = false) (ene : (e != 0) = true) :
    Calls Try.prog 19 #[.agg #[.int .i64 4, .int .i64 s, .int .i64 t, .int .i64 l, .int .i64 q, .int .i64 0, .int .i64 0, .int .i64 e, .int .i64 sl, .int .i64 r, .int .i64 ep, .string d]] w fun x w' => x = .returned (.int .i64 1) ∧ Fr no w w' := by
  have HF := Lib.hid (Fr.refl no w)
  have Dtlt : decide (t < -1) = false := decide_eq_false tlt
  have Dtgt : decide (31 < t) = false := decide_eq_false tgt
  obtain ⟨W, hW⟩ : ∃ W, W = w.alloc (.cells #[.int .i64 4, .int .i64 s, .int .i64 t, .int .i64 l, .int .i64 q, .int .i64 0, .int .i64 0, .int .i64 e, .int .i64 sl, .int .i64 r, .int .i64 ep, .string d] 23 (0, 0)) := ⟨_, rfl⟩
  have hB : W.heap[w.heap.size]? = some (.cells #[.int .i64 4, .int .i64 s, .int .i64 t, .int .i64 l, .int .i64 q, .int .i64 0, .int .i64 0, .int .i64 e, .int .i64 sl, .int .i64 r, .int .i64 ep, .string d] 23 (0, 0)) := by rw [hW]; exact heap_alloc_new w _
  have HW := Lib.hid (show Fr no w W by rw [hW]; exact HF.out.alloc _)
  obtain ⟨c0, c1, c2, c3, c4, c5, c6, c7, c8, c9, c10, c11⟩ := twelve_cells hB
  clear hB
  have HWW := Lib.hid hW
  clear hW
  go_enter Try.func19, Try.ntmps19
  go_wp2_with fail
  rw [← HWW.out]
  go_quiet (fail)
  go_wp2_with (first | (go_at_call_of 43 s; refine (Hs.out _).mono ?_; rintro e2 w2 ⟨rfl, rfl⟩) | (go_at_call_of 43 l; refine (Hl.out _).mono ?_; rintro e2 w2 ⟨rfl, rfl⟩) | (go_at_call_of 43 q; refine (Hq.out _).mono ?_; rintro e2 w2 ⟨rfl, rfl⟩) | (go_at_call 43; refine (withinR_0 _ (by decide) _).mono ?_; rintro e2 w2 ⟨rfl, rfl⟩))
  go_ret
  exact ⟨rfl, ⟨HW.out.os, HW.out.tape, HW.out.output, HW.out.size, HW.out.block⟩⟩
set_option maxHeartbeats 2000000 in
theorem ck4_9 (s t l q sl r ep : Int) (d : ByteArray) (w : World) (Hs : Hid (∀ w : World, Calls Try.prog 43 #[.int .i64 s, .int .i64 31] w fun e w' => e = .returned (.bool true) ∧ w' = w)) (Hl : Hid (∀ w : World, Calls Try.prog 43 #[.int .i64 l, .int .i64 255] w fun e w' => e = .returned (.bool true) ∧ w' = w)) (Hq : Hid (∀ w : World, Calls Try.prog 43 #[.int .i64 q, .int .i64 255] w fun e w' => e = .returned (.bool true) ∧ w' = w)) (tlt : ¬ t < -1) (tgt : ¬ 31 < t) (ts : (t == s) = false) (slne : (sl != 0) = true) :
    Calls Try.prog 19 #[.agg #[.int .i64 4, .int .i64 s, .int .i64 t, .int .i64 l, .int .i64 q, .int .i64 0, .int .i64 0, .int .i64 0, .int .i64 sl, .int .i64 r, .int .i64 ep, .string d]] w fun x w' => x = .returned (.int .i64 1) ∧ Fr no w w' := by
  have HF := Lib.hid (Fr.refl no w)
  have Dtlt : decide (t < -1) = false := decide_eq_false tlt
  have Dtgt : decide (31 < t) = false := decide_eq_false tgt
  obtain ⟨W, hW⟩ : ∃ W, W = w.alloc (.cells #[.int .i64 4, .int .i64 s, .int .i64 t, .int .i64 l, .int .i64 q, .int .i64 0, .int .i64 0, .int .i64 0, .int .i64 sl, .int .i64 r, .int .i64 ep, .string d] 23 (0, 0)) := ⟨_, rfl⟩
  have hB : W.heap[w.heap.size]? = some (.cells #[.int .i64 4, .int .i64 s, .int .i64 t, .int .i64 l, .int .i64 q, .int .i64 0, .int .i64 0, .int .i64 0, .int .i64 sl, .int .i64 r, .int .i64 ep, .string d] 23 (0, 0)) := by rw [hW]; exact heap_alloc_new w _
  have HW := Lib.hid (show Fr no w W by rw [hW]; exact HF.out.alloc _)
  obtain ⟨c0, c1, c2, c3, c4, c5, c6, c7, c8, c9, c10, c11⟩ := twelve_cells hB
  clear hB
  have HWW := Lib.hid hW
  clear hW
  go_enter Try.func19, Try.ntmps19
  go_wp2_with fail
  rw [← HWW.out]
  go_quiet (fail)
  go_wp2_with (first | (go_at_call_of 43 s; refine (Hs.out _).mono ?_; rintro e2 w2 ⟨rfl, rfl⟩) | (go_at_call_of 43 l; refine (Hl.out _).mono ?_; rintro e2 w2 ⟨rfl, rfl⟩) | (go_at_call_of 43 q; refine (Hq.out _).mono ?_; rintro e2 w2 ⟨rfl, rfl⟩) | (go_at_call 43; refine (withinR_0 _ (by decide) _).mono ?_; rintro e2 w2 ⟨rfl, rfl⟩))
  go_ret
  exact ⟨rfl, ⟨HW.out.os, HW.out.tape, HW.out.output, HW.out.size, HW.out.block⟩⟩
set_option maxHeartbeats 2000000 in
theorem ck4_10 (s t l q r ep : Int) (d : ByteArray) (w : World) (Hs : Hid (∀ w : World, Calls Try.prog 43 #[.int .i64 s, .int .i64 31] w fun e w' => e = .returned (.bool true) ∧ w' = w)) (Hl : Hid (∀ w : World, Calls Try.prog 43 #[.int .i64 l, .int .i64 255] w fun e w' => e = .returned (.bool true) ∧ w' = w)) (Hq : Hid (∀ w : World, Calls Try.prog 43 #[.int .i64 q, .int .i64 255] w fun e w' => e = .returned (.bool true) ∧ w' = w)) (tlt : ¬ t < -1) (tgt : ¬ 31 < t) (ts : (t == s) = false) (rne : (r != 0) = true) :
    Calls Try.prog 19 #[.agg #[.int .i64 4, .int .i64 s, .int .i64 t, .int .i64 l, .int .i64 q, .int .i64 0, .int .i64 0, .int .i64 0, .int .i64 0, .int .i64 r, .int .i64 ep, .string d]] w fun x w' => x = .returned (.int .i64 1) ∧ Fr no w w' := by
  have HF := Lib.hid (Fr.refl no w)
  have Dtlt : decide (t < -1) = false := decide_eq_false tlt
  have Dtgt : decide (31 < t) = false := decide_eq_false tgt
  obtain ⟨W, hW⟩ : ∃ W, W = w.alloc (.cells #[.int .i64 4, .int .i64 s, .int .i64 t, .int .i64 l, .int .i64 q, .int .i64 0, .int .i64 0, .int .i64 0, .int .i64 0, .int .i64 r, .int .i64 ep, .string d] 23 (0, 0)) := ⟨_, rfl⟩
  have hB : W.heap[w.heap.size]? = some (.cells #[.int .i64 4, .int .i64 s, .int .i64 t, .int .i64 l, .int .i64 q, .int .i64 0, .int .i64 0, .int .i64 0, .int .i64 0, .int .i64 r, .int .i64 ep, .string d] 23 (0, 0)) := by rw [hW]; exact heap_alloc_new w _
  have HW := Lib.hid (show Fr no w W by rw [hW]; exact HF.out.alloc _)
  obtain ⟨c0, c1, c2, c3, c4, c5, c6, c7, c8, c9, c10, c11⟩ := twelve_cells hB
  clear hB
  have HWW := Lib.hid hW
  clear hW
  go_enter Try.func19, Try.ntmps19
  go_wp2_with fail
  rw [← HWW.out]
  go_quiet (fail)
  go_wp2_with (first | (go_at_call_of 43 s; refine (Hs.out _).mono ?_; rintro e2 w2 ⟨rfl, rfl⟩) | (go_at_call_of 43 l; refine (Hl.out _).mono ?_; rintro e2 w2 ⟨rfl, rfl⟩) | (go_at_call_of 43 q; refine (Hq.out _).mono ?_; rintro e2 w2 ⟨rfl, rfl⟩) | (go_at_call 43; refine (withinR_0 _ (by decide) _).mono ?_; rintro e2 w2 ⟨rfl, rfl⟩))
  go_ret
  exact ⟨rfl, ⟨HW.out.os, HW.out.tape, HW.out.output, HW.out.size, HW.out.block⟩⟩
set_option maxHeartbeats 2000000 in
theorem ck4_11 (s t l q ep : Int) (d : ByteArray) (w : World) (Hs : Hid (∀ w : World, Calls Try.prog 43 #[.int .i64 s, .int .i64 31] w fun e w' => e = .returned (.bool true) ∧ w' = w)) (Hl : Hid (∀ w : World, Calls Try.prog 43 #[.int .i64 l, .int .i64 255] w fun e w' => e = .returned (.bool true) ∧ w' = w)) (Hq : Hid (∀ w : World, Calls Try.prog 43 #[.int .i64 q, .int .i64 255] w fun e w' => e = .returned (.bool true) ∧ w' = w)) (tlt : ¬ t < -1) (tgt : ¬ 31 < t) (ts : (t == s) = false) (epne : (ep != 0) = true) :
    Calls Try.prog 19 #[.agg #[.int .i64 4, .int .i64 s, .int .i64 t, .int .i64 l, .int .i64 q, .int .i64 0, .int .i64 0, .int .i64 0, .int .i64 0, .int .i64 0, .int .i64 ep, .string d]] w fun x w' => x = .returned (.int .i64 1) ∧ Fr no w w' := by
  have HF := Lib.hid (Fr.refl no w)
  have Dtlt : decide (t < -1) = false := decide_eq_false tlt
  have Dtgt : decide (31 < t) = false := decide_eq_false tgt
  obtain ⟨W, hW⟩ : ∃ W, W = w.alloc (.cells #[.int .i64 4, .int .i64 s, .int .i64 t, .int .i64 l, .int .i64 q, .int .i64 0, .int .i64 0, .int .i64 0, .int .i64 0, .int .i64 0, .int .i64 ep, .string d] 23 (0, 0)) := ⟨_, rfl⟩
  have hB : W.heap[w.heap.size]? = some (.cells #[.int .i64 4, .int .i64 s, .int .i64 t, .int .i64 l, .int .i64 q, .int .i64 0, .int .i64 0, .int .i64 0, .int .i64 0, .int .i64 0, .int .i64 ep, .string d] 23 (0, 0)) := by rw [hW]; exact heap_alloc_new w _
  have HW := Lib.hid (show Fr no w W by rw [hW]; exact HF.out.alloc _)
  obtain ⟨c0, c1, c2, c3, c4, c5, c6, c7, c8, c9, c10, c11⟩ := twelve_cells hB
  clear hB
  have HWW := Lib.hid hW
  clear hW
  go_enter Try.func19, Try.ntmps19
  go_wp2_with fail
  rw [← HWW.out]
  go_quiet (fail)
  go_wp2_with (first | (go_at_call_of 43 s; refine (Hs.out _).mono ?_; rintro e2 w2 ⟨rfl, rfl⟩) | (go_at_call_of 43 l; refine (Hl.out _).mono ?_; rintro e2 w2 ⟨rfl, rfl⟩) | (go_at_call_of 43 q; refine (Hq.out _).mono ?_; rintro e2 w2 ⟨rfl, rfl⟩) | (go_at_call 43; refine (withinR_0 _ (by decide) _).mono ?_; rintro e2 w2 ⟨rfl, rfl⟩))
  go_ret
  exact ⟨rfl, ⟨HW.out.os, HW.out.tape, HW.out.output, HW.out.size, HW.out.block⟩⟩
set_option maxHeartbeats 2000000 in
theorem ck4_12 (s t l q : Int) (d : ByteArray) (w : World) (Hs : Hid (∀ w : World, Calls Try.prog 43 #[.int .i64 s, .int .i64 31] w fun e w' => e = .returned (.bool true) ∧ w' = w)) (Hl : Hid (∀ w : World, Calls Try.prog 43 #[.int .i64 l, .int .i64 255] w fun e w' => e = .returned (.bool true) ∧ w' = w)) (Hq : Hid (∀ w : World, Calls Try.prog 43 #[.int .i64 q, .int .i64 255] w fun e w' => e = .returned (.bool true) ∧ w' = w)) (tlt : ¬ t < -1) (tgt : ¬ 31 < t) (ts : (t == s) = false) :
    Calls Try.prog 19 #[.agg #[.int .i64 4, .int .i64 s, .int .i64 t, .int .i64 l, .int .i64 q, .int .i64 0, .int .i64 0, .int .i64 0, .int .i64 0, .int .i64 0, .int .i64 0, .string d]] w fun x w' => x = .returned (.int .i64 0) ∧ Fr no w w' := by
  have HF := Lib.hid (Fr.refl no w)
  have Dtlt : decide (t < -1) = false := decide_eq_false tlt
  have Dtgt : decide (31 < t) = false := decide_eq_false tgt
  obtain ⟨W, hW⟩ : ∃ W, W = w.alloc (.cells #[.int .i64 4, .int .i64 s, .int .i64 t, .int .i64 l, .int .i64 q, .int .i64 0, .int .i64 0, .int .i64 0, .int .i64 0, .int .i64 0, .int .i64 0, .string d] 23 (0, 0)) := ⟨_, rfl⟩
  have hB : W.heap[w.heap.size]? = some (.cells #[.int .i64 4, .int .i64 s, .int .i64 t, .int .i64 l, .int .i64 q, .int .i64 0, .int .i64 0, .int .i64 0, .int .i64 0, .int .i64 0, .int .i64 0, .string d] 23 (0, 0)) := by rw [hW]; exact heap_alloc_new w _
  have HW := Lib.hid (show Fr no w W by rw [hW]; exact HF.out.alloc _)
  obtain ⟨c0, c1, c2, c3, c4, c5, c6, c7, c8, c9, c10, c11⟩ := twelve_cells hB
  clear hB
  have HWW := Lib.hid hW
  clear hW
  go_enter Try.func19, Try.ntmps19
  go_wp2_with fail
  rw [← HWW.out]
  go_quiet (fail)
  go_wp2_with (first | (go_at_call_of 43 s; refine (Hs.out _).mono ?_; rintro e2 w2 ⟨rfl, rfl⟩) | (go_at_call_of 43 l; refine (Hl.out _).mono ?_; rintro e2 w2 ⟨rfl, rfl⟩) | (go_at_call_of 43 q; refine (Hq.out _).mono ?_; rintro e2 w2 ⟨rfl, rfl⟩) | (go_at_call 43; refine (withinR_0 _ (by decide) _).mono ?_; rintro e2 w2 ⟨rfl, rfl⟩))
  go_ret
  exact ⟨rfl, ⟨HW.out.os, HW.out.tape, HW.out.output, HW.out.size, HW.out.block⟩⟩
end Go.Proofs.Ytelpdihaonoedaa
