/- Rck, Rk1, Rk2 in one text. -/
import Derived.Test.YtelpdihaonoedaaVal
namespace Go.Proofs.Ytelpdihaonoedaa
open Go.RowKit
set_option linter.unusedVariables false
set_option maxRecDepth 20000

theorem withinR_any (n m : Int) (w : World) : Calls Try.prog 43 #[.int .i64 n, .int .i64 m] w fun e w' => e = .returned (.bool (inR n 0 m)) ∧ w' = w := by
  by_cases h1 : 0 ≤ n
  · have HR := Lib.hid (show inR n 0 m = decide (n ≤ m) by simp [inR, h1])
    go_enter Try.func43, Try.ntmps43
    go_wp2_with fail
    go_ret
    rw [HR.out]
    exact ⟨rfl, rfl⟩
  · have HR := Lib.hid (show inR n 0 m = false by simp [inR, h1])
    have h3 : n < 0 := by omega
    clear h1
    go_enter Try.func43, Try.ntmps43
    go_wp2_with fail
    go_ret
    rw [HR.out]
    exact ⟨rfl, rfl⟩
theorem withinR_0 (m : Int) (hm : 0 ≤ m) (w : World) : Calls Try.prog 43 #[.int .i64 0, .int .i64 m] w fun e w' => e = .returned (.bool true) ∧ w' = w := by
  have := withinR_any 0 m w
  rwa [show inR 0 0 m = true by simp [inR, hm]] at this
/-- The document's words, in their order. -/
def ckN (k s t l q f n e sl r ep : Int) (d : ByteArray) : Int :=
  if (!(k == 1 || k == 2 || k == 3 || k == 4) || !(inR s 0 31) || !(inR l 0 255) || !(inR q 0 255)) = true then 1
  else if ((k == 3 && t != -1) || (decide (t < -1) || decide (31 < t) || t == s) || ((k == 1 || k == 2) && t == -1)) = true then 1
  else if ((k != 1 && (f != 0 || n != 0)) || (k != 2 && e != 0) || (k != 3 && (sl != 0 || r != 0 || ep != 0)) || (k == 2 && d.toList != [])) = true then 1
  else if (!(inR f 0 255) || !(inR n 0 65535) || decide (e < -32768) || decide (32767 < e) || !(inR sl 0 109951162) || !(inR r 0 65535) || !(inR ep 0 65535)) = true then 1
  else 0
end Go.Proofs.Ytelpdihaonoedaa
namespace Go.Proofs.Ytelpdihaonoedaa
open Go.RowKit
set_option linter.unusedVariables false
set_option maxRecDepth 20000

set_option maxHeartbeats 2000000 in
theorem ck1_0 (s t l q f n e sl r ep : Int) (d : ByteArray) (w : World) (Hs : Hid (∀ w : World, Calls Try.prog 43 #[.int .i64 s, .int .i64 31] w fun e w' => e = .returned (.bool false) ∧ w' = w)) :
    Calls Try.prog 19 #[.agg #[.int .i64 1, .int .i64 s, .int .i64 t, .int .i64 l, .int .i64 q, .int .i64 f, .int .i64 n, .int .i64 e, .int .i64 sl, .int .i64 r, .int .i64 ep, .string d]] w fun x w' => x = .returned (.int .i64 1) ∧ Fr no w w' := by
  have HF := Lib.hid (Fr.refl no w)
  obtain ⟨W, hW⟩ : ∃ W, W = w.alloc (.cells #[.int .i64 1, .int .i64 s, .int .i64 t, .int .i64 l, .int .i64 q, .int .i64 f, .int .i64 n, .int .i64 e, .int .i64 sl, .int .i64 r, .int .i64 ep, .string d] 23 (0, 0)) := ⟨_, rfl⟩
  have hB : W.heap[w.heap.size]? = some (.cells #[.int .i64 1, .int .i64 s, .int .i64 t, .int .i64 l, .int .i64 q, .int .i64 f, .int .i64 n, .int .i64 e, .int .i64 sl, .int .i64 r, .int .i64 ep, .string d] 23 (0, 0)) := by rw [hW]; exact heap_alloc_new w _
  have HW := Lib.hid (show Fr no w W by rw [hW]; exact HF.out.alloc _)
  obtain ⟨c0, c1, c2, c3, c4, c5, c6, c7, c8, c9, c10, c11⟩ := twelve_cells hB
  clear hB
  have HWW := Lib.hid hW
  clear hW
  go_enter Try.func19, Try.ntmps19
  go_wp2_with fail
  rw [← HWW.out]
  go_quiet (fail)
  go_wp2_with (first | (go_at_call_of 43 s; refine (Hs.out _).mono ?_; rintro e2 w2 ⟨rfl, rfl⟩) | (go_at_call 43; refine (withinR_0 _ (by decide) _).mono ?_; rintro e2 w2 ⟨rfl, rfl⟩))
  go_ret
  exact ⟨rfl, ⟨HW.out.os, HW.out.tape, HW.out.output, HW.out.size, HW.out.block⟩⟩
set_option maxHeartbeats 2000000 in
theorem ck1_1 (s t l q f n e sl r ep : Int) (d : ByteArray) (w : World) (Hs : Hid (∀ w : World, Calls Try.prog 43 #[.int .i64 s, .int .i64 31] w fun e w' => e = .returned (.bool true) ∧ w' = w)) (Hl : Hid (∀ w : World, Calls Try.prog 43 #[.int .i64 l, .int .i64 255] w fun e w' => e = .returned (.bool false) ∧ w' = w)) :
    Calls Try.prog 19 #[.agg #[.int .i64 1, .int .i64 s, .int .i64 t, .int .i64 l, .int .i64 q, .int .i64 f, .int .i64 n, .int .i64 e, .int .i64 sl, .int .i64 r, .int .i64 ep, .string d]] w fun x w' => x = .returned (.int .i64 1) ∧ Fr no w w' := by
  have HF := Lib.hid (Fr.refl no w)
  obtain ⟨W, hW⟩ : ∃ W, W = w.alloc (.cells #[.int .i64 1, .int .i64 s, .int .i64 t, .int .i64 l, .int .i64 q, .int .i64 f, .int .i64 n, .int .i64 e, .int .i64 sl, .int .i64 r, .int .i64 ep, .string d] 23 (0, 0)) := ⟨_, rfl⟩
  have hB : W.heap[w.heap.size]? = some (.cells #[.int .i64 1, .int .i64 s, .int .i64 t, .int .i64 l, .int .i64 q, .int .i64 f, .int .i64 n, .int .i64 e, .int .i64 sl, .int .i64 r, .int .i64 ep, .string d] 23 (0, 0)) := by rw [hW]; exact heap_alloc_new w _
  have HW := Lib.hid (show Fr no w W by rw [hW]; exact HF.out.alloc _)
  obtain ⟨c0, c1, c2, c3, c4, c5, c6, c7, c8, c9, c10, c11⟩ := twelve_cells hB
  clear hB
  have HWW := Lib.hid hW
  clear hW
  go_enter Try.func19, Try.ntmps19
  go_wp2_with fail
  rw [← HWW.out]
  go_quiet (fail)
  go_wp2_with (first | (go_at_call_of 43 s; refine (Hs.out _).mono ?_; rintro e2 w2 ⟨rfl, rfl⟩) | (go_at_call_of 43 l; refine (Hl.out _).mono ?_; rintro e2 w2 ⟨rfl, rfl⟩) | (go_at_call 43; refine (withinR_0 _ (by decide) _).mono ?_; rintro e2 w2 ⟨rfl, rfl⟩))
  go_ret
  exact ⟨rfl, ⟨HW.out.os, HW.out.tape, HW.out.output, HW.out.size, HW.out.block⟩⟩
set_option maxHeartbeats 2000000 in
theorem ck1_2 (s t l q f n e sl r ep : Int) (d : ByteArray) (w : World) (Hs : Hid (∀ w : World, Calls Try.prog 43 #[.int .i64 s, .int .i64 31] w fun e w' => e = .returned (.bool true) ∧ w' = w)) (Hl : Hid (∀ w : World, Calls Try.prog 43 #[.int .i64 l, .int .i64 255] w fun e w' => e = .returned (.bool true) ∧ w' = w)) (Hq : Hid (∀ w : World, Calls Try.prog 43 #[.int .i64 q, .int .i64 255] w fun e w' => e = .returned (.bool false) ∧ w' = w)) :
    Calls Try.prog 19 #[.agg #[.int .i64 1, .int .i64 s, .int .i64 t, .int .i64 l, .int .i64 q, .int .i64 f, .int .i64 n, .int .i64 e, .int .i64 sl, .int .i64 r, .int .i64 ep, .string d]] w fun x w' => x = .returned (.int .i64 1) ∧ Fr no w w' := by
  have HF := Lib.hid (Fr.refl no w)
  obtain ⟨W, hW⟩ : ∃ W, W = w.alloc (.cells #[.int .i64 1, .int .i64 s, .int .i64 t, .int .i64 l, .int .i64 q, .int .i64 f, .int .i64 n, .int .i64 e, .int .i64 sl, .int .i64 r, .int .i64 ep, .string d] 23 (0, 0)) := ⟨_, rfl⟩
  have hB : W.heap[w.heap.size]? = some (.cells #[.int .i64 1, .int .i64 s, .int .i64 t, .int .i64 l, .int .i64 q, .int .i64 f, .int .i64 n, .int .i64 e, .int .i64 sl, .int .i64 r, .int .i64 ep, .string d] 23 (0, 0)) := by rw [hW]; exact heap_alloc_new w _
  have HW := Lib.hid (show Fr no w W by rw [hW]; exact HF.out.alloc _)
  obtain ⟨c0, c1, c2, c3, c4, c5, c6, c7, c8, c9, c10, c11⟩ := twelve_cells hB
  clear hB
  have HWW := Lib.hid hW
  clear hW
  go_enter Try.func19, Try.ntmps19
  go_wp2_with fail
  rw [← HWW.out]
  go_quiet (fail)
  go_wp2_with (first | (go_at_call_of 43 s; refine (Hs.out _).mono ?_; rintro e2 w2 ⟨rfl, rfl⟩) | (go_at_call_of 43 l; refine (Hl.out _).mono ?_; rintro e2 w2 ⟨rfl, rfl⟩) | (go_at_call_of 43 q; refine (Hq.out _).mono ?_; rintro e2 w2 ⟨rfl, rfl⟩) | (go_at_call 43; refine (withinR_0 _ (by decide) _).mono ?_; rintro e2 w2 ⟨rfl, rfl⟩))
  go_ret
  exact ⟨rfl, ⟨HW.out.os, HW.out.tape, HW.out.output, HW.out.size, HW.out.block⟩⟩
set_option maxHeartbeats 2000000 in
theorem ck1_3 (s t l q f n e sl r ep : Int) (d : ByteArray) (w : World) (Hs : Hid (∀ w : World, Calls Try.prog 43 #[.int .i64 s, .int .i64 31] w fun e w' => e = .returned (.bool true) ∧ w' = w)) (Hl : Hid (∀ w : World, Calls Try.prog 43 #[.int .i64 l, .int .i64 255] w fun e w' => e = .returned (.bool true) ∧ w' = w)) (Hq : Hid (∀ w : World, Calls Try.prog 43 #[.int .i64 q, .int .i64 255] w fun e w' => e = .returned (.bool true) ∧ w' = w)) (tlt : t < -1) :
    Calls Try.prog 19 #[.agg #[.int .i64 1, .int .i64 s, .int .i64 t, .int .i64 l, .int .i64 q, .int .i64 f, .int .i64 n, .int .i64 e, .int .i64 sl, .int .i64 r, .int .i64 ep, .string d]] w fun x w' => x = .returned (.int .i64 1) ∧ Fr no w w' := by
  have HF := Lib.hid (Fr.refl no w)
  obtain ⟨W, hW⟩ : ∃ W, W = w.alloc (.cells #[.int .i64 1, .int .i64 s, .int .i64 t, .int .i64 l, .int .i64 q, .int .i64 f, .int .i64 n, .int .i64 e, .int .i64 sl, .int .i64 r, .int .i64 ep, .string d] 23 (0, 0)) := ⟨_, rfl⟩
  have hB : W.heap[w.heap.size]? = some (.cells #[.int .i64 1, .int .i64 s, .int .i64 t, .int .i64 l, .int .i64 q, .int .i64 f, .int .i64 n, .int .i64 e, .int .i64 sl, .int .i64 r, .int .i64 ep, .string d] 23 (0, 0)) := by rw [hW]; exact heap_alloc_new w _
  have HW := Lib.hid (show Fr no w W by rw [hW]; exact HF.out.alloc _)
  obtain ⟨c0, c1, c2, c3, c4, c5, c6, c7, c8, c9, c10, c11⟩ := twelve_cells hB
  clear hB
  have HWW := Lib.hid hW
  clear hW
  go_enter Try.func19, Try.ntmps19
  go_wp2_with fail
  rw [← HWW.out]
  go_quiet (fail)
  go_wp2_with (first | (go_at_call_of 43 s; refine (Hs.out _).mono ?_; rintro e2 w2 ⟨rfl, rfl⟩) | (go_at_call_of 43 l; refine (Hl.out _).mono ?_; rintro e2 w2 ⟨rfl, rfl⟩) | (go_at_call_of 43 q; refine (Hq.out _).mono ?_; rintro e2 w2 ⟨rfl, rfl⟩) | (go_at_call 43; refine (withinR_0 _ (by decide) _).mono ?_; rintro e2 w2 ⟨rfl, rfl⟩))
  go_ret
  exact ⟨rfl, ⟨HW.out.os, HW.out.tape, HW.out.output, HW.out.size, HW.out.block⟩⟩
set_option maxHeartbeats 2000000 in
theorem ck1_4 (s t l q f n e sl r ep : Int) (d : ByteArray) (w : World) (Hs : Hid (∀ w : World, Calls Try.prog 43 #[.int .i64 s, .int .i64 31] w fun e w' => e = .returned (.bool true) ∧ w' = w)) (Hl : Hid (∀ w : World, Calls Try.prog 43 #[.int .i64 l, .int .i64 255] w fun e w' => e = .returned (.bool true) ∧ w' = w)) (Hq : Hid (∀ w : World, Calls Try.prog 43 #[.int .i64 q, .int .i64 255] w fun e w' => e = .returned (.bool true) ∧ w' = w)) (tlt : ¬ t < -1) (tgt : 31 < t) :
    Calls Try.prog 19 #[.agg #[.int .i64 1, .int .i64 s, .int .i64 t, .int .i64 l, .int .i64 q, .int .i64 f, .int .i64 n, .int .i64 e, .int .i64 sl, .int .i64 r, .int .i64 ep, .string d]] w fun x w' => x = .returned (.int .i64 1) ∧ Fr no w w' := by
  have HF := Lib.hid (Fr.refl no w)
  have Dtlt : decide (t < -1) = false := decide_eq_false tlt
  obtain ⟨W, hW⟩ : ∃ W, W = w.alloc (.cells #[.int .i64 1, .int .i64 s, .int .i64 t, .int .i64 l, .int .i64 q, .int .i64 f, .int .i64 n, .int .i64 e, .int .i64 sl, .int .i64 r, .int .i64 ep, .string d] 23 (0, 0)) := ⟨_, rfl⟩
  have hB : W.heap[w.heap.size]? = some (.cells #[.int .i64 1, .int .i64 s, .int .i64 t, .int .i64 l, .int .i64 q, .int .i64 f, .int .i64 n, .int .i64 e, .int .i64 sl, .int .i64 r, .int .i64 ep, .string d] 23 (0, 0)) := by rw [hW]; exact heap_alloc_new w _
  have HW := Lib.hid (show Fr no w W by rw [hW]; exact HF.out.alloc _)
  obtain ⟨c0, c1, c2, c3, c4, c5, c6, c7, c8, c9, c10, c11⟩ := twelve_cells hB
  clear hB
  have HWW := Lib.hid hW
  clear hW
  go_enter Try.func19, Try.ntmps19
  go_wp2_with fail
  rw [← HWW.out]
  go_quiet (fail)
  go_wp2_with (first | (go_at_call_of 43 s; refine (Hs.out _).mono ?_; rintro e2 w2 ⟨rfl, rfl⟩) | (go_at_call_of 43 l; refine (Hl.out _).mono ?_; rintro e2 w2 ⟨rfl, rfl⟩) | (go_at_call_of 43 q; refine (Hq.out _).mono ?_; rintro e2 w2 ⟨rfl, rfl⟩) | (go_at_call 43; refine (withinR_0 _ (by decide) _).mono ?_; rintro e2 w2 ⟨rfl, rfl⟩))
  go_ret
  exact ⟨rfl, ⟨HW.out.os, HW.out.tape, HW.out.output, HW.out.size, HW.out.block⟩⟩
set_option maxHeartbeats 2000000 in
theorem ck1_5 (s t l q f n e sl r ep : Int) (d : ByteArray) (w : World) (Hs : Hid (∀ w : World, Calls Try.prog 43 #[.int .i64 s, .int .i64 31] w fun e w' => e = .returned (.bool true) ∧ w' = w)) (Hl : Hid (∀ w : World, Calls Try.prog 43 #[.int .i64 l, .int .i64 255] w fun e w' => e = .returned (.bool true) ∧ w' = w)) (Hq : Hid (∀ w : World, Calls Try.prog 43 #[.int .i64 q, .int .i64 255] w fun e w' => e = .returned (.bool true) ∧ w' = w)) (tlt : ¬ t < -1) (tgt : ¬ 31 < t) (ts : (t == s) = true) :
    Calls Try.prog 19 #[.agg #[.int .i64 1, .int .i64 s, .int .i64 t, .int .i64 l, .int .i64 q, .int .i64 f, .int .i64 n, .int .i64 e, .int .i64 sl, .int .i64 r, .int .i64 ep, .string d]] w fun x w' => x = .returned (.int .i64 1) ∧ Fr no w w' := by
  have HF := Lib.hid (Fr.refl no w)
  have Dtlt : decide (t < -1) = false := decide_eq_false tlt
  have Dtgt : decide (31 < t) = false := decide_eq_false tgt
  obtain ⟨W, hW⟩ : ∃ W, W = w.alloc (.cells #[.int .i64 1, .int .i64 s, .int .i64 t, .int .i64 l, .int .i64 q, .int .i64 f, .int .i64 n, .int .i64 e, .int .i64 sl, .int .i64 r, .int .i64 ep, .string d] 23 (0, 0)) := ⟨_, rfl⟩
  have hB : W.heap[w.heap.size]? = some (.cells #[.int .i64 1, .int .i64 s, .int .i64 t, .int .i64 l, .int .i64 q, .int .i64 f, .int .i64 n, .int .i64 e, .int .i64 sl, .int .i64 r, .int .i64 ep, .string d] 23 (0, 0)) := by rw [hW]; exact heap_alloc_new w _
  have HW := Lib.hid (show Fr no w W by rw [hW]; exact HF.out.alloc _)
  obtain ⟨c0, c1, c2, c3, c4, c5, c6, c7, c8, c9, c10, c11⟩ := twelve_cells hB
  clear hB
  have HWW := Lib.hid hW
  clear hW
  go_enter Try.func19, Try.ntmps19
  go_wp2_with fail
  rw [← HWW.out]
  go_quiet (fail)
  go_wp2_with (first | (go_at_call_of 43 s; refine (Hs.out _).mono ?_; rintro e2 w2 ⟨rfl, rfl⟩) | (go_at_call_of 43 l; refine (Hl.out _).mono ?_; rintro e2 w2 ⟨rfl, rfl⟩) | (go_at_call_of 43 q; refine (Hq.out _).mono ?_; rintro e2 w2 ⟨rfl, rfl⟩) | (go_at_call 43; refine (withinR_0 _ (by decide) _).mono ?_; rintro e2 w2 ⟨rfl, rfl⟩))
  go_ret
  exact ⟨rfl, ⟨HW.out.os, HW.out.tape, HW.out.output, HW.out.size, HW.out.block⟩⟩
set_option maxHeartbeats 2000000 in
theorem ck1_6 (s t l q f n e sl r ep : Int) (d : ByteArray) (w : World) (Hs : Hid (∀ w : World, Calls Try.prog 43 #[.int .i64 s, .int .i64 31] w fun e w' => e = .returned (.bool true) ∧ w' = w)) (Hl : Hid (∀ w : World, Calls Try.prog 43 #[.int .i64 l, .int .i64 255] w fun e w' => e = .returned (.bool true) ∧ w' = w)) (Hq : Hid (∀ w : World, Calls Try.prog 43 #[.int .i64 q, .int .i64 255] w fun e w' => e = .returned (.bool true) ∧ w' = w)) (tlt : ¬ t < -1) (tgt : ¬ 31 < t) (ts : (t == s) = false) (tm : (t == -1) = true) :
    Calls Try.prog 19 #[.agg #[.int .i64 1, .int .i64 s, .int .i64 t, .int .i64 l, .int .i64 q, .int .i64 f, .int .i64 n, .int .i64 e, .int .i64 sl, .int .i64 r, .int .i64 ep, .string d]] w fun x w' => x = .returned (.int .i64 1) ∧ Fr no w w' := by
  have HF := Lib.hid (Fr.refl no w)
  have Dtlt : decide (t < -1) = false := decide_eq_false tlt
  have Dtgt : decide (31 < t) = false := decide_eq_false tgt
  obtain ⟨W, hW⟩ : ∃ W, W = w.alloc (.cells #[.int .i64 1, .int .i64 s, .int .i64 t, .int .i64 l, .int .i64 q, .int .i64 f, .int .i64 n, .int .i64 e, .int .i64 sl, .int .i64 r, .int .i64 ep, .string d] 23 (0, 0)) := ⟨_, rfl⟩
  have hB : W.heap[w.heap.size]? = some (.cells #[.int .i64 1, .int .i64 s, .int .i64 t, .int .i64 l, .int .i64 q, .int .i64 f, .int .i64 n, .int .i64 e, .int .i64 sl, .int .i64 r, .int .i64 ep, .string d] 23 (0, 0)) := by rw [hW]; exact heap_alloc_new w _
  have HW := Lib.hid (show Fr no w W by rw [hW]; exact HF.out.alloc _)
  obtain ⟨c0, c1, c2, c3, c4, c5, c6, c7, c8, c9, c10, c11⟩ := twelve_cells hB
  clear hB
  have HWW := Lib.hid hW
  clear hW
  go_enter Try.func19, Try.ntmps19
  go_wp2_with fail
  rw [← HWW.out]
  go_quiet (fail)
  go_wp2_with (first | (go_at_call_of 43 s; refine (Hs.out _).mono ?_; rintro e2 w2 ⟨rfl, rfl⟩) | (go_at_call_of 43 l; refine (Hl.out _).mono ?_; rintro e2 w2 ⟨rfl, rfl⟩) | (go_at_call_of 43 q; refine (Hq.out _).mono ?_; rintro e2 w2 ⟨rfl, rfl⟩) | (go_at_call 43; refine (withinR_0 _ (by decide) _).mono ?_; rintro e2 w2 ⟨rfl, rfl⟩))
  go_ret
  exact ⟨rfl, ⟨HW.out.os, HW.out.tape, HW.out.output, HW.out.size, HW.out.block⟩⟩
set_option maxHeartbeats 2000000 in
theorem ck1_7 (s t l q f n e sl r ep : Int) (d : ByteArray) (w : World) (Hs : Hid (∀ w : World, Calls Try.prog 43 #[.int .i64 s, .int .i64 31] w fun e w' => e = .returned (.bool true) ∧ w' = w)) (Hl : Hid (∀ w : World, Calls Try.prog 43 #[.int .i64 l, .int .i64 255] w fun e w' => e = .returned (.bool true) ∧ w' = w)) (Hq : Hid (∀ w : World, Calls Try.prog 43 #[.int .i64 q, .int .i64 255] w fun e w' => e = .returned (.bool true) ∧ w' = w)) (tlt : ¬ t < -1) (tgt : ¬ 31 < t) (ts : (t == s) = false) (tm : (t == -1) = false) (ene : (e != 0) = true) :
    Calls Try.prog 19 #[.agg #[.int .i64 1, .int .i64 s, .int .i64 t, .int .i64 l, .int .i64 q, .int .i64 f, .int .i64 n, .int .i64 e, .int .i64 sl, .int .i64 r, .int .i64 ep, .string d]] w fun x w' => x = .returned (.int .i64 1) ∧ Fr no w w' := by
  have HF := Lib.hid (Fr.refl no w)
  have Dtlt : decide (t < -1) = false := decide_eq_false tlt
  have Dtgt : decide (31 < t) = false := decide_eq_false tgt
  obtain ⟨W, hW⟩ : ∃ W, W = w.alloc (.cells #[.int .i64 1, .int .i64 s, .int .i64 t, .int .i64 l, .int .i64 q, .int .i64 f, .int .i64 n, .int .i64 e, .int .i64 sl, .int .i64 r, .int .i64 ep, .string d] 23 (0, 0)) := ⟨_, rfl⟩
  have hB : W.heap[w.heap.size]? = some (.cells #[.int .i64 1, .int .i64 s, .int .i64 t, .int .i64 l, .int .i64 q, .int .i64 f, .int .i64 n, .int .i64 e, .int .i64 sl, .int .i64 r, .int .i64 ep, .string d] 23 (0, 0)) := by rw [hW]; exact heap_alloc_new w _
  have HW := Lib.hid (show Fr no w W by rw [hW]; exact HF.out.alloc _)
  obtain ⟨c0, c1, c2, c3, c4, c5, c6, c7, c8, c9, c10, c11⟩ := twelve_cells hB
  clear hB
  have HWW := Lib.hid hW
  clear hW
  go_enter Try.func19, Try.ntmps19
  go_wp2_with fail
  rw [← HWW.out]
  go_quiet (fail)
  go_wp2_with (first | (go_at_call_of 43 s; refine (Hs.out _).mono ?_; rintro e2 w2 ⟨rfl, rfl⟩) | (go_at_call_of 43 l; refine (Hl.out _).mono ?_; rintro e2 w2 ⟨rfl, rfl⟩) | (go_at_call_of 43 q; refine (Hq.out _).mono ?_; rintro e2 w2 ⟨rfl, rfl⟩) | (go_at_call 43; refine (withinR_0 _ (by decide) _).mono ?_; rintro e2 w2 ⟨rfl, rfl⟩))
  go_ret
  exact ⟨rfl, ⟨HW.out.os, HW.out.tape, HW.out.output, HW.out.size, HW.out.block⟩⟩
set_option maxHeartbeats 2000000 in
theorem ck1_8 (s t l q f n sl r ep : Int) (d : ByteArray) (w : World) (Hs : Hid (∀ w : World, Calls Try.prog 43 #[.int .i64 s, .int .i64 31] w fun e w' => e = .returned (.bool true) ∧ w' = w)) (Hl : Hid (∀ w : World, Calls Try.prog 43 #[.int .i64 l, .int .i64 255] w fun e w' => e = .returned (.bool true) ∧ w' = w)) (Hq : Hid (∀ w : World, Calls Try.prog 43 #[.int .i64 q, .int .i64 255] w fun e w' => e = .returned (.bool true) ∧ w' = w)) (tlt : ¬ t < -1) (tgt : ¬ 31 < t) (ts : (t == s) = false) (tm : (t == -1) = false) (slne : (sl != 0) = true) :
    Calls Try.prog 19 #[.agg #[.int .i64 1, .int .i64 s, .int .i64 t, .int .i64 l, .int .i64 q, .int .i64 f, .int .i64 n, .int .i64 0, .int .i64 sl, .int .i64 r, .int .i64 ep, .string d]] w fun x w' => x = .returned (.int .i64 1) ∧ Fr no w w' := by
  have HF := Lib.hid (Fr.refl no w)
  have Dtlt : decide (t < -1) = false := decide_eq_false tlt
  have Dtgt : decide (31 < t) = false := decide_eq_false tgt
  obtain ⟨W, hW⟩ : ∃ W, W = w.alloc (.cells #[.int .i64 1, .int .i64 s, .int .i64 t, .int .i64 l, .int .i64 q, .int .i64 f, .int .i64 n, .int .i64 0, .int .i64 sl, .int .i64 r, .int .i64 ep, .string d] 23 (0, 0)) := ⟨_, rfl⟩
  have hB : W.heap[w.heap.size]? = some (.cells #[.int .i64 1, .int .i64 s, .int .i64 t, .int .i64 l, .int .i64 q, .int .i64 f, .int .i64 n, .int .i64 0, .int .i64 sl, .int .i64 r, .int .i64 ep, .string d] 23 (0, 0)) := by rw [hW]; exact heap_alloc_new w _
  have HW := Lib.hid (show Fr no w W by rw [hW]; exact HF.out.alloc _)
  obtain ⟨c0, c1, c2, c3, c4, c5, c6, c7, c8, c9, c10, c11⟩ := twelve_cells hB
  clear hB
  have HWW := Lib.hid hW
  clear hW
  go_enter Try.func19, Try.ntmps19
  go_wp2_with fail
  rw [← HWW.out]
  go_quiet (fail)
  go_wp2_with (first | (go_at_call_of 43 s; refine (Hs.out _).mono ?_; rintro e2 w2 ⟨rfl, rfl⟩) | (go_at_call_of 43 l; refine (Hl.out _).mono ?_; rintro e2 w2 ⟨rfl, rfl⟩) | (go_at_call_of 43 q; refine (Hq.out _).mono ?_; rintro e2 w2 ⟨rfl, rfl⟩) | (go_at_call 43; refine (withinR_0 _ (by decide) _).mono ?_; rintro e2 w2 ⟨rfl, rfl⟩))
  go_ret
  exact ⟨rfl, ⟨HW.out.os, HW.out.tape, HW.out.output, HW.out.size, HW.out.block⟩⟩
set_option maxHeartbeats 2000000 in
theorem ck1_9 (s t l q f n r ep : Int) (d : ByteArray) (w : World) (Hs : Hid (∀ w : World, Calls Try.prog 43 #[.int .i64 s, .int .i64 31] w fun e w' => e = .returned (.bool true) ∧ w' = w)) (Hl : Hid (∀ w : World, Calls Try.prog 43 #[.int .i64 l, .int .i64 255] w fun e w' => e = .returned (.bool true) ∧ w' = w)) (Hq : Hid (∀ w : World, Calls Try.prog 43 #[.int .i64 q, .int .i64 255] w fun e w' => e = .returned (.bool true) ∧ w' = w)) (tlt : ¬ t < -1) (tgt : ¬ 31 < t) (ts : (t == s) = false) (tm : (t == -1) = false) (rne : (r != 0) = true) :
    Calls Try.prog 19 #[.agg #[.int .i64 1, .int .i64 s, .int .i64 t, .int .i64 l, .int .i64 q, .int .i64 f, .int .i64 n, .int .i64 0, .int .i64 0, .int .i64 r, .int .i64 ep, .string d]] w fun x w' => x = .returned (.int .i64 1) ∧ Fr no w w' := by
  have HF := Lib.hid (Fr.refl no w)
  have Dtlt : decide (t < -1) = false := decide_eq_false tlt
  have Dtgt : decide (31 < t) = false := decide_eq_false tgt
  obtain ⟨W, hW⟩ : ∃ W, W = w.alloc (.cells #[.int .i64 1, .int .i64 s, .int .i64 t, .int .i64 l, .int .i64 q, .int .i64 f, .int .i64 n, .int .i64 0, .int .i64 0, .int .i64 r, .int .i64 ep, .string d] 23 (0, 0)) := ⟨_, rfl⟩
  have hB : W.heap[w.heap.size]? = some (.cells #[.int .i64 1, .int .i64 s, .int .i64 t, .int .i64 l, .int .i64 q, .int .i64 f, .int .i64 n, .int .i64 0, .int .i64 0, .int .i64 r, .int .i64 ep, .string d] 23 (0, 0)) := by rw [hW]; exact heap_alloc_new w _
  have HW := Lib.hid (show Fr no w W by rw [hW]; exact HF.out.alloc _)
  obtain ⟨c0, c1, c2, c3, c4, c5, c6, c7, c8, c9, c10, c11⟩ := twelve_cells hB
  clear hB
  have HWW := Lib.hid hW
  clear hW
  go_enter Try.func19, Try.ntmps19
  go_wp2_with fail
  rw [← HWW.out]
  go_quiet (fail)
  go_wp2_with (first | (go_at_call_of 43 s; refine (Hs.out _).mono ?_; rintro e2 w2 ⟨rfl, rfl⟩) | (go_at_call_of 43 l; refine (Hl.out _).mono ?_; rintro e2 w2 ⟨rfl, rfl⟩) | (go_at_call_of 43 q; refine (Hq.out _).mono ?_; rintro e2 w2 ⟨rfl, rfl⟩) | (go_at_call 43; refine (withinR_0 _ (by decide) _).mono ?_; rintro e2 w2 ⟨rfl, rfl⟩))
  go_ret
  exact ⟨rfl, ⟨HW.out.os, HW.out.tape, HW.out.output, HW.out.size, HW.out.block⟩⟩
set_option maxHeartbeats 2000000 in
theorem ck1_10 (s t l q f n ep : Int) (d : ByteArray) (w : World) (Hs : Hid (∀ w : World, Calls Try.prog 43 #[.int .i64 s, .int .i64 31] w fun e w' => e = .returned (.bool true) ∧ w' = w)) (Hl : Hid (∀ w : World, Calls Try.prog 43 #[.int .i64 l, .int .i64 255] w fun e w' => e = .returned (.bool true) ∧ w' = w)) (Hq : Hid (∀ w : World, Calls Try.prog 43 #[.int .i64 q, .int .i64 255] w fun e w' => e = .returned (.bool true) ∧ w' = w)) (tlt : ¬ t < -1) (tgt : ¬ 31 < t) (ts : (t == s) = false) (tm : (t == -1) = false) (epne : (ep != 0) = true) :
    Calls Try.prog 19 #[.agg #[.int .i64 1, .int .i64 s, .int .i64 t, .int .i64 l, .int .i64 q, .int .i64 f, .int .i64 n, .int .i64 0, .int .i64 0, .int .i64 0, .int .i64 ep, .string d]] w fun x w' => x = .returned (.int .i64 1) ∧ Fr no w w' := by
  have HF := Lib.hid (Fr.refl no w)
  have Dtlt : decide (t < -1) = false := decide_eq_false tlt
  have Dtgt : decide (31 < t) = false := decide_eq_false tgt
  obtain ⟨W, hW⟩ : ∃ W, W = w.alloc (.cells #[.int .i64 1, .int .i64 s, .int .i64 t, .int .i64 l, .int .i64 q, .int .i64 f, .int .i64 n, .int .i64 0, .int .i64 0, .int .i64 0, .int .i64 ep, .string d] 23 (0, 0)) := ⟨_, rfl⟩
  have hB : W.heap[w.heap.size]? = some (.cells #[.int .i64 1, .int .i64 s, .int .i64 t, .int .i64 l, .int .i64 q, .int .i64 f, .int .i64 n, .int .i64 0, .int .i64 0, .int .i64 0, .int .i64 ep, .string d] 23 (0, 0)) := by rw [hW]; exact heap_alloc_new w _
  have HW := Lib.hid (show Fr no w W by rw [hW]; exact HF.out.alloc _)
  obtain ⟨c0, c1, c2, c3, c4, c5, c6, c7, c8, c9, c10, c11⟩ := twelve_cells hB
  clear hB
  have HWW := Lib.hid hW
  clear hW
  go_enter Try.func19, Try.ntmps19
  go_wp2_with fail
  rw [← HWW.out]
  go_quiet (fail)
  go_wp2_with (first | (go_at_call_of 43 s; refine (Hs.out _).mono ?_; rintro e2 w2 ⟨rfl, rfl⟩) | (go_at_call_of 43 l; refine (Hl.out _).mono ?_; rintro e2 w2 ⟨rfl, rfl⟩) | (go_at_call_of 43 q; refine (Hq.out _).mono ?_; rintro e2 w2 ⟨rfl, rfl⟩) | (go_at_call 43; refine (withinR_0 _ (by decide) _).mono ?_; rintro e2 w2 ⟨rfl, rfl⟩))
  go_ret
  exact ⟨rfl, ⟨HW.out.os, HW.out.tape, HW.out.output, HW.out.size, HW.out.block⟩⟩
set_option maxHeartbeats 2000000 in
theorem ck1_11 (s t l q f n : Int) (d : ByteArray) (w : World) (Hs : Hid (∀ w : World, Calls Try.prog 43 #[.int .i64 s, .int .i64 31] w fun e w' => e = .returned (.bool true) ∧ w' = w)) (Hl : Hid (∀ w : World, Calls Try.prog 43 #[.int .i64 l, .int .i64 255] w fun e w' => e = .returned (.bool true) ∧ w' = w)) (Hq : Hid (∀ w : World, Calls Try.prog 43 #[.int .i64 q, .int .i64 255] w fun e w' => e = .returned (.bool true) ∧ w' = w)) (tlt : ¬ t < -1) (tgt : ¬ 31 < t) (ts : (t == s) = false) (tm : (t == -1) = false) (Hf : Hid (∀ w : World, Calls Try.prog 43 #[.int .i64 f, .int .i64 255] w fun e w' => e = .returned (.bool false) ∧ w' = w)) :
    Calls Try.prog 19 #[.agg #[.int .i64 1, .int .i64 s, .int .i64 t, .int .i64 l, .int .i64 q, .int .i64 f, .int .i64 n, .int .i64 0, .int .i64 0, .int .i64 0, .int .i64 0, .string d]] w fun x w' => x = .returned (.int .i64 1) ∧ Fr no w w' := by
  have HF := Lib.hid (Fr.refl no w)
  have Dtlt : decide (t < -1) = false := decide_eq_false tlt
  have Dtgt : decide (31 < t) = false := decide_eq_false tgt
  obtain ⟨W, hW⟩ : ∃ W, W = w.alloc (.cells #[.int .i64 1, .int .i64 s, .int .i64 t, .int .i64 l, .int .i64 q, .int .i64 f, .int .i64 n, .int .i64 0, .int .i64 0, .int .i64 0, .int .i64 0, .string d] 23 (0, 0)) := ⟨_, rfl⟩
  have hB : W.heap[w.heap.size]? = some (.cells #[.int .i64 1, .int .i64 s, .int .i64 t, .int .i64 l, .int .i64 q, .int .i64 f, .int .i64 n, .int .i64 0, .int .i64 0, .int .i64 0, .int .i64 0, .string d] 23 (0, 0)) := by rw [hW]; exact heap_alloc_new w _
  have HW := Lib.hid (show Fr no w W by rw [hW]; exact HF.out.alloc _)
  obtain ⟨c0, c1, c2, c3, c4, c5, c6, c7, c8, c9, c10, c11⟩ := twelve_cells hB
  clear hB
  have HWW := Lib.hid hW
  clear hW
  go_enter Try.func19, Try.ntmps19
  go_wp2_with fail
  rw [← HWW.out]
  go_quiet (fail)
  go_wp2_with (first | (go_at_call_of 43 s; refine (Hs.out _).mono ?_; rintro e2 w2 ⟨rfl, rfl⟩) | (go_at_call_of 43 l; refine (Hl.out _).mono ?_; rintro e2 w2 ⟨rfl, rfl⟩) | (go_at_call_of 43 q; refine (Hq.out _).mono ?_; rintro e2 w2 ⟨rfl, rfl⟩) | (go_at_call_of 43 f; refine (Hf.out _).mono ?_; rintro e2 w2 ⟨rfl, rfl⟩) | (go_at_call 43; refine (withinR_0 _ (by decide) _).mono ?_; rintro e2 w2 ⟨rfl, rfl⟩))
  go_ret
  exact ⟨rfl, ⟨HW.out.os, HW.out.tape, HW.out.output, HW.out.size, HW.out.block⟩⟩
set_option maxHeartbeats 2000000 in
theorem ck1_12 (s t l q f n : Int) (d : ByteArray) (w : World) (Hs : Hid (∀ w : World, Calls Try.prog 43 #[.int .i64 s, .int .i64 31] w fun e w' => e = .returned (.bool true) ∧ w' = w)) (Hl : Hid (∀ w : World, Calls Try.prog 43 #[.int .i64 l, .int .i64 255] w fun e w' => e = .returned (.bool true) ∧ w' = w)) (Hq : Hid (∀ w : World, Calls Try.prog 43 #[.int .i64 q, .int .i64 255] w fun e w' => e = .returned (.bool true) ∧ w' = w)) (tlt : ¬ t < -1) (tgt : ¬ 31 < t) (ts : (t == s) = false) (tm : (t == -1) = false) (Hf : Hid (∀ w : World, Calls Try.prog 43 #[.int .i64 f, .int .i64 255] w fun e w' => e = .returned (.bool true) ∧ w' = w)) (Hn : Hid (∀ w : World, Calls Try.prog 43 #[.int .i64 n, .int .i64 65535] w fun e w' => e = .returned (.bool false) ∧ w' = w)) :
    Calls Try.prog 19 #[.agg #[.int .i64 1, .int .i64 s, .int .i64 t, .int .i64 l, .int .i64 q, .int .i64 f, .int .i64 n, .int .i64 0, .int .i64 0, .int .i64 0, .int .i64 0, .string d]] w fun x w' => x = .returned (.int .i64 1) ∧ Fr no w w' := by
  have HF := Lib.hid (Fr.refl no w)
  have Dtlt : decide (t < -1) = false := decide_eq_false tlt
  have Dtgt : decide (31 < t) = false := decide_eq_false tgt
  obtain ⟨W, hW⟩ : ∃ W, W = w.alloc (.cells #[.int .i64 1, .int .i64 s, .int .i64 t, .int .i64 l, .int .i64 q, .int .i64 f, .int .i64 n, .int .i64 0, .int .i64 0, .int .i64 0, .int .i64 0, .string d] 23 (0, 0)) := ⟨_, rfl⟩
  have hB : W.heap[w.heap.size]? = some (.cells #[.int .i64 1, .int .i64 s, .int .i64 t, .int .i64 l, .int .i64 q, .int .i64 f, .int .i64 n, .int .i64 0, .int .i64 0, .int .i64 0, .int .i64 0, .string d] 23 (0, 0)) := by rw [hW]; exact heap_alloc_new w _
  have HW := Lib.hid (show Fr no w W by rw [hW]; exact HF.out.alloc _)
  obtain ⟨c0, c1, c2, c3, c4, c5, c6, c7, c8, c9, c10, c11⟩ := twelve_cells hB
  clear hB
  have HWW := Lib.hid hW
  clear hW
  go_enter Try.func19, Try.ntmps19
  go_wp2_with fail
  rw [← HWW.out]
  go_quiet (fail)
  go_wp2_with (first | (go_at_call_of 43 s; refine (Hs.out _).mono ?_; rintro e2 w2 ⟨rfl, rfl⟩) | (go_at_call_of 43 l; refine (Hl.out _).mono ?_; rintro e2 w2 ⟨rfl, rfl⟩) | (go_at_call_of 43 q; refine (Hq.out _).mono ?_; rintro e2 w2 ⟨rfl, rfl⟩) | (go_at_call_of 43 f; refine (Hf.out _).mono ?_; rintro e2 w2 ⟨rfl, rfl⟩) | (go_at_call_of 43 n; refine (Hn.out _).mono ?_; rintro e2 w2 ⟨rfl, rfl⟩) | (go_at_call 43; refine (withinR_0 _ (by decide) _).mono ?_; rintro e2 w2 ⟨rfl, rfl⟩))
  go_ret
  exact ⟨rfl, ⟨HW.out.os, HW.out.tape, HW.out.output, HW.out.size, HW.out.block⟩⟩
set_option maxHeartbeats 2000000 in
theorem ck1_13 (s t l q f n : Int) (d : ByteArray) (w : World) (Hs : Hid (∀ w : World, Calls Try.prog 43 #[.int .i64 s, .int .i64 31] w fun e w' => e = .returned (.bool true) ∧ w' = w)) (Hl : Hid (∀ w : World, Calls Try.prog 43 #[.int .i64 l, .int .i64 255] w fun e w' => e = .returned (.bool true) ∧ w' = w)) (Hq : Hid (∀ w : World, Calls Try.prog 43 #[.int .i64 q, .int .i64 255] w fun e w' => e = .returned (.bool true) ∧ w' = w)) (tlt : ¬ t < -1) (tgt : ¬ 31 < t) (ts : (t == s) = false) (tm : (t == -1) = false) (Hf : Hid (∀ w : World, Calls Try.prog 43 #[.int .i64 f, .int .i64 255] w fun e w' => e = .returned (.bool true) ∧ w' = w)) (Hn : Hid (∀ w : World, Calls Try.prog 43 #[.int .i64 n, .int .i64 65535] w fun e w' => e = .returned (.bool true) ∧ w' = w)) :
    Calls Try.prog 19 #[.agg #[.int .i64 1, .int .i64 s, .int .i64 t, .int .i64 l, .int .i64 q, .int .i64 f, .int .i64 n, .int .i64 0, .int .i64 0, .int .i64 0, .int .i64 0, .string d]] w fun x w' => x = .returned (.int .i64 0) ∧ Fr no w w' := by
  have HF := Lib.hid (Fr.refl no w)
  have Dtlt : decide (t < -1) = false := decide_eq_false tlt
  have Dtgt : decide (31 < t) = false := decide_eq_false tgt
  obtain ⟨W, hW⟩ : ∃ W, W = w.alloc (.cells #[.int .i64 1, .int .i64 s, .int .i64 t, .int .i64 l, .int .i64 q, .int .i64 f, .int .i64 n, .int .i64 0, .int .i64 0, .int .i64 0, .int .i64 0, .string d] 23 (0, 0)) := ⟨_, rfl⟩
  have hB : W.heap[w.heap.size]? = some (.cells #[.int .i64 1, .int .i64 s, .int .i64 t, .int .i64 l, .int .i64 q, .int .i64 f, .int .i64 n, .int .i64 0, .int .i64 0, .int .i64 0, .int .i64 0, .string d] 23 (0, 0)) := by rw [hW]; exact heap_alloc_new w _
  have HW := Lib.hid (show Fr no w W by rw [hW]; exact HF.out.alloc _)
  obtain ⟨c0, c1, c2, c3, c4, c5, c6, c7, c8, c9, c10, c11⟩ := twelve_cells hB
  clear hB
  have HWW := Lib.hid hW
  clear hW
  go_enter Try.func19, Try.ntmps19
  go_wp2_with fail
  rw [← HWW.out]
  go_quiet (fail)
  go_wp2_with (first | (go_at_call_of 43 s; refine (Hs.out _).mono ?_; rintro e2 w2 ⟨rfl, rfl⟩) | (go_at_call_of 43 l; refine (Hl.out _).mono ?_; rintro e2 w2 ⟨rfl, rfl⟩) | (go_at_call_of 43 q; refine (Hq.out _).mono ?_; rintro e2 w2 ⟨rfl, rfl⟩) | (go_at_call_of 43 f; refine (Hf.out _).mono ?_; rintro e2 w2 ⟨rfl, rfl⟩) | (go_at_call_of 43 n; refine (Hn.out _).mono ?_; rintro e2 w2 ⟨rfl, rfl⟩) | (go_at_call 43; refine (withinR_0 _ (by decide) _).mono ?_; rintro e2 w2 ⟨rfl, rfl⟩))
  go_ret
  exact ⟨rfl, ⟨HW.out.os, HW.out.tape, HW.out.output, HW.out.size, HW.out.block⟩⟩
end Go.Proofs.Ytelpdihaonoedaa
namespace Go.Proofs.Ytelpdihaonoedaa
open Go.RowKit
set_option linter.unusedVariables false
set_option maxRecDepth 20000

set_option maxHeartbeats 2000000 in
theorem ck2_0 (s t l q f n e sl r ep : Int) (d : ByteArray) (w : World) (Hs : Hid (∀ w : World, Calls Try.prog 43 #[.int .i64 s, .int .i64 31] w fun e w' => e = .returned (.bool false) ∧ w' = w)) :
    Calls Try.prog 19 #[.agg #[.int .i64 2, .int .i64 s, .int .i64 t, .int .i64 l, .int .i64 q, .int .i64 f, .int .i64 n, .int .i64 e, .int .i64 sl, .int .i64 r, .int .i64 ep, .string d]] w fun x w' => x = .returned (.int .i64 1) ∧ Fr no w w' := by
  have HF := Lib.hid (Fr.refl no w)
  obtain ⟨W, hW⟩ : ∃ W, W = w.alloc (.cells #[.int .i64 2, .int .i64 s, .int .i64 t, .int .i64 l, .int .i64 q, .int .i64 f, .int .i64 n, .int .i64 e, .int .i64 sl, .int .i64 r, .int .i64 ep, .string d] 23 (0, 0)) := ⟨_, rfl⟩
  have hB : W.heap[w.heap.size]? = some (.cells #[.int .i64 2, .int .i64 s, .int .i64 t, .int .i64 l, .int .i64 q, .int .i64 f, .int .i64 n, .int .i64 e, .int .i64 sl, .int .i64 r, .int .i64 ep, .string d] 23 (0, 0)) := by rw [hW]; exact heap_alloc_new w _
  have HW := Lib.hid (show Fr no w W by rw [hW]; exact HF.out.alloc _)
  obtain ⟨c0, c1, c2, c3, c4, c5, c6, c7, c8, c9, c10, c11⟩ := twelve_cells hB
  clear hB
  have HWW := Lib.hid hW
  clear hW
  go_enter Try.func19, Try.ntmps19
  go_wp2_with fail
  rw [← HWW.out]
  go_quiet (fail)
  go_wp2_with (first | (go_at_call_of 43 s; refine (Hs.out _).mono ?_; rintro e2 w2 ⟨rfl, rfl⟩) | (go_at_call 43; refine (withinR_0 _ (by decide) _).mono ?_; rintro e2 w2 ⟨rfl, rfl⟩))
  go_ret
  exact ⟨rfl, ⟨HW.out.os, HW.out.tape, HW.out.output, HW.out.size, HW.out.block⟩⟩
set_option maxHeartbeats 2000000 in
theorem ck2_1 (s t l q f n e sl r ep : Int) (d : ByteArray) (w : World) (Hs : Hid (∀ w : World, Calls Try.prog 43 #[.int .i64 s, .int .i64 31] w fun e w' => e = .returned (.bool true) ∧ w' = w)) (Hl : Hid (∀ w : World, Calls Try.prog 43 #[.int .i64 l, .int .i64 255] w fun e w' => e = .returned (.bool false) ∧ w' = w)) :
    Calls Try.prog 19 #[.agg #[.int .i64 2, .int .i64 s, .int .i64 t, .int .i64 l, .int .i64 q, .int .i64 f, .int .i64 n, .int .i64 e, .int .i64 sl, .int .i64 r, .int .i64 ep, .string d]] w fun x w' => x = .returned (.int .i64 1) ∧ Fr no w w' := by
  have HF := Lib.hid (Fr.refl no w)
  obtain ⟨W, hW⟩ : ∃ W, W = w.alloc (.cells #[.int .i64 2, .int .i64 s, .int .i64 t, .int .i64 l, .int .i64 q, .int .i64 f, .int .i64 n, .int .i64 e, .int .i64 sl, .int .i64 r, .int .i64 ep, .string d] 23 (0, 0)) := ⟨_, rfl⟩
  have hB : W.heap[w.heap.size]? = some (.cells #[.int .i64 2, .int .i64 s, .int .i64 t, .int .i64 l, .int .i64 q, .int .i64 f, .int .i64 n, .int .i64 e, .int .i64 sl, .int .i64 r, .int .i64 ep, .string d] 23 (0, 0)) := by rw [hW]; exact heap_alloc_new w _
  have HW := Lib.hid (show Fr no w W by rw [hW]; exact HF.out.alloc _)
  obtain ⟨c0, c1, c2, c3, c4, c5, c6, c7, c8, c9, c10, c11⟩ := twelve_cells hB
  clear hB
  have HWW := Lib.hid hW
  clear hW
  go_enter Try.func19, Try.ntmps19
  go_wp2_with fail
  rw [← HWW.out]
  go_quiet (fail)
  go_wp2_with (first | (go_at_call_of 43 s; refine (Hs.out _).mono ?_; rintro e2 w2 ⟨rfl, rfl⟩) | (go_at_call_of 43 l; refine (Hl.out _).mono ?_; rintro e2 w2 ⟨rfl, rfl⟩) | (go_at_call 43; refine (withinR_0 _ (by decide) _).mono ?_; rintro e2 w2 ⟨rfl, rfl⟩))
  go_ret
  exact ⟨rfl, ⟨HW.out.os, HW.out.tape, HW.out.output, HW.out.size, HW.out.block⟩⟩
set_option maxHeartbeats 2000000 in
theorem ck2_2 (s t l q f n e sl r ep : Int) (d : ByteArray) (w : World) (Hs : Hid (∀ w : World, Calls Try.prog 43 #[.int .i64 s, .int .i64 31] w fun e w' => e = .returned (.bool true) ∧ w' = w)) (Hl : Hid (∀ w : World, Calls Try.prog 43 #[.int .i64 l, .int .i64 255] w fun e w' => e = .returned (.bool true) ∧ w' = w)) (Hq : Hid (∀ w : World, Calls Try.prog 43 #[.int .i64 q, .int .i64 255] w fun e w' => e = .returned (.bool false) ∧ w' = w)) :
    Calls Try.prog 19 #[.agg #[.int .i64 2, .int .i64 s, .int .i64 t, .int .i64 l, .int .i64 q, .int .i64 f, .int .i64 n, .int .i64 e, .int .i64 sl, .int .i64 r, .int .i64 ep, .string d]] w fun x w' => x = .returned (.int .i64 1) ∧ Fr no w w' := by
  have HF := Lib.hid (Fr.refl no w)
  obtain ⟨W, hW⟩ : ∃ W, W = w.alloc (.cells #[.int .i64 2, .int .i64 s, .int .i64 t, .int .i64 l, .int .i64 q, .int .i64 f, .int .i64 n, .int .i64 e, .int .i64 sl, .int .i64 r, .int .i64 ep, .string d] 23 (0, 0)) := ⟨_, rfl⟩
  have hB : W.heap[w.heap.size]? = some (.cells #[.int .i64 2, .int .i64 s, .int .i64 t, .int .i64 l, .int .i64 q, .int .i64 f, .int .i64 n, .int .i64 e, .int .i64 sl, .int .i64 r, .int .i64 ep, .string d] 23 (0, 0)) := by rw [hW]; exact heap_alloc_new w _
  have HW := Lib.hid (show Fr no w W by rw [hW]; exact HF.out.alloc _)
  obtain ⟨c0, c1, c2, c3, c4, c5, c6, c7, c8, c9, c10, c11⟩ := twelve_cells hB
  clear hB
  have HWW := Lib.hid hW
  clear hW
  go_enter Try.func19, Try.ntmps19
  go_wp2_with fail
  rw [← HWW.out]
  go_quiet (fail)
  go_wp2_with (first | (go_at_call_of 43 s; refine (Hs.out _).mono ?_; rintro e2 w2 ⟨rfl, rfl⟩) | (go_at_call_of 43 l; refine (Hl.out _).mono ?_; rintro e2 w2 ⟨rfl, rfl⟩) | (go_at_call_of 43 q; refine (Hq.out _).mono ?_; rintro e2 w2 ⟨rfl, rfl⟩) | (go_at_call 43; refine (withinR_0 _ (by decide) _).mono ?_; rintro e2 w2 ⟨rfl, rfl⟩))
  go_ret
  exact ⟨rfl, ⟨HW.out.os, HW.out.tape, HW.out.output, HW.out.size, HW.out.block⟩⟩
set_option maxHeartbeats 2000000 in
theorem ck2_3 (s t l q f n e sl r ep : Int) (d : ByteArray) (w : World) (Hs : Hid (∀ w : World, Calls Try.prog 43 #[.int .i64 s, .int .i64 31] w fun e w' => e = .returned (.bool true) ∧ w' = w)) (Hl : Hid (∀ w : World, Calls Try.prog 43 #[.int .i64 l, .int .i64 255] w fun e w' => e = .returned (.bool true) ∧ w' = w)) (Hq : Hid (∀ w : World, Calls Try.prog 43 #[.int .i64 q, .int .i64 255] w fun e w' => e = .returned (.bool true) ∧ w' = w)) (tlt : t < -1) :
    Calls Try.prog 19 #[.agg #[.int .i64 2, .int .i64 s, .int .i64 t, .int .i64 l, .int .i64 q, .int .i64 f, .int .i64 n, .int .i64 e, .int .i64 sl, .int .i64 r, .int .i64 ep, .string d]] w fun x w' => x = .returned (.int .i64 1) ∧ Fr no w w' := by
  have HF := Lib.hid (Fr.refl no w)
  obtain ⟨W, hW⟩ : ∃ W, W = w.alloc (.cells #[.int .i64 2, .int .i64 s, .int .i64 t, .int .i64 l, .int .i64 q, .int .i64 f, .int .i64 n, .int .i64 e, .int .i64 sl, .int .i64 r, .int .i64 ep, .string d] 23 (0, 0)) := ⟨_, rfl⟩
  have hB : W.heap[w.heap.size]? = some (.cells #[.int .i64 2, .int .i64 s, .int .i64 t, .int .i64 l, .int .i64 q, .int .i64 f, .int .i64 n, .int .i64 e, .int .i64 sl, .int .i64 r, .int .i64 ep, .string d] 23 (0, 0)) := by rw [hW]; exact heap_alloc_new w _
  have HW := Lib.hid (show Fr no w W by rw [hW]; exact HF.out.alloc _)
  obtain ⟨c0, c1, c2, c3, c4, c5, c6, c7, c8, c9, c10, c11⟩ := twelve_cells hB
  clear hB
  have HWW := Lib.hid hW
  clear hW
  go_enter Try.func19, Try.ntmps19
  go_wp2_with fail
  rw [← HWW.out]
  go_quiet (fail)
  go_wp2_with (first | (go_at_call_of 43 s; refine (Hs.out _).mono ?_; rintro e2 w2 ⟨rfl, rfl⟩) | (go_at_call_of 43 l; refine (Hl.out _).mono ?_; rintro e2 w2 ⟨rfl, rfl⟩) | (go_at_call_of 43 q; refine (Hq.out _).mono ?_; rintro e2 w2 ⟨rfl, rfl⟩) | (go_at_call 43; refine (withinR_0 _ (by decide) _).mono ?_; rintro e2 w2 ⟨rfl, rfl⟩))
  go_ret
  exact ⟨rfl, ⟨HW.out.os, HW.out.tape, HW.out.output, HW.out.size, HW.out.block⟩⟩
set_option maxHeartbeats 2000000 in
theorem ck2_4 (s t l q f n e sl r ep : Int) (d : ByteArray) (w : World) (Hs : Hid (∀ w : World, Calls Try.prog 43 #[.int .i64 s, .int .i64 31] w fun e w' => e = .returned (.bool true) ∧ w' = w)) (Hl : Hid (∀ w : World, Calls Try.prog 43 #[.int .i64 l, .int .i64 255] w fun e w' => e = .returned (.bool true) ∧ w' = w)) (Hq : Hid (∀ w : World, Calls Try.prog 43 #[.int .i64 q, .int .i64 255] w fun e w' => e = .returned (.bool true) ∧ w' = w)) (tlt : ¬ t < -1) (tgt : 31 < t) :
    Calls Try.prog 19 #[.agg #[.int .i64 2, .int .i64 s, .int .i64 t, .int .i64 l, .int .i64 q, .int .i64 f, .int .i64 n, .int .i64 e, .int .i64 sl, .int .i64 r, .int .i64 ep, .string d]] w fun x w' => x = .returned (.int .i64 1) ∧ Fr no w w' := by
  have HF := Lib.hid (Fr.refl no w)
  have Dtlt : decide (t < -1) = false := decide_eq_false tlt
  obtain ⟨W, hW⟩ : ∃ W, W = w.alloc (.cells #[.int .i64 2, .int .i64 s, .int .i64 t, .int .i64 l, .int .i64 q, .int .i64 f, .int .i64 n, .int .i64 e, .int .i64 sl, .int .i64 r, .int .i64 ep, .string d] 23 (0, 0)) := ⟨_, rfl⟩
  have hB : W.heap[w.heap.size]? = some (.cells #[.int .i64 2, .int .i64 s, .int .i64 t, .int .i64 l, .int .i64 q, .int .i64 f, .int .i64 n, .int .i64 e, .int .i64 sl, .int .i64 r, .int .i64 ep, .string d] 23 (0, 0)) := by rw [hW]; exact heap_alloc_new w _
  have HW := Lib.hid (show Fr no w W by rw [hW]; exact HF.out.alloc _)
  obtain ⟨c0, c1, c2, c3, c4, c5, c6, c7, c8, c9, c10, c11⟩ := twelve_cells hB
  clear hB
  have HWW := Lib.hid hW
  clear hW
  go_enter Try.func19, Try.ntmps19
  go_wp2_with fail
  rw [← HWW.out]
  go_quiet (fail)
  go_wp2_with (first | (go_at_call_of 43 s; refine (Hs.out _).mono ?_; rintro e2 w2 ⟨rfl, rfl⟩) | (go_at_call_of 43 l; refine (Hl.out _).mono ?_; rintro e2 w2 ⟨rfl, rfl⟩) | (go_at_call_of 43 q; refine (Hq.out _).mono ?_; rintro e2 w2 ⟨rfl, rfl⟩) | (go_at_call 43; refine (withinR_0 _ (by decide) _).mono ?_; rintro e2 w2 ⟨rfl, rfl⟩))
  go_ret
  exact ⟨rfl, ⟨HW.out.os, HW.out.tape, HW.out.output, HW.out.size, HW.out.block⟩⟩
set_option maxHeartbeats 2000000 in
theorem ck2_5 (s t l q f n e sl r ep : Int) (d : ByteArray) (w : World) (Hs : Hid (∀ w : World, Calls Try.prog 43 #[.int .i64 s, .int .i64 31] w fun e w' => e = .returned (.bool true) ∧ w' = w)) (Hl : Hid (∀ w : World, Calls Try.prog 43 #[.int .i64 l, .int .i64 255] w fun e w' => e = .returned (.bool true) ∧ w' = w)) (Hq : Hid (∀ w : World, Calls Try.prog 43 #[.int .i64 q, .int .i64 255] w fun e w' => e = .returned (.bool true) ∧ w' = w)) (tlt : ¬ t < -1) (tgt : ¬ 31 < t) (ts : (t == s) = true) :
    Calls Try.prog 19 #[.agg #[.int .i64 2, .int .i64 s, .int .i64 t, .int .i64 l, .int .i64 q, .int .i64 f, .int .i64 n, .int .i64 e, .int .i64 sl, .int .i64 r, .int .i64 ep, .string d]] w fun x w' => x = .returned (.int .i64 1) ∧ Fr no w w' := by
  have HF := Lib.hid (Fr.refl no w)
  have Dtlt : decide (t < -1) = false := decide_eq_false tlt
  have Dtgt : decide (31 < t) = false := decide_eq_false tgt
  obtain ⟨W, hW⟩ : ∃ W, W = w.alloc (.cells #[.int .i64 2, .int .i64 s, .int .i64 t, .int .i64 l, .int .i64 q, .int .i64 f, .int .i64 n, .int .i64 e, .int .i64 sl, .int .i64 r, .int .i64 ep, .string d] 23 (0, 0)) := ⟨_, rfl⟩
  have hB : W.heap[w.heap.size]? = some (.cells #[.int .i64 2, .int .i64 s, .int .i64 t, .int .i64 l, .int .i64 q, .int .i64 f, .int .i64 n, .int .i64 e, .int .i64 sl, .int .i64 r, .int .i64 ep, .string d] 23 (0, 0)) := by rw [hW]; exact heap_alloc_new w _
  have HW := Lib.hid (show Fr no w W by rw [hW]; exact HF.out.alloc _)
  obtain ⟨c0, c1, c2, c3, c4, c5, c6, c7, c8, c9, c10, c11⟩ := twelve_cells hB
  clear hB
  have HWW := Lib.hid hW
  clear hW
  go_enter Try.func19, Try.ntmps19
  go_wp2_with fail
  rw [← HWW.out]
  go_quiet (fail)
  go_wp2_with (first | (go_at_call_of 43 s; refine (Hs.out _).mono ?_; rintro e2 w2 ⟨rfl, rfl⟩) | (go_at_call_of 43 l; refine (Hl.out _).mono ?_; rintro e2 w2 ⟨rfl, rfl⟩) | (go_at_call_of 43 q; refine (Hq.out _).mono ?_; rintro e2 w2 ⟨rfl, rfl⟩) | (go_at_call 43; refine (withinR_0 _ (by decide) _).mono ?_; rintro e2 w2 ⟨rfl, rfl⟩))
  go_ret
  exact ⟨rfl, ⟨HW.out.os, HW.out.tape, HW.out.output, HW.out.size, HW.out.block⟩⟩
set_option maxHeartbeats 2000000 in
theorem ck2_6 (s t l q f n e sl r ep : Int) (d : ByteArray) (w : World) (Hs : Hid (∀ w : World, Calls Try.prog 43 #[.int .i64 s, .int .i64 31] w fun e w' => e = .returned (.bool true) ∧ w' = w)) (Hl : Hid (∀ w : World, Calls Try.prog 43 #[.int .i64 l, .int .i64 255] w fun e w' => e = .returned (.bool true) ∧ w' = w)) (Hq : Hid (∀ w : World, Calls Try.prog 43 #[.int .i64 q, .int .i64 255] w fun e w' => e = .returned (.bool true) ∧ w' = w)) (tlt : ¬ t < -1) (tgt : ¬ 31 < t) (ts : (t == s) = false) (tm : (t == -1) = true) :
    Calls Try.prog 19 #[.agg #[.int .i64 2, .int .i64 s, .int .i64 t, .int .i64 l, .int .i64 q, .int .i64 f, .int .i64 n, .int .i64 e, .int .i64 sl, .int .i64 r, .int .i64 ep, .string d]] w fun x w' => x = .returned (.int .i64 1) ∧ Fr no w w' := by
  have HF := Lib.hid (Fr.refl no w)
  have Dtlt : decide (t < -1) = false := decide_eq_false tlt
  have Dtgt : decide (31 < t) = false := decide_eq_false tgt
  obtain ⟨W, hW⟩ : ∃ W, W = w.alloc (.cells #[.int .i64 2, .int .i64 s, .int .i64 t, .int .i64 l, .int .i64 q, .int .i64 f, .int .i64 n, .int .i64 e, .int .i64 sl, .int .i64 r, .int .i64 ep, .string d] 23 (0, 0)) := ⟨_, rfl⟩
  have hB : W.heap[w.heap.size]? = some (.cells #[.int .i64 2, .int .i64 s, .int .i64 t, .int .i64 l, .int .i64 q, .int .i64 f, .int .i64 n, .int .i64 e, .int .i64 sl, .int .i64 r, .int .i64 ep, .string d] 23 (0, 0)) := by rw [hW]; exact heap_alloc_new w _
  have HW := Lib.hid (show Fr no w W by rw [hW]; exact HF.out.alloc _)
  obtain ⟨c0, c1, c2, c3, c4, c5, c6, c7, c8, c9, c10, c11⟩ := twelve_cells hB
  clear hB
  have HWW := Lib.hid hW
  clear hW
  go_enter Try.func19, Try.ntmps19
  go_wp2_with fail
  rw [← HWW.out]
  go_quiet (fail)
  go_wp2_with (first | (go_at_call_of 43 s; refine (Hs.out _).mono ?_; rintro e2 w2 ⟨rfl, rfl⟩) | (go_at_call_of 43 l; refine (Hl.out _).mono ?_; rintro e2 w2 ⟨rfl, rfl⟩) | (go_at_call_of 43 q; refine (Hq.out _).mono ?_; rintro e2 w2 ⟨rfl, rfl⟩) | (go_at_call 43; refine (withinR_0 _ (by decide) _).mono ?_; rintro e2 w2 ⟨rfl, rfl⟩))
  go_ret
  exact ⟨rfl, ⟨HW.out.os, HW.out.tape, HW.out.output, HW.out.size, HW.out.block⟩⟩
set_option maxHeartbeats 2000000 in
theorem ck2_7 (s t l q f n e sl r ep : Int) (d : ByteArray) (w : World) (Hs : Hid (∀ w : World, Calls Try.prog 43 #[.int .i64 s, .int .i64 31] w fun e w' => e = .returned (.bool true) ∧ w' = w)) (Hl : Hid (∀ w : World, Calls Try.prog 43 #[.int .i64 l, .int .i64 255] w fun e w' => e = .returned (.bool true) ∧ w' = w)) (Hq : Hid (∀ w : World, Calls Try.prog 43 #[.int .i64 q, .int .i64 255] w fun e w' => e = .returned (.bool true) ∧ w' = w)) (tlt : ¬ t < -1) (tgt : ¬ 31 < t) (ts : (t == s) = false) (tm : (t == -1) = false) (fne : (f != 0) = true) :
    Calls Try.prog 19 #[.agg #[.int .i64 2, .int .i64 s, .int .i64 t, .int .i64 l, .int .i64 q, .int .i64 f, .int .i64 n, .int .i64 e, .int .i64 sl, .int .i64 r, .int .i64 ep, .string d]] w fun x w' => x = .returned (.int .i64 1) ∧ Fr no w w' := by
  have HF := Lib.hid (Fr.refl no w)
  have Dtlt : decide (t < -1) = false := decide_eq_false tlt
  have Dtgt : decide (31 < t) = false := decide_eq_false tgt
  obtain ⟨W, hW⟩ : ∃ W, W = w.alloc (.cells #[.int .i64 2, .int .i64 s, .int .i64 t, .int .i64 l, .int .i64 q, .int .i64 f, .int .i64 n, .int .i64 e, .int .i64 sl, .int .i64 r, .int .i64 ep, .string d] 23 (0, 0)) := ⟨_, rfl⟩
  have hB : W.heap[w.heap.size]? = some (.cells #[.int .i64 2, .int .i64 s, .int .i64 t, .int .i64 l, .int .i64 q, .int .i64 f, .int .i64 n, .int .i64 e, .int .i64 sl, .int .i64 r, .int .i64 ep, .string d] 23 (0, 0)) := by rw [hW]; exact heap_alloc_new w _
  have HW := Lib.hid (show Fr no w W by rw [hW]; exact HF.out.alloc _)
  obtain ⟨c0, c1, c2, c3, c4, c5, c6, c7, c8, c9, c10, c11⟩ := twelve_cells hB
  clear hB
  have HWW := Lib.hid hW
  clear hW
  go_enter Try.func19, Try.ntmps19
  go_wp2_with fail
  rw [← HWW.out]
  go_quiet (fail)
  go_wp2_with (first | (go_at_call_of 43 s; refine (Hs.out _).mono ?_; rintro e2 w2 ⟨rfl, rfl⟩) | (go_at_call_of 43 l; refine (Hl.out _).mono ?_; rintro e2 w2 ⟨rfl, rfl⟩) | (go_at_call_of 43 q; refine (Hq.out _).mono ?_; rintro e2 w2 ⟨rfl, rfl⟩) | (go_at_call 43; refine (withinR_0 _ (by decide) _).mono ?_; rintro e2 w2 ⟨rfl, rfl⟩))
  go_ret
  exact ⟨rfl, ⟨HW.out.os, HW.out.tape, HW.out.output, HW.out.size, HW.out.block⟩⟩
set_option maxHeartbeats 2000000 in
theorem ck2_8 (s t l q n e sl r ep : Int) (d : ByteArray) (w : World) (Hs : Hid (∀ w : World, Calls Try.prog 43 #[.int .i64 s, .int .i64 31] w fun e w' => e = .returned (.bool true) ∧ w' = w)) (Hl : Hid (∀ w : World, Calls Try.prog 43 #[.int .i64 l, .int .i64 255] w fun e w' => e = .returned (.bool true) ∧ w' = w)) (Hq : Hid (∀ w : World, Calls Try.prog 43 #[.int .i64 q, .int .i64 255] w fun e w' => e = .returned (.bool true) ∧ w' = w)) (tlt : ¬ t < -1) (tgt : ¬ 31 < t) (ts : (t == s) = false) (tm : (t == -1) = false) (nne : (n != 0) = true) :
    Calls Try.prog 19 #[.agg #[.int .i64 2, .int .i64 s, .int .i64 t, .int .i64 l, .int .i64 q, .int .i64 0, .int .i64 n, .int .i64 e, .int .i64 sl, .int .i64 r, .int .i64 ep, .string d]] w fun x w' => x = .returned (.int .i64 1) ∧ Fr no w w' := by
  have HF := Lib.hid (Fr.refl no w)
  have Dtlt : decide (t < -1) = false := decide_eq_false tlt
  have Dtgt : decide (31 < t) = false := decide_eq_false tgt
  obtain ⟨W, hW⟩ : ∃ W, W = w.alloc (.cells #[.int .i64 2, .int .i64 s, .int .i64 t, .int .i64 l, .int .i64 q, .int .i64 0, .int .i64 n, .int .i64 e, .int .i64 sl, .int .i64 r, .int .i64 ep, .string d] 23 (0, 0)) := ⟨_, rfl⟩
  have hB : W.heap[w.heap.size]? = some (.cells #[.int .i64 2, .int .i64 s, .int .i64 t, .int .i64 l, .int .i64 q, .int .i64 0, .int .i64 n, .int .i64 e, .int .i64 sl, .int .i64 r, .int .i64 ep, .string d] 23 (0, 0)) := by rw [hW]; exact heap_alloc_new w _
  have HW := Lib.hid (show Fr no w W by rw [hW]; exact HF.out.alloc _)
  obtain ⟨c0, c1, c2, c3, c4, c5, c6, c7, c8, c9, c10, c11⟩ := twelve_cells hB
  clear hB
  have HWW := Lib.hid hW
  clear hW
  go_enter Try.func19, Try.ntmps19
  go_wp2_with fail
  rw [← HWW.out]
  go_quiet (fail)
  go_wp2_with (first | (go_at_call_of 43 s; refine (Hs.out _).mono ?_; rintro e2 w2 ⟨rfl, rfl⟩) | (go_at_call_of 43 l; refine (Hl.out _).mono ?_; rintro e2 w2 ⟨rfl, rfl⟩) | (go_at_call_of 43 q; refine (Hq.out _).mono ?_; rintro e2 w2 ⟨rfl, rfl⟩) | (go_at_call 43; refine (withinR_0 _ (by decide) _).mono ?_; rintro e2 w2 ⟨rfl, rfl⟩))
  go_ret
  exact ⟨rfl, ⟨HW.out.os, HW.out.tape, HW.out.output, HW.out.size, HW.out.block⟩⟩
set_option maxHeartbeats 2000000 in
theorem ck2_9 (s t l q e sl r ep : Int) (d : ByteArray) (w : World) (Hs : Hid (∀ w : World, Calls Try.prog 43 #[.int .i64 s, .int .i64 31] w fun e w' => e = .returned (.bool true) ∧ w' = w)) (Hl : Hid (∀ w : World, Calls Try.prog 43 #[.int .i64 l, .int .i64 255] w fun e w' => e = .returned (.bool true) ∧ w' = w)) (Hq : Hid (∀ w : World, Calls Try.prog 43 #[.int .i64 q, .int .i64 255] w fun e w' => e = .returned (.bool true) ∧ w' = w)) (tlt : ¬ t < -1) (tgt : ¬ 31 < t) (ts : (t == s) = false) (tm : (t == -1) = false) (slne : (sl != 0) = true) :
    Calls Try.prog 19 #[.agg #[.int .i64 2, .int .i64 s, .int .i64 t, .int .i64 l, .int .i64 q, .int .i64 0, .int .i64 0, .int .i64 e, .int .i64 sl, .int .i64 r, .int .i64 ep, .string d]] w fun x w' => x = .returned (.int .i64 1) ∧ Fr no w w' := by
  have HF := Lib.hid (Fr.refl no w)
  have Dtlt : decide (t < -1) = false := decide_eq_false tlt
  have Dtgt : decide (31 < t) = false := decide_eq_false tgt
  obtain ⟨W, hW⟩ : ∃ W, W = w.alloc (.cells #[.int .i64 2, .int .i64 s, .int .i64 t, .int .i64 l, .int .i64 q, .int .i64 0, .int .i64 0, .int .i64 e, .int .i64 sl, .int .i64 r, .int .i64 ep, .string d] 23 (0, 0)) := ⟨_, rfl⟩
  have hB : W.heap[w.heap.size]? = some (.cells #[.int .i64 2, .int .i64 s, .int .i64 t, .int .i64 l, .int .i64 q, .int .i64 0, .int .i64 0, .int .i64 e, .int .i64 sl, .int .i64 r, .int .i64 ep, .string d] 23 (0, 0)) := by rw [hW]; exact heap_alloc_new w _
  have HW := Lib.hid (show Fr no w W by rw [hW]; exact HF.out.alloc _)
  obtain ⟨c0, c1, c2, c3, c4, c5, c6, c7, c8, c9, c10, c11⟩ := twelve_cells hB
  clear hB
  have HWW := Lib.hid hW
  clear hW
  go_enter Try.func19, Try.ntmps19
  go_wp2_with fail
  rw [← HWW.out]
  go_quiet (fail)
  go_wp2_with (first | (go_at_call_of 43 s; refine (Hs.out _).mono ?_; rintro e2 w2 ⟨rfl, rfl⟩) | (go_at_call_of 43 l; refine (Hl.out _).mono ?_; rintro e2 w2 ⟨rfl, rfl⟩) | (go_at_call_of 43 q; refine (Hq.out _).mono ?_; rintro e2 w2 ⟨rfl, rfl⟩) | (go_at_call 43; refine (withinR_0 _ (by decide) _).mono ?_; rintro e2 w2 ⟨rfl, rfl⟩))
  go_ret
  exact ⟨rfl, ⟨HW.out.os, HW.out.tape, HW.out.output, HW.out.size, HW.out.block⟩⟩
set_option maxHeartbeats 2000000 in
theorem ck2_10 (s t l q e r ep : Int) (d : ByteArray) (w : World) (Hs : Hid (∀ w : World, Calls Try.prog 43 #[.int .i64 s, .int .i64 31] w fun e w' => e = .returned (.bool true) ∧ w' = w)) (Hl : Hid (∀ w : World, Calls Try.prog 43 #[.int .i64 l, .int .i64 255] w fun e w' => e = .returned (.bool true) ∧ w' = w)) (Hq : Hid (∀ w : World, Calls Try.prog 43 #[.int .i64 q, .int .i64 255] w fun e w' => e = .returned (.bool true) ∧ w' = w)) (tlt : ¬ t < -1) (tgt : ¬ 31 < t) (ts : (t == s) = false) (tm : (t == -1) = false) (rne : (r != 0) = true) :
    Calls Try.prog 19 #[.agg #[.int .i64 2, .int .i64 s, .int .i64 t, .int .i64 l, .int .i64 q, .int .i64 0, .int .i64 0, .int .i64 e, .int .i64 0, .int .i64 r, .int .i64 ep, .string d]] w fun x w' => x = .returned (.int .i64 1) ∧ Fr no w w' := by
  have HF := Lib.hid (Fr.refl no w)
  have Dtlt : decide (t < -1) = false := decide_eq_false tlt
  have Dtgt : decide (31 < t) = false := decide_eq_false tgt
  obtain ⟨W, hW⟩ : ∃ W, W = w.alloc (.cells #[.int .i64 2, .int .i64 s, .int .i64 t, .int .i64 l, .int .i64 q, .int .i64 0, .int .i64 0, .int .i64 e, .int .i64 0, .int .i64 r, .int .i64 ep, .string d] 23 (0, 0)) := ⟨_, rfl⟩
  have hB : W.heap[w.heap.size]? = some (.cells #[.int .i64 2, .int .i64 s, .int .i64 t, .int .i64 l, .int .i64 q, .int .i64 0, .int .i64 0, .int .i64 e, .int .i64 0, .int .i64 r, .int .i64 ep, .string d] 23 (0, 0)) := by rw [hW]; exact heap_alloc_new w _
  have HW := Lib.hid (show Fr no w W by rw [hW]; exact HF.out.alloc _)
  obtain ⟨c0, c1, c2, c3, c4, c5, c6, c7, c8, c9, c10, c11⟩ := twelve_cells hB
  clear hB
  have HWW := Lib.hid hW
  clear hW
  go_enter Try.func19, Try.ntmps19
  go_wp2_with fail
  rw [← HWW.out]
  go_quiet (fail)
  go_wp2_with (first | (go_at_call_of 43 s; refine (Hs.out _).mono ?_; rintro e2 w2 ⟨rfl, rfl⟩) | (go_at_call_of 43 l; refine (Hl.out _).mono ?_; rintro e2 w2 ⟨rfl, rfl⟩) | (go_at_call_of 43 q; refine (Hq.out _).mono ?_; rintro e2 w2 ⟨rfl, rfl⟩) | (go_at_call 43; refine (withinR_0 _ (by decide) _).mono ?_; rintro e2 w2 ⟨rfl, rfl⟩))
  go_ret
  exact ⟨rfl, ⟨HW.out.os, HW.out.tape, HW.out.output, HW.out.size, HW.out.block⟩⟩
set_option maxHeartbeats 2000000 in
theorem ck2_11 (s t l q e ep : Int) (d : ByteArray) (w : World) (Hs : Hid (∀ w : World, Calls Try.prog 43 #[.int .i64 s, .int .i64 31] w fun e w' => e = .returned (.bool true) ∧ w' = w)) (Hl : Hid (∀ w : World, Calls Try.prog 43 #[.int .i64 l, .int .i64 255] w fun e w' => e = .returned (.bool true) ∧ w' = w)) (Hq : Hid (∀ w : World, Calls Try.prog 43 #[.int .i64 q, .int .i64 255] w fun e w' => e = .returned (.bool true) ∧ w' = w)) (tlt : ¬ t < -1) (tgt : ¬ 31 < t) (ts : (t == s) = false) (tm : (t == -1) = false) (epne : (ep != 0) = true) :
    Calls Try.prog 19 #[.agg #[.int .i64 2, .int .i64 s, .int .i64 t, .int .i64 l, .int .i64 q, .int .i64 0, .int .i64 0, .int .i64 e, .int .i64 0, .int .i64 0, .int .i64 ep, .string d]] w fun x w' => x = .returned (.int .i64 1) ∧ Fr no w w' := by
  have HF := Lib.hid (Fr.refl no w)
  have Dtlt : decide (t < -1) = false := decide_eq_false tlt
  have Dtgt : decide (31 < t) = false := decide_eq_false tgt
  obtain ⟨W, hW⟩ : ∃ W, W = w.alloc (.cells #[.int .i64 2, .int .i64 s, .int .i64 t, .int .i64 l, .int .i64 q, .int .i64 0, .int .i64 0, .int .i64 e, .int .i64 0, .int .i64 0, .int .i64 ep, .string d] 23 (0, 0)) := ⟨_, rfl⟩
  have hB : W.heap[w.heap.size]? = some (.cells #[.int .i64 2, .int .i64 s, .int .i64 t, .int .i64 l, .int .i64 q, .int .i64 0, .int .i64 0, .int .i64 e, .int .i64 0, .int .i64 0, .int .i64 ep, .string d] 23 (0, 0)) := by rw [hW]; exact heap_alloc_new w _
  have HW := Lib.hid (show Fr no w W by rw [hW]; exact HF.out.alloc _)
  obtain ⟨c0, c1, c2, c3, c4, c5, c6, c7, c8, c9, c10, c11⟩ := twelve_cells hB
  clear hB
  have HWW := Lib.hid hW
  clear hW
  go_enter Try.func19, Try.ntmps19
  go_wp2_with fail
  rw [← HWW.out]
  go_quiet (fail)
  go_wp2_with (first | (go_at_call_of 43 s; refine (Hs.out _).mono ?_; rintro e2 w2 ⟨rfl, rfl⟩) | (go_at_call_of 43 l; refine (Hl.out _).mono ?_; rintro e2 w2 ⟨rfl, rfl⟩) | (go_at_call_of 43 q; refine (Hq.out _).mono ?_; rintro e2 w2 ⟨rfl, rfl⟩) | (go_at_call 43; refine (withinR_0 _ (by decide) _).mono ?_; rintro e2 w2 ⟨rfl, rfl⟩))
  go_ret
  exact ⟨rfl, ⟨HW.out.os, HW.out.tape, HW.out.output, HW.out.size, HW.out.block⟩⟩
set_option maxHeartbeats 2000000 in
theorem ck2_12 (s t l q e : Int) (d : ByteArray) (w : World) (Hs : Hid (∀ w : World, Calls Try.prog 43 #[.int .i64 s, .int .i64 31] w fun e w' => e = .returned (.bool true) ∧ w' = w)) (Hl : Hid (∀ w : World, Calls Try.prog 43 #[.int .i64 l, .int .i64 255] w fun e w' => e = .returned (.bool true) ∧ w' = w)) (Hq : Hid (∀ w : World, Calls Try.prog 43 #[.int .i64 q, .int .i64 255] w fun e w' => e = .returned (.bool true) ∧ w' = w)) (tlt : ¬ t < -1) (tgt : ¬ 31 < t) (ts : (t == s) = false) (tm : (t == -1) = false) (dne : d.toList ≠ []) :
    Calls Try.prog 19 #[.agg #[.int .i64 2, .int .i64 s, .int .i64 t, .int .i64 l, .int .i64 q, .int .i64 0, .int .i64 0, .int .i64 e, .int .i64 0, .int .i64 0, .int .i64 0, .string d]] w fun x w' => x = .returned (.int .i64 1) ∧ Fr no w w' := by
  have HF := Lib.hid (Fr.refl no w)
  have Dtlt : decide (t < -1) = false := decide_eq_false tlt
  have Dtgt : decide (31 < t) = false := decide_eq_false tgt
  have dn1 : (d.toList == []) = false := by simpa using dne
  have dn2 : ¬ d = ⟨#[]⟩ := by rintro rfl; exact dne (by rw [ByteArray.toList_eq])
  obtain ⟨W, hW⟩ : ∃ W, W = w.alloc (.cells #[.int .i64 2, .int .i64 s, .int .i64 t, .int .i64 l, .int .i64 q, .int .i64 0, .int .i64 0, .int .i64 e, .int .i64 0, .int .i64 0, .int .i64 0, .string d] 23 (0, 0)) := ⟨_, rfl⟩
  have hB : W.heap[w.heap.size]? = some (.cells #[.int .i64 2, .int .i64 s, .int .i64 t, .int .i64 l, .int .i64 q, .int .i64 0, .int .i64 0, .int .i64 e, .int .i64 0, .int .i64 0, .int .i64 0, .string d] 23 (0, 0)) := by rw [hW]; exact heap_alloc_new w _
  have HW := Lib.hid (show Fr no w W by rw [hW]; exact HF.out.alloc _)
  obtain ⟨c0, c1, c2, c3, c4, c5, c6, c7, c8, c9, c10, c11⟩ := twelve_cells hB
  clear hB
  have HWW := Lib.hid hW
  clear hW
  go_enter Try.func19, Try.ntmps19
  go_wp2_with fail
  rw [← HWW.out]
  go_quiet (fail)
  go_wp2_with (first | (go_at_call_of 43 s; refine (Hs.out _).mono ?_; rintro e2 w2 ⟨rfl, rfl⟩) | (go_at_call_of 43 l; refine (Hl.out _).mono ?_; rintro e2 w2 ⟨rfl, rfl⟩) | (go_at_call_of 43 q; refine (Hq.out _).mono ?_; rintro e2 w2 ⟨rfl, rfl⟩) | (go_at_call 43; refine (withinR_0 _ (by decide) _).mono ?_; rintro e2 w2 ⟨rfl, rfl⟩))
  go_ret
  exact ⟨rfl, ⟨HW.out.os, HW.out.tape, HW.out.output, HW.out.size, HW.out.block⟩⟩
set_option maxHeartbeats 2000000 in
theorem ck2_13 (s t l q e : Int) (w : World) (Hs : Hid (∀ w : World, Calls Try.prog 43 #[.int .i64 s, .int .i64 31] w fun e w' => e = .returned (.bool true) ∧ w' = w)) (Hl : Hid (∀ w : World, Calls Try.prog 43 #[.int .i64 l, .int .i64 255] w fun e w' => e = .returned (.bool true) ∧ w' = w)) (Hq : Hid (∀ w : World, Calls Try.prog 43 #[.int .i64 q, .int .i64 255] w fun e w' => e = .returned (.bool true) ∧ w' = w)) (tlt : ¬ t < -1) (tgt : ¬ 31 < t) (ts : (t == s) = false) (tm : (t == -1) = false) (elt : e < -32768) :
    Calls Try.prog 19 #[.agg #[.int .i64 2, .int .i64 s, .int .i64 t, .int .i64 l, .int .i64 q, .int .i64 0, .int .i64 0, .int .i64 e, .int .i64 0, .int .i64 0, .int .i64 0, .string ⟨#[]⟩]] w fun x w' => x = .returned (.int .i64 1) ∧ Fr no w w' := by
  have HF := Lib.hid (Fr.refl no w)
  have Dtlt : decide (t < -1) = false := decide_eq_false tlt
  have Dtgt : decide (31 < t) = false := decide_eq_false tgt
  obtain ⟨W, hW⟩ : ∃ W, W = w.alloc (.cells #[.int .i64 2, .int .i64 s, .int .i64 t, .int .i64 l, .int .i64 q, .int .i64 0, .int .i64 0, .int .i64 e, .int .i64 0, .int .i64 0, .int .i64 0, .string ⟨#[]⟩] 23 (0, 0)) := ⟨_, rfl⟩
  have hB : W.heap[w.heap.size]? = some (.cells #[.int .i64 2, .int .i64 s, .int .i64 t, .int .i64 l, .int .i64 q, .int .i64 0, .int .i64 0, .int .i64 e, .int .i64 0, .int .i64 0, .int .i64 0, .string ⟨#[]⟩] 23 (0, 0)) := by rw [hW]; exact heap_alloc_new w _
  have HW := Lib.hid (show Fr no w W by rw [hW]; exact HF.out.alloc _)
  obtain ⟨c0, c1, c2, c3, c4, c5, c6, c7, c8, c9, c10, c11⟩ := twelve_cells hB
  clear hB
  have HWW := Lib.hid hW
  clear hW
  go_enter Try.func19, Try.ntmps19
  go_wp2_with fail
  rw [← HWW.out]
  go_quiet (fail)
  go_wp2_with (first | (go_at_call_of 43 s; refine (Hs.out _).mono ?_; rintro e2 w2 ⟨rfl, rfl⟩) | (go_at_call_of 43 l; refine (Hl.out _).mono ?_; rintro e2 w2 ⟨rfl, rfl⟩) | (go_at_call_of 43 q; refine (Hq.out _).mono ?_; rintro e2 w2 ⟨rfl, rfl⟩) | (go_at_call 43; refine (withinR_0 _ (by decide) _).mono ?_; rintro e2 w2 ⟨rfl, rfl⟩))
  go_ret
  exact ⟨rfl, ⟨HW.out.os, HW.out.tape, HW.out.output, HW.out.size, HW.out.block⟩⟩
set_option maxHeartbeats 2000000 in
theorem ck2_14 (s t l q e : Int) (w : World) (Hs : Hid (∀ w : World, Calls Try.prog 43 #[.int .i64 s, .int .i64 31] w fun e w' => e = .returned (.bool true) ∧ w' = w)) (Hl : Hid (∀ w : World, Calls Try.prog 43 #[.int .i64 l, .int .i64 255] w fun e w' => e = .returned (.bool true) ∧ w' = w)) (Hq : Hid (∀ w : World, Calls Try.prog 43 #[.int .i64 q, .int .i64 255] w fun e w' => e = .returned (.bool true) ∧ w' = w)) (tlt : ¬ t < -1) (tgt : ¬ 31 < t) (ts : (t == s) = false) (tm : (t == -1) = false) (elt : ¬ e < -32768) (egt : 32767 < e) :
    Calls Try.prog 19 #[.agg #[.int .i64 2, .int .i64 s, .int .i64 t, .int .i64 l, .int .i64 q, .int .i64 0, .int .i64 0, .int .i64 e, .int .i64 0, .int .i64 0, .int .i64 0, .string ⟨#[]⟩]] w fun x w' => x = .returned (.int .i64 1) ∧ Fr no w w' := by
  have HF := Lib.hid (Fr.refl no w)
  have Dtlt : decide (t < -1) = false := decide_eq_false tlt
  have Dtgt : decide (31 < t) = false := decide_eq_false tgt
  have Delt : decide (e < -32768) = false := decide_eq_false elt
  obtain ⟨W, hW⟩ : ∃ W, W = w.alloc (.cells #[.int .i64 2, .int .i64 s, .int .i64 t, .int .i64 l, .int .i64 q, .int .i64 0, .int .i64 0, .int .i64 e, .int .i64 0, .int .i64 0, .int .i64 0, .string ⟨#[]⟩] 23 (0, 0)) := ⟨_, rfl⟩
  have hB : W.heap[w.heap.size]? = some (.cells #[.int .i64 2, .int .i64 s, .int .i64 t, .int .i64 l, .int .i64 q, .int .i64 0, .int .i64 0, .int .i64 e, .int .i64 0, .int .i64 0, .int .i64 0, .string ⟨#[]⟩] 23 (0, 0)) := by rw [hW]; exact heap_alloc_new w _
  have HW := Lib.hid (show Fr no w W by rw [hW]; exact HF.out.alloc _)
  obtain ⟨c0, c1, c2, c3, c4, c5, c6, c7, c8, c9, c10, c11⟩ := twelve_cells hB
  clear hB
  have HWW := Lib.hid hW
  clear hW
  go_enter Try.func19, Try.ntmps19
  go_wp2_with fail
  rw [← HWW.out]
  go_quiet (fail)
  go_wp2_with (first | (go_at_call_of 43 s; refine (Hs.out _).mono ?_; rintro e2 w2 ⟨rfl, rfl⟩) | (go_at_call_of 43 l; refine (Hl.out _).mono ?_; rintro e2 w2 ⟨rfl, rfl⟩) | (go_at_call_of 43 q; refine (Hq.out _).mono ?_; rintro e2 w2 ⟨rfl, rfl⟩) | (go_at_call 43; refine (withinR_0 _ (by decide) _).mono ?_; rintro e2 w2 ⟨rfl, rfl⟩))
  go_ret
  exact ⟨rfl, ⟨HW.out.os, HW.out.tape, HW.out.output, HW.out.size, HW.out.block⟩⟩
set_option maxHeartbeats 2000000 in
theorem ck2_15 (s t l q e : Int) (w : World) (Hs : Hid (∀ w : World, Calls Try.prog 43 #[.int .i64 s, .int .i64 31] w fun e w' => e = .returned (.bool true) ∧ w' = w)) (Hl : Hid (∀ w : World, Calls Try.prog 43 #[.int .i64 l, .int .i64 255] w fun e w' => e = .returned (.bool true) ∧ w' = w)) (Hq : Hid (∀ w : World, Calls Try.prog 43 #[.int .i64 q, .int .i64 255] w fun e w' => e = .returned (.bool true) ∧ w' = w)) (tlt : ¬ t < -1) (tgt : ¬ 31 < t) (ts : (t == s) = false) (tm : (t == -1) = false) (elt : ¬ e < -32768) (egt : ¬ 32767 < e) :
    Calls Try.prog 19 #[.agg #[.int .i64 2, .int .i64 s, .int .i64 t, .int .i64 l, .int .i64 q, .int .i64 0, .int .i64 0, .int .i64 e, .int .i64 0, .int .i64 0, .int .i64 0, .string ⟨#[]⟩]] w fun x w' => x = .returned (.int .i64 0) ∧ Fr no w w' := by
  have HF := Lib.hid (Fr.refl no w)
  have Dtlt : decide (t < -1) = false := decide_eq_false tlt
  have Dtgt : decide (31 < t) = false := decide_eq_false tgt
  have Delt : decide (e < -32768) = false := decide_eq_false elt
  have Degt : decide (32767 < e) = false := decide_eq_false egt
  obtain ⟨W, hW⟩ : ∃ W, W = w.alloc (.cells #[.int .i64 2, .int .i64 s, .int .i64 t, .int .i64 l, .int .i64 q, .int .i64 0, .int .i64 0, .int .i64 e, .int .i64 0, .int .i64 0, .int .i64 0, .string ⟨#[]⟩] 23 (0, 0)) := ⟨_, rfl⟩
  have hB : W.heap[w.heap.size]? = some (.cells #[.int .i64 2, .int .i64 s, .int .i64 t, .int .i64 l, .int .i64 q, .int .i64 0, .int .i64 0, .int .i64 e, .int .i64 0, .int .i64 0, .int .i64 0, .string ⟨#[]⟩] 23 (0, 0)) := by rw [hW]; exact heap_alloc_new w _
  have HW := Lib.hid (show Fr no w W by rw [hW]; exact HF.out.alloc _)
  obtain ⟨c0, c1, c2, c3, c4, c5, c6, c7, c8, c9, c10, c11⟩ := twelve_cells hB
  clear hB
  have HWW := Lib.hid hW
  clear hW
  go_enter Try.func19, Try.ntmps19
  go_wp2_with fail
  rw [← HWW.out]
  go_quiet (fail)
  go_wp2_with (first | (go_at_call_of 43 s; refine (Hs.out _).mono ?_; rintro e2 w2 ⟨rfl, rfl⟩) | (go_at_call_of 43 l; refine (Hl.out _).mono ?_; rintro e2 w2 ⟨rfl, rfl⟩) | (go_at_call_of 43 q; refine (Hq.out _).mono ?_; rintro e2 w2 ⟨rfl, rfl⟩) | (go_at_call 43; refine (withinR_0 _ (by decide) _).mono ?_; rintro e2 w2 ⟨rfl, rfl⟩))
  go_ret
  exact ⟨rfl, ⟨HW.out.os, HW.out.tape, HW.out.output, HW.out.size, HW.out.block⟩⟩
end Go.Proofs.Ytelpdihaonoedaa
