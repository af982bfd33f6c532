/- ClockShows. -/
import Derived.Test.YthddkcbgmhijnaaAwk
namespace Go.Proofs.Ythddkcbgmhijnaa
set_option linter.unusedVariables false
open Go.RowKit
set_option maxHeartbeats 4000000 in
theorem shows_law (o d t x : Int) (w : World) (x1 : -9223372036854775808 ≤ x) (x2 : x ≤ 9223372036854775807) : Calls Try.prog 3 #[.agg #[.int .i64 o, .int .i64 d], .int .i64 t, .int .i64 x] w fun e w' => e = .returned (.bool true) ∧ Fr no w w' := by
  obtain ⟨hF, c0_0, c1_0⟩ := box_clock w o d
  obtain ⟨W, hW⟩ : ∃ W, W = w.alloc (.cells #[.int .i64 o, .int .i64 d] 23 (0, 0)) := ⟨_, rfl⟩
  rw [← hW] at hF c0_0 c1_0
  have HW := Lib.hid hW
  have HF0 := Lib.hid hF
  clear hW hF
  have K1 := Lib.hid (fun w => show_any o d t w)
  have K2 := Lib.hid (fun w => showR_any o d t w)
  have K3 := Lib.hid (fun w => reach_any o d x w)
  have K4 := Lib.hid (fun w => reachR_any o d x w x1 x2)
  have K5 := Lib.hid (fun w => slot_any o d t w)
  have K6 := Lib.hid (fun w => slotR_any o d t w)
  have K7 := Lib.hid (fun w => check_any o d w)
  have K8 := Lib.hid (fun w => checkR_any o d w)
  generalize shV o d t = v1 at *
  generalize shE o d t = e1 at *
  generalize reV o d x = v2 at *
  generalize reE o d x = e2 at *
  generalize slV o d t = v3 at *
  generalize slE o d t = e3 at *
  generalize erC o d = e4 at *
  go_enter Try.func3, Try.ntmps3
  go_wp2_with fail
  rw [← HW.out]
  refine (awake_any _).mono ?_
  rintro e w1 ⟨rfl, f1⟩
  have HF1 := Lib.hid (HF0.out.noTrans f1)
  have c0_1 := f1.keepc c0_0
  have c1_1 := f1.keepc c1_0
  clear f1 c0_0 c1_0
  go_wp2_with fail
  refine (K1.out _).mono ?_
  rintro e w2 ⟨rfl, f2⟩
  have HF2 := Lib.hid (HF1.out.noTrans f2)
  have c0_2 := f2.keepc c0_1
  have c1_2 := f2.keepc c1_1
  clear f2 c0_1 c1_1
  go_wp2_with fail
  refine (K2.out _).mono ?_
  rintro e w3 ⟨rfl, f3⟩
  have HF3 := Lib.hid (HF2.out.noTrans f3)
  have c0_3 := f3.keepc c0_2
  have c1_3 := f3.keepc c1_2
  clear f3 c0_2 c1_2
  go_wp2_with fail
  refine (K3.out _).mono ?_
  rintro e w4 ⟨rfl, f4⟩
  have HF4 := Lib.hid (HF3.out.noTrans f4)
  have c0_4 := f4.keepc c0_3
  have c1_4 := f4.keepc c1_3
  clear f4 c0_3 c1_3
  go_wp2_with fail
  refine (K4.out _).mono ?_
  rintro e w5 ⟨rfl, f5⟩
  have HF5 := Lib.hid (HF4.out.noTrans f5)
  have c0_5 := f5.keepc c0_4
  have c1_5 := f5.keepc c1_4
  clear f5 c0_4 c1_4
  go_wp2_with fail
  refine (K5.out _).mono ?_
  rintro e w6 ⟨rfl, f6⟩
  have HF6 := Lib.hid (HF5.out.noTrans f6)
  have c0_6 := f6.keepc c0_5
  have c1_6 := f6.keepc c1_5
  clear f6 c0_5 c1_5
  go_wp2_with fail
  refine (K6.out _).mono ?_
  rintro e w7 ⟨rfl, f7⟩
  have HF7 := Lib.hid (HF6.out.noTrans f7)
  have c0_7 := f7.keepc c0_6
  have c1_7 := f7.keepc c1_6
  clear f7 c0_6 c1_6
  go_wp2_with fail
  have d0 : ∀ p : Past w7, p.u.cell? ⟨w.heap.size, 0, none⟩ = some (.int .i64 o) := fun p => p.h.keepc c0_7
  have d1 : ∀ p : Past w7, p.u.cell? ⟨w.heap.size, 1, none⟩ = some (.int .i64 d) := fun p => p.h.keepc c1_7
  refine wp_region_past (by kernel_rfl) (by kernel_rfl) ?_
  repeat (go_big_quiet_step (first | rfl | (go_at_call 18; refine past_of (K7.out _)) | (go_at_call 19; refine past_of (K8.out _))))
  refine wpQuiet_nil ?_
  intro u hp
  have hu := past_out hp
  have HU := Lib.hid (HF7.out.noTrans hu)
  clear hp hu d0 d1
  go_wp2_with fail
  go_ret
  exact ⟨by simp, HU.out⟩
end Go.Proofs.Ythddkcbgmhijnaa
