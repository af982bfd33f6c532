/- FrameEncodes: the law. -/
import Derived.Test.YtelpdihaonoedaaEns
import Derived.Test.YtelpdihaonoedaaAwk
namespace Go.Proofs.Ytelpdihaonoedaa
open Go.RowKit
set_option linter.unusedVariables false
set_option maxRecDepth 20000

theorem encs_big (x : Frm) (w : World) (hd : 300 < x.d.size) : Calls Try.prog 3 #[.agg (frA x)] w fun e w' => e = .returned (.bool true) ∧ Fr no w w' := by
  have HAW := Lib.hid awake_any
  obtain ⟨k, s, t, l, q, f, n, e, sl, r, ep, d⟩ := x
  simp only at hd
  have hd1 : (300 : Int) < (d.size : Int) := by omega
  clear hd
  simp only [frA]
  obtain ⟨w0, hW⟩ : ∃ w0, w0 = w.alloc (.cells #[.int .i64 k, .int .i64 s, .int .i64 t, .int .i64 l, .int .i64 q, .int .i64 f, .int .i64 n, .int .i64 e, .int .i64 sl, .int .i64 r, .int .i64 ep, .string d] 23 (0, 0)) := ⟨_, rfl⟩
  have hBc : w0.heap[w.heap.size]? = some (.cells #[.int .i64 k, .int .i64 s, .int .i64 t, .int .i64 l, .int .i64 q, .int .i64 f, .int .i64 n, .int .i64 e, .int .i64 sl, .int .i64 r, .int .i64 ep, .string d] 23 (0, 0)) := by rw [hW]; exact heap_alloc_new w _
  have Hc0 := Lib.hid hBc
  have HF0 := Lib.hid (show Fr no w w0 by rw [hW]; exact (Fr.refl no w).alloc _)
  have HW := Lib.hid hW
  obtain ⟨c0, c1, c2, c3, c4, c5, c6, c7, c8, c9, c10, c11⟩ := twelve_cells Hc0.out
  clear hW hBc
  go_enter Try.func3, Try.ntmps3
  go_wp2_with fail
  rw [← HW.out]
  go_wp2_with fail
  refine (HAW.out _).mono ?_
  rintro e1 w1 ⟨rfl, f1⟩
  have HF1 := Lib.hid (HF0.out.noTrans f1)
  have Hc1 := Lib.hid (f1.blk Hc0.out (fun h => h))
  clear f1
  clear c0 c1 c2 c3 c4 c5 c6 c7 c8 c9 c10 c11
  obtain ⟨c0, c1, c2, c3, c4, c5, c6, c7, c8, c9, c10, c11⟩ := twelve_cells Hc1.out
  go_wp2_with fail
  go_ret
  exact ⟨rfl, HF1.out⟩
set_option maxHeartbeats 4000000 in
theorem encs_ok (x : Frm) (w : World) (hd : ¬ 300 < x.d.size) : Calls Try.prog 3 #[.agg (frA x)] w fun e w' => e = .returned (.bool true) ∧ Fr no w w' := by
  have HAW := Lib.hid awake_any
  have H1 := Lib.hid (fun w => encode_any x w (by omega))
  have H2 := Lib.hid (fun w => encodeR_any x w)
  have H3 := Lib.hid (fun w => time_any x w (by omega) (enV_small x))
  have H4 := Lib.hid (fun w => timeR_any x w)
  have H5 := Lib.hid (fun w => room_any' x w (by omega) (enV_small x))
  have H6 := Lib.hid (fun w => roomR_any x w)
  have H7 := Lib.hid (fun w => check_frame x w)
  have H8 := Lib.hid (fun w => ckr_any x w)
  generalize (if okF x then (0 : Int) else 1) = C at *
  generalize enV x = V at *
  generalize enE x = E at *
  generalize tmV x = T at *
  generalize rmV x = R at *
  generalize rmE x = RE at *
  obtain ⟨k, s, t, l, q, f, n, e, sl, r, ep, d⟩ := x
  simp only at hd
  have hd1 : ¬ (300 : Int) < (d.size : Int) := by omega
  clear hd
  simp only [frA] at H1 H2 H3 H4 H5 H6 H7 H8 ⊢
  obtain ⟨w0, hW⟩ : ∃ w0, w0 = w.alloc (.cells #[.int .i64 k, .int .i64 s, .int .i64 t, .int .i64 l, .int .i64 q, .int .i64 f, .int .i64 n, .int .i64 e, .int .i64 sl, .int .i64 r, .int .i64 ep, .string d] 23 (0, 0)) := ⟨_, rfl⟩
  have hBc : w0.heap[w.heap.size]? = some (.cells #[.int .i64 k, .int .i64 s, .int .i64 t, .int .i64 l, .int .i64 q, .int .i64 f, .int .i64 n, .int .i64 e, .int .i64 sl, .int .i64 r, .int .i64 ep, .string d] 23 (0, 0)) := by rw [hW]; exact heap_alloc_new w _
  have Hc0 := Lib.hid hBc
  have HF0 := Lib.hid (show Fr no w w0 by rw [hW]; exact (Fr.refl no w).alloc _)
  have HW := Lib.hid hW
  obtain ⟨c0, c1, c2, c3, c4, c5, c6, c7, c8, c9, c10, c11⟩ := twelve_cells Hc0.out
  clear hW hBc
  go_enter Try.func3, Try.ntmps3
  go_wp2_with fail
  rw [← HW.out]
  go_wp2_with fail
  refine (HAW.out _).mono ?_
  rintro e1 w1 ⟨rfl, f1⟩
  have HF1 := Lib.hid (HF0.out.noTrans f1)
  have Hc1 := Lib.hid (f1.blk Hc0.out (fun h => h))
  clear f1
  clear c0 c1 c2 c3 c4 c5 c6 c7 c8 c9 c10 c11
  obtain ⟨c0, c1, c2, c3, c4, c5, c6, c7, c8, c9, c10, c11⟩ := twelve_cells Hc1.out
  go_wp2_with fail
  refine (H1.out _).mono ?_
  rintro e2 w2 ⟨rfl, f2⟩
  have HF2 := Lib.hid (HF1.out.noTrans f2)
  have Hc2 := Lib.hid (f2.blk Hc1.out (fun h => h))
  clear f2
  clear c0 c1 c2 c3 c4 c5 c6 c7 c8 c9 c10 c11
  obtain ⟨c0, c1, c2, c3, c4, c5, c6, c7, c8, c9, c10, c11⟩ := twelve_cells Hc2.out
  go_wp2_with fail
  refine (H2.out _).mono ?_
  rintro e3 w3 ⟨rfl, f3⟩
  have HF3 := Lib.hid (HF2.out.noTrans f3)
  have Hc3 := Lib.hid (f3.blk Hc2.out (fun h => h))
  clear f3
  clear c0 c1 c2 c3 c4 c5 c6 c7 c8 c9 c10 c11
  obtain ⟨c0, c1, c2, c3, c4, c5, c6, c7, c8, c9, c10, c11⟩ := twelve_cells Hc3.out
  go_wp2_with fail
  refine (H3.out _).mono ?_
  rintro e4 w4 ⟨rfl, f4⟩
  have HF4 := Lib.hid (HF3.out.noTrans f4)
  have Hc4 := Lib.hid (f4.blk Hc3.out (fun h => h))
  clear f4
  clear c0 c1 c2 c3 c4 c5 c6 c7 c8 c9 c10 c11
  obtain ⟨c0, c1, c2, c3, c4, c5, c6, c7, c8, c9, c10, c11⟩ := twelve_cells Hc4.out
  go_wp2_with fail
  refine (H4.out _).mono ?_
  rintro e5 w5 ⟨rfl, f5⟩
  have HF5 := Lib.hid (HF4.out.noTrans f5)
  have Hc5 := Lib.hid (f5.blk Hc4.out (fun h => h))
  clear f5
  clear c0 c1 c2 c3 c4 c5 c6 c7 c8 c9 c10 c11
  obtain ⟨c0, c1, c2, c3, c4, c5, c6, c7, c8, c9, c10, c11⟩ := twelve_cells Hc5.out
  go_wp2_with fail
  refine (H5.out _).mono ?_
  rintro e6 w6 ⟨rfl, f6⟩
  have HF6 := Lib.hid (HF5.out.noTrans f6)
  have Hc6 := Lib.hid (f6.blk Hc5.out (fun h => h))
  clear f6
  clear c0 c1 c2 c3 c4 c5 c6 c7 c8 c9 c10 c11
  obtain ⟨c0, c1, c2, c3, c4, c5, c6, c7, c8, c9, c10, c11⟩ := twelve_cells Hc6.out
  go_wp2_with fail
  refine (H6.out _).mono ?_
  rintro e7 w7 ⟨rfl, f7⟩
  have HF7 := Lib.hid (HF6.out.noTrans f7)
  have Hc7 := Lib.hid (f7.blk Hc6.out (fun h => h))
  clear f7
  clear c0 c1 c2 c3 c4 c5 c6 c7 c8 c9 c10 c11
  obtain ⟨c0, c1, c2, c3, c4, c5, c6, c7, c8, c9, c10, c11⟩ := twelve_cells Hc7.out
  go_wp2_with fail
  have p0 : ∀ p : Past w7, p.u.cell? ⟨w.heap.size, 0, none⟩ = some (.int .i64 k) := fun p => p.h.keepc c0
  have p1 : ∀ p : Past w7, p.u.cell? ⟨w.heap.size, 1, none⟩ = some (.int .i64 s) := fun p => p.h.keepc c1
  have p2 : ∀ p : Past w7, p.u.cell? ⟨w.heap.size, 2, none⟩ = some (.int .i64 t) := fun p => p.h.keepc c2
  have p3 : ∀ p : Past w7, p.u.cell? ⟨w.heap.size, 3, none⟩ = some (.int .i64 l) := fun p => p.h.keepc c3
  have p4 : ∀ p : Past w7, p.u.cell? ⟨w.heap.size, 4, none⟩ = some (.int .i64 q) := fun p => p.h.keepc c4
  have p5 : ∀ p : Past w7, p.u.cell? ⟨w.heap.size, 5, none⟩ = some (.int .i64 f) := fun p => p.h.keepc c5
  have p6 : ∀ p : Past w7, p.u.cell? ⟨w.heap.size, 6, none⟩ = some (.int .i64 n) := fun p => p.h.keepc c6
  have p7 : ∀ p : Past w7, p.u.cell? ⟨w.heap.size, 7, none⟩ = some (.int .i64 e) := fun p => p.h.keepc c7
  have p8 : ∀ p : Past w7, p.u.cell? ⟨w.heap.size, 8, none⟩ = some (.int .i64 sl) := fun p => p.h.keepc c8
  have p9 : ∀ p : Past w7, p.u.cell? ⟨w.heap.size, 9, none⟩ = some (.int .i64 r) := fun p => p.h.keepc c9
  have p10 : ∀ p : Past w7, p.u.cell? ⟨w.heap.size, 10, none⟩ = some (.int .i64 ep) := fun p => p.h.keepc c10
  have p11 : ∀ p : Past w7, p.u.cell? ⟨w.heap.size, 11, none⟩ = some (.string d) := fun p => p.h.keepc c11
  have vv : (V.toList == V.toList) = true := by simp
  refine wp_region_past (by kernel_rfl) (by kernel_rfl) ?_
  repeat (go_big_quiet_step (first | rfl | (go_at_call 18; refine past_of (H7.out _)) | (go_at_call 19; refine past_of (H8.out _))))
  refine wpQuiet_nil ?_
  intro w9 hp
  have HF9 := Lib.hid (HF7.out.noTrans (past_out hp))
  clear hp p0 p1 p2 p3 p4 p5 p6 p7 p8 p9 p10 p11
  go_wp2_with fail
  go_ret
  exact ⟨by simp, HF9.out⟩
theorem encs_law (x : Frm) (w : World) : Calls Try.prog 3 #[.agg (frA x)] w fun e w' => e = .returned (.bool true) ∧ Fr no w w' := by
  by_cases h : 300 < x.d.size
  · exact encs_big x w h
  · exact encs_ok x w h
end Go.Proofs.Ytelpdihaonoedaa
