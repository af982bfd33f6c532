/- Corrects. -/
import Derived.Test.YtmkmefcafpgphaaSyh
import Derived.BigQuiet
import Derived.BigGuardPart
namespace Go.Proofs.Ytmkmefcafpgphaa
set_option linter.unusedVariables false
open Go.RowKit

theorem box3 (w : World) (a b c : Int) : Fr no w (w.alloc (.cells #[.int .i64 a, .int .i64 b, .int .i64 c] 26 (0, 0))) ∧ (w.alloc (.cells #[.int .i64 a, .int .i64 b, .int .i64 c] 26 (0, 0))).cell? ⟨w.heap.size, 0, none⟩ = some (.int .i64 a) ∧ (w.alloc (.cells #[.int .i64 a, .int .i64 b, .int .i64 c] 26 (0, 0))).cell? ⟨w.heap.size, 1, none⟩ = some (.int .i64 b) ∧ (w.alloc (.cells #[.int .i64 a, .int .i64 b, .int .i64 c] 26 (0, 0))).cell? ⟨w.heap.size, 2, none⟩ = some (.int .i64 c) := by
  obtain ⟨h0, h1, h2, -⟩ := three_cells (heap_alloc_new w (.cells #[.int .i64 a, .int .i64 b, .int .i64 c] 26 (0, 0)))
  exact ⟨(Fr.refl no w).alloc _, h0, h1, h2⟩
set_option maxRecDepth 20000 in
set_option maxHeartbeats 8000000 in
theorem corrects_law (o d s c sl t df : Int) (w : World) (l1 : -9223372036854775808 ≤ sl) (l2 : sl ≤ 9223372036854775807) : Calls Try.prog 3 #[.agg #[.int .i64 o, .int .i64 d, .int .i64 s, .int .i64 c], .agg #[.int .i64 sl, .int .i64 t, .int .i64 df]] w fun e w' => e = .returned (.bool true) ∧ Fr no w w' := by
  obtain ⟨W1, hW1, hF, c0, c1, c2, c3⟩ := box_sync w o d s c
  have hs : W1.heap.size = w.heap.size + 1 := by rw [hW1]; simp
  obtain ⟨hF2, x0_0, x1_0, x2_0⟩ := box3 W1 sl t df
  obtain ⟨W, hW⟩ : ∃ W, W = W1.alloc (.cells #[.int .i64 sl, .int .i64 t, .int .i64 df] 26 (0, 0)) := ⟨_, rfl⟩
  rw [← hW] at hF2 x0_0 x1_0 x2_0
  have hF3 := hF.noTrans hF2
  have c0_0 := hF2.keepc c0
  have c1_0 := hF2.keepc c1
  have c2_0 := hF2.keepc c2
  have c3_0 := hF2.keepc c3
  rw [hs] at x0_0 x1_0 x2_0
  rw [hW1] at hW
  have HW := Lib.hid hW
  have HF0 := Lib.hid hF3
  clear hF3 hW hF hF2 hW1 hs c0 c1 c2 c3
  have K1 := Lib.hid (fun w => measure_any o d sl t w)
  have K2 := Lib.hid (fun w => measureR_any o d sl t w)
  have K3 := Lib.hid (fun w => hear_any o d s c sl t w)
  have K4 := Lib.hid (fun w => hearR_any o d s c sl t w)
  have K5 := Lib.hid (fun w => acked_any o d s c sl df w)
  have K6 := Lib.hid (fun w => ackedR_any o d s c sl df w)
  have K7 := Lib.hid (fun w => ckS_any o d s c w)
  have K8 := Lib.hid (fun w => ckSR_any o d s c w)
  have K9 := Lib.hid (fun w => sync_any o d s c sl df w l1 l2)
  have KA := Lib.hid (fun w => syncR_any o d s c sl df w l1 l2)
  clear l1 l2
  generalize z0 (heZ o d s c sl t) (coO o d s c sl (-meV o d sl t)) = h0 at *
  generalize z0 (heZ o d s c sl t) (coD o d s c sl (-meV o d sl t)) = h1 at *
  generalize z0 (heZ o d s c sl t) (coS o d s c sl (-meV o d sl t)) = h2 at *
  generalize z0 (heZ o d s c sl t) (coC o d s c sl (-meV o d sl t)) = h3 at *
  generalize z0 (acZ o d s c sl) (coO o d s c sl df) = k0 at *
  generalize z0 (acZ o d s c sl) (coD o d s c sl df) = k1 at *
  generalize z0 (acZ o d s c sl) (coS o d s c sl df) = k2 at *
  generalize z0 (acZ o d s c sl) (coC o d s c sl df) = k3 at *
  generalize meV o d sl t = a1 at *
  generalize meE o d sl t = a2 at *
  generalize ckS o d s c = a3 at *
  generalize syB o d s c sl df = a4 at *
  generalize heE o d s c sl t = e1 at *
  generalize acE o d s c sl df = e2 at *
  go_enter Try.func3, Try.ntmps3
  go_wp2_with fail
  rw [← HW.out]
  refine (awake_any _).mono ?_
  rintro e w1 ⟨rfl, f1⟩
  have HF1 := Lib.hid (HF0.out.noTrans f1)
  have c0_1 := f1.keepc c0_0
  have c1_1 := f1.keepc c1_0
  have c2_1 := f1.keepc c2_0
  have c3_1 := f1.keepc c3_0
  have x0_1 := f1.keepc x0_0
  have x1_1 := f1.keepc x1_0
  have x2_1 := f1.keepc x2_0
  have hlc1 := World.block_lt_of_cell? _ _ c0_1
  clear f1 HF0 c0_0 c1_0 c2_0 c3_0 x0_0 x1_0 x2_0
  go_wp2_with fail
  go_quiet (fail)
  rename_i nq
  obtain ⟨v1, hv1⟩ : ∃ v, v = w1.drewN nq := ⟨_, rfl⟩
  have HF1 := Lib.hid (show Fr no w v1 by rw [hv1]; exact HF1.out.drewN nq)
  have c0_1 : v1.cell? ⟨w.heap.size, 0, none⟩ = some (.int .i64 o) := by rw [hv1]; simpa using c0_1
  have c1_1 : v1.cell? ⟨w.heap.size, 1, none⟩ = some (.int .i64 d) := by rw [hv1]; simpa using c1_1
  have c2_1 : v1.cell? ⟨w.heap.size, 2, none⟩ = some (.int .i64 s) := by rw [hv1]; simpa using c2_1
  have c3_1 : v1.cell? ⟨w.heap.size, 3, none⟩ = some (.int .i64 c) := by rw [hv1]; simpa using c3_1
  have hlc1 := World.block_lt_of_cell? _ _ c0_1
  rw [← hv1]
  clear hv1 x0_1 x1_1 x2_1
  go_wp2_with fail
  refine (K1.out _).mono ?_
  rintro e w2 ⟨rfl, f2⟩
  have HF2 := Lib.hid (HF1.out.noTrans f2)
  have c0_2 := f2.keepc c0_1
  have c1_2 := f2.keepc c1_1
  have c2_2 := f2.keepc c2_1
  have c3_2 := f2.keepc c3_1
  have hlc2 := World.block_lt_of_cell? _ _ c0_2
  clear f2 HF1 c0_1 c1_1 c2_1 c3_1
  go_wp2_with fail
  refine (K2.out _).mono ?_
  rintro e w3 ⟨rfl, f3⟩
  have HF3 := Lib.hid (HF2.out.noTrans f3)
  have c0_3 := f3.keepc c0_2
  have c1_3 := f3.keepc c1_2
  have c2_3 := f3.keepc c2_2
  have c3_3 := f3.keepc c3_2
  have hlc3 := World.block_lt_of_cell? _ _ c0_3
  clear f3 HF2 c0_2 c1_2 c2_2 c3_2
  go_wp2_with fail
  refine (K3.out _).mono ?_
  rintro e w4 ⟨rfl, f4⟩
  have HF4 := Lib.hid (HF3.out.noTrans f4)
  have c0_4 := f4.keepc c0_3
  have c1_4 := f4.keepc c1_3
  have c2_4 := f4.keepc c2_3
  have c3_4 := f4.keepc c3_3
  have hlc4 := World.block_lt_of_cell? _ _ c0_4
  clear f4 HF3 c0_3 c1_3 c2_3 c3_3
  go_wp2_with fail
  obtain ⟨w5, hw5, f5, p0_5, p1_5, p2_5, p3_5⟩ := box_sync w4 h0 h1 h2 h3
  have HV5 := Lib.hid hw5
  rw [← HV5.out]
  have HF5 := Lib.hid (HF4.out.noTrans f5)
  have c0_5 := f5.keepc c0_4
  have c1_5 := f5.keepc c1_4
  have c2_5 := f5.keepc c2_4
  have c3_5 := f5.keepc c3_4
  clear f5 hw5 HF4 c0_4 c1_4 c2_4 c3_4
  refine (K4.out _).mono ?_
  rintro e w6 ⟨rfl, f6⟩
  have HF6 := Lib.hid (HF5.out.noTrans f6)
  have c0_6 := f6.keepc c0_5
  have c1_6 := f6.keepc c1_5
  have c2_6 := f6.keepc c2_5
  have c3_6 := f6.keepc c3_5
  have p0_6 := f6.keepc p0_5
  have p1_6 := f6.keepc p1_5
  have p2_6 := f6.keepc p2_5
  have p3_6 := f6.keepc p3_5
  have hlc6 := World.block_lt_of_cell? _ _ c0_6
  clear f6 HF5 c0_5 c1_5 c2_5 c3_5 p0_5 p1_5 p2_5 p3_5
  go_wp2_with fail
  obtain ⟨w7, hw7, f7, q0_7, q1_7, q2_7, q3_7⟩ := box_sync w6 h0 h1 h2 h3
  have HV7 := Lib.hid hw7
  rw [← HV7.out]
  have HF7 := Lib.hid (HF6.out.noTrans f7)
  have c0_7 := f7.keepc c0_6
  have c1_7 := f7.keepc c1_6
  have c2_7 := f7.keepc c2_6
  have c3_7 := f7.keepc c3_6
  have p0_7 := f7.keepc p0_6
  have p1_7 := f7.keepc p1_6
  have p2_7 := f7.keepc p2_6
  have p3_7 := f7.keepc p3_6
  clear f7 hw7 HF6 c0_6 c1_6 c2_6 c3_6 p0_6 p1_6 p2_6 p3_6
  refine (K5.out _).mono ?_
  rintro e w8 ⟨rfl, f8⟩
  have HF8 := Lib.hid (HF7.out.noTrans f8)
  have c0_8 := f8.keepc c0_7
  have c1_8 := f8.keepc c1_7
  have c2_8 := f8.keepc c2_7
  have c3_8 := f8.keepc c3_7
  have p0_8 := f8.keepc p0_7
  have p1_8 := f8.keepc p1_7
  have p2_8 := f8.keepc p2_7
  have p3_8 := f8.keepc p3_7
  have q0_8 := f8.keepc q0_7
  have q1_8 := f8.keepc q1_7
  have q2_8 := f8.keepc q2_7
  have q3_8 := f8.keepc q3_7
  have hlc8 := World.block_lt_of_cell? _ _ c0_8
  clear f8 HF7 c0_7 c1_7 c2_7 c3_7 p0_7 p1_7 p2_7 p3_7 q0_7 q1_7 q2_7 q3_7
  go_wp2_with fail
  obtain ⟨w9, hw9, f9, r0_9, r1_9, r2_9, r3_9⟩ := box_sync w8 k0 k1 k2 k3
  have HV9 := Lib.hid hw9
  rw [← HV9.out]
  have HF9 := Lib.hid (HF8.out.noTrans f9)
  have c0_9 := f9.keepc c0_8
  have c1_9 := f9.keepc c1_8
  have c2_9 := f9.keepc c2_8
  have c3_9 := f9.keepc c3_8
  have p0_9 := f9.keepc p0_8
  have p1_9 := f9.keepc p1_8
  have p2_9 := f9.keepc p2_8
  have p3_9 := f9.keepc p3_8
  have q0_9 := f9.keepc q0_8
  have q1_9 := f9.keepc q1_8
  have q2_9 := f9.keepc q2_8
  have q3_9 := f9.keepc q3_8
  clear f9 hw9 HF8 c0_8 c1_8 c2_8 c3_8 p0_8 p1_8 p2_8 p3_8 q0_8 q1_8 q2_8 q3_8
  refine (K6.out _).mono ?_
  rintro e w10 ⟨rfl, f10⟩
  have HF10 := Lib.hid (HF9.out.noTrans f10)
  have c0_10 := f10.keepc c0_9
  have c1_10 := f10.keepc c1_9
  have c2_10 := f10.keepc c2_9
  have c3_10 := f10.keepc c3_9
  have p0_10 := f10.keepc p0_9
  have p1_10 := f10.keepc p1_9
  have p2_10 := f10.keepc p2_9
  have p3_10 := f10.keepc p3_9
  have q0_10 := f10.keepc q0_9
  have q1_10 := f10.keepc q1_9
  have q2_10 := f10.keepc q2_9
  have q3_10 := f10.keepc q3_9
  have r0_10 := f10.keepc r0_9
  have r1_10 := f10.keepc r1_9
  have r2_10 := f10.keepc r2_9
  have r3_10 := f10.keepc r3_9
  have hlc10 := World.block_lt_of_cell? _ _ c0_10
  clear f10 HF9 c0_9 c1_9 c2_9 c3_9 p0_9 p1_9 p2_9 p3_9 q0_9 q1_9 q2_9 q3_9 r0_9 r1_9 r2_9 r3_9
  go_wp2_with fail
  obtain ⟨w11, hw11, f11, y0_11, y1_11, y2_11, y3_11⟩ := box_sync w10 k0 k1 k2 k3
  have HV11 := Lib.hid hw11
  rw [← HV11.out]
  have HF11 := Lib.hid (HF10.out.noTrans f11)
  have c0_11 := f11.keepc c0_10
  have c1_11 := f11.keepc c1_10
  have c2_11 := f11.keepc c2_10
  have c3_11 := f11.keepc c3_10
  have p0_11 := f11.keepc p0_10
  have p1_11 := f11.keepc p1_10
  have p2_11 := f11.keepc p2_10
  have p3_11 := f11.keepc p3_10
  have q0_11 := f11.keepc q0_10
  have q1_11 := f11.keepc q1_10
  have q2_11 := f11.keepc q2_10
  have q3_11 := f11.keepc q3_10
  have r0_11 := f11.keepc r0_10
  have r1_11 := f11.keepc r1_10
  have r2_11 := f11.keepc r2_10
  have r3_11 := f11.keepc r3_10
  clear f11 hw11 HF10 c0_10 c1_10 c2_10 c3_10 p0_10 p1_10 p2_10 p3_10 q0_10 q1_10 q2_10 q3_10 r0_10 r1_10 r2_10 r3_10
  have c0P := fun p : Past w11 => p.h.keepc c0_11
  have c1P := fun p : Past w11 => p.h.keepc c1_11
  have c2P := fun p : Past w11 => p.h.keepc c2_11
  have c3P := fun p : Past w11 => p.h.keepc c3_11
  have p0P := fun p : Past w11 => p.h.keepc p0_11
  have p1P := fun p : Past w11 => p.h.keepc p1_11
  have p2P := fun p : Past w11 => p.h.keepc p2_11
  have p3P := fun p : Past w11 => p.h.keepc p3_11
  have q0P := fun p : Past w11 => p.h.keepc q0_11
  have q1P := fun p : Past w11 => p.h.keepc q1_11
  have q2P := fun p : Past w11 => p.h.keepc q2_11
  have q3P := fun p : Past w11 => p.h.keepc q3_11
  have r0P := fun p : Past w11 => p.h.keepc r0_11
  have r1P := fun p : Past w11 => p.h.keepc r1_11
  have r2P := fun p : Past w11 => p.h.keepc r2_11
  have r3P := fun p : Past w11 => p.h.keepc r3_11
  have y0P := fun p : Past w11 => p.h.keepc y0_11
  have y1P := fun p : Past w11 => p.h.keepc y1_11
  have y2P := fun p : Past w11 => p.h.keepc y2_11
  have y3P := fun p : Past w11 => p.h.keepc y3_11
  clear c0_11 c1_11 c2_11 c3_11 p0_11 p1_11 p2_11 p3_11 q0_11 q1_11 q2_11 q3_11 r0_11 r1_11 r2_11 r3_11 y0_11 y1_11 y2_11 y3_11
  go_wp2_with fail
  refine wp_region_past (by kernel_rfl) (by kernel_rfl) ?_
  repeat (go_big_quiet_step (first | rfl | (go_at_call 17; refine past_of (K7.out _)) | (go_at_call 18; refine past_of (K8.out _)) | (go_at_call 19; refine past_of (K9.out _)) | (go_at_call 20; refine past_of (KA.out _))))
  refine wpQuiet_nil ?_
  intro u hp
  have hu := past_out hp
  clear hp
  have HU := Lib.hid (HF11.out.noTrans hu)
  clear hu c0P c1P c2P c3P p0P p1P p2P p3P q0P q1P q2P q3P r0P r1P r2P r3P y0P y1P y2P y3P
  go_wp2_with fail
  go_ret
  exact ⟨by first | rfl | (simp; done), HU.out⟩

end Go.Proofs.Ytmkmefcafpgphaa
