/- FrameAcks: the law. -/
import Derived.Test.YtelpdihaonoedaaAnr
import Derived.Test.YtelpdihaonoedaaAwk
import Derived.Test.YtelpdihaonoedaaOpt
namespace Go.Proofs.Ytelpdihaonoedaa
open Go.RowKit
set_option linter.unusedVariables false
set_option maxRecDepth 20000

theorem acks_big (x y : Frm) (g0 g1 g2 : Int) (w : World) (hd : 300 < x.d.size ∨ 300 < y.d.size) : Calls Try.prog 5 #[.agg (frA x), .agg (frA y), .agg #[.int .i64 g0, .int .i64 g1, .int .i64 g2]] w fun e w' => e = .returned (.bool true) ∧ Fr no w w' := by
  have HAW := Lib.hid awake_any
  obtain ⟨k, s, t, l, q, f, n, e, sl, r, ep, d⟩ := x
  obtain ⟨k1, s1, t1, l1, q1, f1, n1, e1, sl1, r1, ep1, d1⟩ := y
  simp only at hd
  simp only [frA]
  by_cases hd1 : (300 : Int) < (d.size : Int)
  · obtain ⟨w0, hW⟩ : ∃ w0, w0 = ((w.alloc (.cells #[.int .i64 k, .int .i64 s, .int .i64 t, .int .i64 l, .int .i64 q, .int .i64 f, .int .i64 n, .int .i64 e, .int .i64 sl, .int .i64 r, .int .i64 ep, .string d] 23 (0, 0))).alloc (.cells #[.int .i64 k1, .int .i64 s1, .int .i64 t1, .int .i64 l1, .int .i64 q1, .int .i64 f1, .int .i64 n1, .int .i64 e1, .int .i64 sl1, .int .i64 r1, .int .i64 ep1, .string d1] 23 (0, 0))).alloc (.cells #[.int .i64 g0, .int .i64 g1, .int .i64 g2] 35 (0, 0)) := ⟨_, rfl⟩
    have hBc : w0.heap[w.heap.size]? = some (.cells #[.int .i64 k, .int .i64 s, .int .i64 t, .int .i64 l, .int .i64 q, .int .i64 f, .int .i64 n, .int .i64 e, .int .i64 sl, .int .i64 r, .int .i64 ep, .string d] 23 (0, 0)) := by rw [hW]; exact alloc_keeps (alloc_keeps (heap_alloc_new w _) _) _
    have Hc0 := Lib.hid hBc
    have hBy : w0.heap[w.heap.size + 1]? = some (.cells #[.int .i64 k1, .int .i64 s1, .int .i64 t1, .int .i64 l1, .int .i64 q1, .int .i64 f1, .int .i64 n1, .int .i64 e1, .int .i64 sl1, .int .i64 r1, .int .i64 ep1, .string d1] 23 (0, 0)) := by rw [hW]; simpa using alloc_keeps (heap_alloc_new (w.alloc (.cells #[.int .i64 k, .int .i64 s, .int .i64 t, .int .i64 l, .int .i64 q, .int .i64 f, .int .i64 n, .int .i64 e, .int .i64 sl, .int .i64 r, .int .i64 ep, .string d] 23 (0, 0))) _) _
    have Hy0 := Lib.hid hBy
    have hBg : w0.heap[w.heap.size + 1 + 1]? = some (.cells #[.int .i64 g0, .int .i64 g1, .int .i64 g2] 35 (0, 0)) := by rw [hW]; simpa using heap_alloc_new ((w.alloc (.cells #[.int .i64 k, .int .i64 s, .int .i64 t, .int .i64 l, .int .i64 q, .int .i64 f, .int .i64 n, .int .i64 e, .int .i64 sl, .int .i64 r, .int .i64 ep, .string d] 23 (0, 0))).alloc (.cells #[.int .i64 k1, .int .i64 s1, .int .i64 t1, .int .i64 l1, .int .i64 q1, .int .i64 f1, .int .i64 n1, .int .i64 e1, .int .i64 sl1, .int .i64 r1, .int .i64 ep1, .string d1] 23 (0, 0))) _
    have Hg0 := Lib.hid hBg
    have HF0 := Lib.hid (show Fr no w w0 by rw [hW]; exact (((Fr.refl no w).alloc _).alloc _).alloc _)
    have HW := Lib.hid hW
    obtain ⟨c0, c1, c2, c3, c4, c5, c6, c7, c8, c9, c10, c11⟩ := twelve_cells Hc0.out
    obtain ⟨y0, y1, y2, y3, y4, y5, y6, y7, y8, y9, y10, y11⟩ := twelve_cells Hy0.out
    obtain ⟨gc0, gc1, gc2, _, _, _⟩ := three_cells Hg0.out
    clear hW hBc hBy hBg
    go_enter Try.func5, Try.ntmps5
    go_wp2_with fail
    rw [← HW.out]
    go_wp2_with fail
    refine (HAW.out _).mono ?_
    rintro e1 w1 ⟨rfl, f1⟩
    have HF1 := Lib.hid (HF0.out.noTrans f1)
    have Hc1 := Lib.hid (f1.blk Hc0.out (fun h => h))
    have Hy1 := Lib.hid (f1.blk Hy0.out (fun h => h))
    have Hg1 := Lib.hid (f1.blk Hg0.out (fun h => h))
    clear f1
    clear c0 c1 c2 c3 c4 c5 c6 c7 c8 c9 c10 c11 y0 y1 y2 y3 y4 y5 y6 y7 y8 y9 y10 y11 gc0 gc1 gc2
    obtain ⟨c0, c1, c2, c3, c4, c5, c6, c7, c8, c9, c10, c11⟩ := twelve_cells Hc1.out
    obtain ⟨y0, y1, y2, y3, y4, y5, y6, y7, y8, y9, y10, y11⟩ := twelve_cells Hy1.out
    obtain ⟨gc0, gc1, gc2, _, _, _⟩ := three_cells Hg1.out
    go_wp2_with fail
    go_ret
    exact ⟨rfl, HF1.out⟩
  · have hd2 : (300 : Int) < (d1.size : Int) := by omega
    have hd3 : decide ((300 : Int) < (d.size : Int)) = false := decide_eq_false hd1
    clear hd
    obtain ⟨w0, hW⟩ : ∃ w0, w0 = ((w.alloc (.cells #[.int .i64 k, .int .i64 s, .int .i64 t, .int .i64 l, .int .i64 q, .int .i64 f, .int .i64 n, .int .i64 e, .int .i64 sl, .int .i64 r, .int .i64 ep, .string d] 23 (0, 0))).alloc (.cells #[.int .i64 k1, .int .i64 s1, .int .i64 t1, .int .i64 l1, .int .i64 q1, .int .i64 f1, .int .i64 n1, .int .i64 e1, .int .i64 sl1, .int .i64 r1, .int .i64 ep1, .string d1] 23 (0, 0))).alloc (.cells #[.int .i64 g0, .int .i64 g1, .int .i64 g2] 35 (0, 0)) := ⟨_, rfl⟩
    have hBc : w0.heap[w.heap.size]? = some (.cells #[.int .i64 k, .int .i64 s, .int .i64 t, .int .i64 l, .int .i64 q, .int .i64 f, .int .i64 n, .int .i64 e, .int .i64 sl, .int .i64 r, .int .i64 ep, .string d] 23 (0, 0)) := by rw [hW]; exact alloc_keeps (alloc_keeps (heap_alloc_new w _) _) _
    have Hc0 := Lib.hid hBc
    have hBy : w0.heap[w.heap.size + 1]? = some (.cells #[.int .i64 k1, .int .i64 s1, .int .i64 t1, .int .i64 l1, .int .i64 q1, .int .i64 f1, .int .i64 n1, .int .i64 e1, .int .i64 sl1, .int .i64 r1, .int .i64 ep1, .string d1] 23 (0, 0)) := by rw [hW]; simpa using alloc_keeps (heap_alloc_new (w.alloc (.cells #[.int .i64 k, .int .i64 s, .int .i64 t, .int .i64 l, .int .i64 q, .int .i64 f, .int .i64 n, .int .i64 e, .int .i64 sl, .int .i64 r, .int .i64 ep, .string d] 23 (0, 0))) _) _
    have Hy0 := Lib.hid hBy
    have hBg : w0.heap[w.heap.size + 1 + 1]? = some (.cells #[.int .i64 g0, .int .i64 g1, .int .i64 g2] 35 (0, 0)) := by rw [hW]; simpa using heap_alloc_new ((w.alloc (.cells #[.int .i64 k, .int .i64 s, .int .i64 t, .int .i64 l, .int .i64 q, .int .i64 f, .int .i64 n, .int .i64 e, .int .i64 sl, .int .i64 r, .int .i64 ep, .string d] 23 (0, 0))).alloc (.cells #[.int .i64 k1, .int .i64 s1, .int .i64 t1, .int .i64 l1, .int .i64 q1, .int .i64 f1, .int .i64 n1, .int .i64 e1, .int .i64 sl1, .int .i64 r1, .int .i64 ep1, .string d1] 23 (0, 0))) _
    have Hg0 := Lib.hid hBg
    have HF0 := Lib.hid (show Fr no w w0 by rw [hW]; exact (((Fr.refl no w).alloc _).alloc _).alloc _)
    have HW := Lib.hid hW
    obtain ⟨c0, c1, c2, c3, c4, c5, c6, c7, c8, c9, c10, c11⟩ := twelve_cells Hc0.out
    obtain ⟨y0, y1, y2, y3, y4, y5, y6, y7, y8, y9, y10, y11⟩ := twelve_cells Hy0.out
    obtain ⟨gc0, gc1, gc2, _, _, _⟩ := three_cells Hg0.out
    clear hW hBc hBy hBg
    go_enter Try.func5, Try.ntmps5
    go_wp2_with fail
    rw [← HW.out]
    go_wp2_with fail
    refine (HAW.out _).mono ?_
    rintro e1 w1 ⟨rfl, f1⟩
    have HF1 := Lib.hid (HF0.out.noTrans f1)
    have Hc1 := Lib.hid (f1.blk Hc0.out (fun h => h))
    have Hy1 := Lib.hid (f1.blk Hy0.out (fun h => h))
    have Hg1 := Lib.hid (f1.blk Hg0.out (fun h => h))
    clear f1
    clear c0 c1 c2 c3 c4 c5 c6 c7 c8 c9 c10 c11 y0 y1 y2 y3 y4 y5 y6 y7 y8 y9 y10 y11 gc0 gc1 gc2
    obtain ⟨c0, c1, c2, c3, c4, c5, c6, c7, c8, c9, c10, c11⟩ := twelve_cells Hc1.out
    obtain ⟨y0, y1, y2, y3, y4, y5, y6, y7, y8, y9, y10, y11⟩ := twelve_cells Hy1.out
    obtain ⟨gc0, gc1, gc2, _, _, _⟩ := three_cells Hg1.out
    go_wp2_with fail
    go_ret
    exact ⟨rfl, HF1.out⟩
set_option maxHeartbeats 4000000 in
theorem acks_ok (x y : Frm) (g0 g1 g2 : Int) (w : World) (hx : ¬ 300 < x.d.size) (hy : ¬ 300 < y.d.size) : Calls Try.prog 5 #[.agg (frA x), .agg (frA y), .agg #[.int .i64 g0, .int .i64 g1, .int .i64 g2]] w fun e w' => e = .returned (.bool true) ∧ Fr no w w' := by
  have HAW := Lib.hid awake_any
  have HA := Lib.hid (fun w => ack_any x g0 g1 w)
  have HB := Lib.hid (fun w => ackr_any x g0 g1 w)
  have HC := Lib.hid (fun w => answers_any x y w)
  have HD := Lib.hid (fun w => answersr_any x y w)
  have HC2 := Lib.hid (fun w => answers_any x (acV x g0 g1) w)
  have HD2 := Lib.hid (fun w => answersr_any x (acV x g0 g1) w)
  have HG := Lib.hid (fun w => for_any x g2 w)
  have HH := Lib.hid (fun w => forr_any x g2 w)
  have hz := fun w => eql_frame (acV x g0 g1) (acV x g0 g1) w
  simp only [eqF_refl] at hz
  generalize nsB x (acV x g0 g1) = N2 at *
  generalize acV x g0 g1 = z at *
  generalize acE x g0 g1 = E at *
  generalize nsB x y = N1 at *
  generalize foB x g2 = N3 at *
  obtain ⟨k, s, t, l, q, f, n, e, sl, r, ep, d⟩ := x
  obtain ⟨k1, s1, t1, l1, q1, f1, n1, e1, sl1, r1, ep1, d1⟩ := y
  obtain ⟨k2, s2, t2, l2, q2, f2, n2, e2, sl2, r2, ep2, d2⟩ := z
  simp only at hx hy
  have hd1 : ¬ (300 : Int) < (d.size : Int) := by omega
  have hd2 : ¬ (300 : Int) < (d1.size : Int) := by omega
  have hd3 : decide ((300 : Int) < (d.size : Int)) = false := decide_eq_false hd1
  clear hx hy
  simp only [frA] at HA HB HC HD HC2 HD2 HG HH hz ⊢
  obtain ⟨w0, hW⟩ : ∃ w0, w0 = ((w.alloc (.cells #[.int .i64 k, .int .i64 s, .int .i64 t, .int .i64 l, .int .i64 q, .int .i64 f, .int .i64 n, .int .i64 e, .int .i64 sl, .int .i64 r, .int .i64 ep, .string d] 23 (0, 0))).alloc (.cells #[.int .i64 k1, .int .i64 s1, .int .i64 t1, .int .i64 l1, .int .i64 q1, .int .i64 f1, .int .i64 n1, .int .i64 e1, .int .i64 sl1, .int .i64 r1, .int .i64 ep1, .string d1] 23 (0, 0))).alloc (.cells #[.int .i64 g0, .int .i64 g1, .int .i64 g2] 35 (0, 0)) := ⟨_, rfl⟩
  have hBc : w0.heap[w.heap.size]? = some (.cells #[.int .i64 k, .int .i64 s, .int .i64 t, .int .i64 l, .int .i64 q, .int .i64 f, .int .i64 n, .int .i64 e, .int .i64 sl, .int .i64 r, .int .i64 ep, .string d] 23 (0, 0)) := by rw [hW]; exact alloc_keeps (alloc_keeps (heap_alloc_new w _) _) _
  have Hc0 := Lib.hid hBc
  have hBy : w0.heap[w.heap.size + 1]? = some (.cells #[.int .i64 k1, .int .i64 s1, .int .i64 t1, .int .i64 l1, .int .i64 q1, .int .i64 f1, .int .i64 n1, .int .i64 e1, .int .i64 sl1, .int .i64 r1, .int .i64 ep1, .string d1] 23 (0, 0)) := by rw [hW]; simpa using alloc_keeps (heap_alloc_new (w.alloc (.cells #[.int .i64 k, .int .i64 s, .int .i64 t, .int .i64 l, .int .i64 q, .int .i64 f, .int .i64 n, .int .i64 e, .int .i64 sl, .int .i64 r, .int .i64 ep, .string d] 23 (0, 0))) _) _
  have Hy0 := Lib.hid hBy
  have hBg : w0.heap[w.heap.size + 1 + 1]? = some (.cells #[.int .i64 g0, .int .i64 g1, .int .i64 g2] 35 (0, 0)) := by rw [hW]; simpa using heap_alloc_new ((w.alloc (.cells #[.int .i64 k, .int .i64 s, .int .i64 t, .int .i64 l, .int .i64 q, .int .i64 f, .int .i64 n, .int .i64 e, .int .i64 sl, .int .i64 r, .int .i64 ep, .string d] 23 (0, 0))).alloc (.cells #[.int .i64 k1, .int .i64 s1, .int .i64 t1, .int .i64 l1, .int .i64 q1, .int .i64 f1, .int .i64 n1, .int .i64 e1, .int .i64 sl1, .int .i64 r1, .int .i64 ep1, .string d1] 23 (0, 0))) _
  have Hg0 := Lib.hid hBg
  have HF0 := Lib.hid (show Fr no w w0 by rw [hW]; exact (((Fr.refl no w).alloc _).alloc _).alloc _)
  have HW := Lib.hid hW
  obtain ⟨c0, c1, c2, c3, c4, c5, c6, c7, c8, c9, c10, c11⟩ := twelve_cells Hc0.out
  obtain ⟨y0, y1, y2, y3, y4, y5, y6, y7, y8, y9, y10, y11⟩ := twelve_cells Hy0.out
  obtain ⟨gc0, gc1, gc2, _, _, _⟩ := three_cells Hg0.out
  clear hW hBc hBy hBg
  go_enter Try.func5, Try.ntmps5
  go_wp2_with fail
  rw [← HW.out]
  go_wp2_with fail
  refine (HAW.out _).mono ?_
  rintro e1 w1 ⟨rfl, f1⟩
  have HF1 := Lib.hid (HF0.out.noTrans f1)
  have Hc1 := Lib.hid (f1.blk Hc0.out (fun h => h))
  have Hy1 := Lib.hid (f1.blk Hy0.out (fun h => h))
  have Hg1 := Lib.hid (f1.blk Hg0.out (fun h => h))
  clear f1
  clear c0 c1 c2 c3 c4 c5 c6 c7 c8 c9 c10 c11 y0 y1 y2 y3 y4 y5 y6 y7 y8 y9 y10 y11 gc0 gc1 gc2
  obtain ⟨c0, c1, c2, c3, c4, c5, c6, c7, c8, c9, c10, c11⟩ := twelve_cells Hc1.out
  obtain ⟨y0, y1, y2, y3, y4, y5, y6, y7, y8, y9, y10, y11⟩ := twelve_cells Hy1.out
  obtain ⟨gc0, gc1, gc2, _, _, _⟩ := three_cells Hg1.out
  go_wp2_with fail
  refine (HA.out _).mono ?_
  rintro e2 w2 ⟨rfl, f2⟩
  have HF2 := Lib.hid (HF1.out.noTrans f2)
  have Hc2 := Lib.hid (f2.blk Hc1.out (fun h => h))
  have Hy2 := Lib.hid (f2.blk Hy1.out (fun h => h))
  have Hg2 := Lib.hid (f2.blk Hg1.out (fun h => h))
  clear f2
  clear c0 c1 c2 c3 c4 c5 c6 c7 c8 c9 c10 c11 y0 y1 y2 y3 y4 y5 y6 y7 y8 y9 y10 y11 gc0 gc1 gc2
  obtain ⟨c0, c1, c2, c3, c4, c5, c6, c7, c8, c9, c10, c11⟩ := twelve_cells Hc2.out
  obtain ⟨y0, y1, y2, y3, y4, y5, y6, y7, y8, y9, y10, y11⟩ := twelve_cells Hy2.out
  obtain ⟨gc0, gc1, gc2, _, _, _⟩ := three_cells Hg2.out
  have ltc2 := World.block_lt_of_cell? w2 _ c0
  have lty2 := World.block_lt_of_cell? w2 _ y0
  have ltg2 := World.block_lt_of_cell? w2 _ gc0
  go_wp2_with fail
  obtain ⟨w3, hW3⟩ : ∃ w3, w3 = w2.alloc (.cells #[.int .i64 k2, .int .i64 s2, .int .i64 t2, .int .i64 l2, .int .i64 q2, .int .i64 f2, .int .i64 n2, .int .i64 e2, .int .i64 sl2, .int .i64 r2, .int .i64 ep2, .string d2] 23 (0, 0)) := ⟨_, rfl⟩
  have HF3 := Lib.hid (show Fr no w w3 by rw [hW3]; exact HF2.out.alloc _)
  have Hc3 := Lib.hid (show w3.heap[w.heap.size]? = some (.cells #[.int .i64 k, .int .i64 s, .int .i64 t, .int .i64 l, .int .i64 q, .int .i64 f, .int .i64 n, .int .i64 e, .int .i64 sl, .int .i64 r, .int .i64 ep, .string d] 23 (0, 0)) by rw [hW3]; exact alloc_keeps Hc2.out _)
  have Hy3 := Lib.hid (show w3.heap[w.heap.size + 1]? = some (.cells #[.int .i64 k1, .int .i64 s1, .int .i64 t1, .int .i64 l1, .int .i64 q1, .int .i64 f1, .int .i64 n1, .int .i64 e1, .int .i64 sl1, .int .i64 r1, .int .i64 ep1, .string d1] 23 (0, 0)) by rw [hW3]; exact alloc_keeps Hy2.out _)
  have Hg3 := Lib.hid (show w3.heap[w.heap.size + 1 + 1]? = some (.cells #[.int .i64 g0, .int .i64 g1, .int .i64 g2] 35 (0, 0)) by rw [hW3]; exact alloc_keeps Hg2.out _)
  have Ha3 := Lib.hid (show w3.heap[w2.heap.size]? = some (.cells #[.int .i64 k2, .int .i64 s2, .int .i64 t2, .int .i64 l2, .int .i64 q2, .int .i64 f2, .int .i64 n2, .int .i64 e2, .int .i64 sl2, .int .i64 r2, .int .i64 ep2, .string d2] 23 (0, 0)) by rw [hW3]; exact heap_alloc_new _ _)
  rw [← hW3]
  clear hW3
  clear c0 c1 c2 c3 c4 c5 c6 c7 c8 c9 c10 c11 y0 y1 y2 y3 y4 y5 y6 y7 y8 y9 y10 y11 gc0 gc1 gc2
  obtain ⟨c0, c1, c2, c3, c4, c5, c6, c7, c8, c9, c10, c11⟩ := twelve_cells Hc3.out
  obtain ⟨y0, y1, y2, y3, y4, y5, y6, y7, y8, y9, y10, y11⟩ := twelve_cells Hy3.out
  obtain ⟨gc0, gc1, gc2, _, _, _⟩ := three_cells Hg3.out
  obtain ⟨a0, a1, a2, a3, a4, a5, a6, a7, a8, a9, a10, a11⟩ := twelve_cells Ha3.out
  go_wp2_with fail
  refine (HB.out _).mono ?_
  rintro e4 w4 ⟨rfl, f4⟩
  have HF4 := Lib.hid (HF3.out.noTrans f4)
  have Hc4 := Lib.hid (f4.blk Hc3.out (fun h => h))
  have Hy4 := Lib.hid (f4.blk Hy3.out (fun h => h))
  have Hg4 := Lib.hid (f4.blk Hg3.out (fun h => h))
  have Ha4 := Lib.hid (f4.blk Ha3.out (fun h => h))
  clear f4
  clear c0 c1 c2 c3 c4 c5 c6 c7 c8 c9 c10 c11 y0 y1 y2 y3 y4 y5 y6 y7 y8 y9 y10 y11 gc0 gc1 gc2 a0 a1 a2 a3 a4 a5 a6 a7 a8 a9 a10 a11
  obtain ⟨c0, c1, c2, c3, c4, c5, c6, c7, c8, c9, c10, c11⟩ := twelve_cells Hc4.out
  obtain ⟨y0, y1, y2, y3, y4, y5, y6, y7, y8, y9, y10, y11⟩ := twelve_cells Hy4.out
  obtain ⟨gc0, gc1, gc2, _, _, _⟩ := three_cells Hg4.out
  obtain ⟨a0, a1, a2, a3, a4, a5, a6, a7, a8, a9, a10, a11⟩ := twelve_cells Ha4.out
  have ltc4 := World.block_lt_of_cell? w4 _ c0
  have lty4 := World.block_lt_of_cell? w4 _ y0
  have ltg4 := World.block_lt_of_cell? w4 _ gc0
  have lta4 := World.block_lt_of_cell? w4 _ a0
  go_wp2_with fail
  obtain ⟨w5, hW5⟩ : ∃ w5, w5 = w4.alloc (.cells #[.int .i64 k2, .int .i64 s2, .int .i64 t2, .int .i64 l2, .int .i64 q2, .int .i64 f2, .int .i64 n2, .int .i64 e2, .int .i64 sl2, .int .i64 r2, .int .i64 ep2, .string d2] 23 (0, 0)) := ⟨_, rfl⟩
  have HF5 := Lib.hid (show Fr no w w5 by rw [hW5]; exact HF4.out.alloc _)
  have Hc5 := Lib.hid (show w5.heap[w.heap.size]? = some (.cells #[.int .i64 k, .int .i64 s, .int .i64 t, .int .i64 l, .int .i64 q, .int .i64 f, .int .i64 n, .int .i64 e, .int .i64 sl, .int .i64 r, .int .i64 ep, .string d] 23 (0, 0)) by rw [hW5]; exact alloc_keeps Hc4.out _)
  have Hy5 := Lib.hid (show w5.heap[w.heap.size + 1]? = some (.cells #[.int .i64 k1, .int .i64 s1, .int .i64 t1, .int .i64 l1, .int .i64 q1, .int .i64 f1, .int .i64 n1, .int .i64 e1, .int .i64 sl1, .int .i64 r1, .int .i64 ep1, .string d1] 23 (0, 0)) by rw [hW5]; exact alloc_keeps Hy4.out _)
  have Hg5 := Lib.hid (show w5.heap[w.heap.size + 1 + 1]? = some (.cells #[.int .i64 g0, .int .i64 g1, .int .i64 g2] 35 (0, 0)) by rw [hW5]; exact alloc_keeps Hg4.out _)
  have Ha5 := Lib.hid (show w5.heap[w2.heap.size]? = some (.cells #[.int .i64 k2, .int .i64 s2, .int .i64 t2, .int .i64 l2, .int .i64 q2, .int .i64 f2, .int .i64 n2, .int .i64 e2, .int .i64 sl2, .int .i64 r2, .int .i64 ep2, .string d2] 23 (0, 0)) by rw [hW5]; exact alloc_keeps Ha4.out _)
  have Hb5 := Lib.hid (show w5.heap[w4.heap.size]? = some (.cells #[.int .i64 k2, .int .i64 s2, .int .i64 t2, .int .i64 l2, .int .i64 q2, .int .i64 f2, .int .i64 n2, .int .i64 e2, .int .i64 sl2, .int .i64 r2, .int .i64 ep2, .string d2] 23 (0, 0)) by rw [hW5]; exact heap_alloc_new _ _)
  rw [← hW5]
  clear hW5
  clear c0 c1 c2 c3 c4 c5 c6 c7 c8 c9 c10 c11 y0 y1 y2 y3 y4 y5 y6 y7 y8 y9 y10 y11 gc0 gc1 gc2 a0 a1 a2 a3 a4 a5 a6 a7 a8 a9 a10 a11
  obtain ⟨c0, c1, c2, c3, c4, c5, c6, c7, c8, c9, c10, c11⟩ := twelve_cells Hc5.out
  obtain ⟨y0, y1, y2, y3, y4, y5, y6, y7, y8, y9, y10, y11⟩ := twelve_cells Hy5.out
  obtain ⟨gc0, gc1, gc2, _, _, _⟩ := three_cells Hg5.out
  obtain ⟨a0, a1, a2, a3, a4, a5, a6, a7, a8, a9, a10, a11⟩ := twelve_cells Ha5.out
  obtain ⟨b0, b1, b2, b3, b4, b5, b6, b7, b8, b9, b10, b11⟩ := twelve_cells Hb5.out
  go_wp2_with fail
  have pc0 : ∀ p : Past w5, p.u.cell? ⟨w.heap.size, 0, none⟩ = some (.int .i64 k) := fun p => p.h.keepc c0
  have pc1 : ∀ p : Past w5, p.u.cell? ⟨w.heap.size, 1, none⟩ = some (.int .i64 s) := fun p => p.h.keepc c1
  have pc2 : ∀ p : Past w5, p.u.cell? ⟨w.heap.size, 2, none⟩ = some (.int .i64 t) := fun p => p.h.keepc c2
  have pc3 : ∀ p : Past w5, p.u.cell? ⟨w.heap.size, 3, none⟩ = some (.int .i64 l) := fun p => p.h.keepc c3
  have pc4 : ∀ p : Past w5, p.u.cell? ⟨w.heap.size, 4, none⟩ = some (.int .i64 q) := fun p => p.h.keepc c4
  have pc5 : ∀ p : Past w5, p.u.cell? ⟨w.heap.size, 5, none⟩ = some (.int .i64 f) := fun p => p.h.keepc c5
  have pc6 : ∀ p : Past w5, p.u.cell? ⟨w.heap.size, 6, none⟩ = some (.int .i64 n) := fun p => p.h.keepc c6
  have pc7 : ∀ p : Past w5, p.u.cell? ⟨w.heap.size, 7, none⟩ = some (.int .i64 e) := fun p => p.h.keepc c7
  have pc8 : ∀ p : Past w5, p.u.cell? ⟨w.heap.size, 8, none⟩ = some (.int .i64 sl) := fun p => p.h.keepc c8
  have pc9 : ∀ p : Past w5, p.u.cell? ⟨w.heap.size, 9, none⟩ = some (.int .i64 r) := fun p => p.h.keepc c9
  have pc10 : ∀ p : Past w5, p.u.cell? ⟨w.heap.size, 10, none⟩ = some (.int .i64 ep) := fun p => p.h.keepc c10
  have pc11 : ∀ p : Past w5, p.u.cell? ⟨w.heap.size, 11, none⟩ = some (.string d) := fun p => p.h.keepc c11
  have py0 : ∀ p : Past w5, p.u.cell? ⟨w.heap.size + 1, 0, none⟩ = some (.int .i64 k1) := fun p => p.h.keepc y0
  have py1 : ∀ p : Past w5, p.u.cell? ⟨w.heap.size + 1, 1, none⟩ = some (.int .i64 s1) := fun p => p.h.keepc y1
  have py2 : ∀ p : Past w5, p.u.cell? ⟨w.heap.size + 1, 2, none⟩ = some (.int .i64 t1) := fun p => p.h.keepc y2
  have py3 : ∀ p : Past w5, p.u.cell? ⟨w.heap.size + 1, 3, none⟩ = some (.int .i64 l1) := fun p => p.h.keepc y3
  have py4 : ∀ p : Past w5, p.u.cell? ⟨w.heap.size + 1, 4, none⟩ = some (.int .i64 q1) := fun p => p.h.keepc y4
  have py5 : ∀ p : Past w5, p.u.cell? ⟨w.heap.size + 1, 5, none⟩ = some (.int .i64 f1) := fun p => p.h.keepc y5
  have py6 : ∀ p : Past w5, p.u.cell? ⟨w.heap.size + 1, 6, none⟩ = some (.int .i64 n1) := fun p => p.h.keepc y6
  have py7 : ∀ p : Past w5, p.u.cell? ⟨w.heap.size + 1, 7, none⟩ = some (.int .i64 e1) := fun p => p.h.keepc y7
  have py8 : ∀ p : Past w5, p.u.cell? ⟨w.heap.size + 1, 8, none⟩ = some (.int .i64 sl1) := fun p => p.h.keepc y8
  have py9 : ∀ p : Past w5, p.u.cell? ⟨w.heap.size + 1, 9, none⟩ = some (.int .i64 r1) := fun p => p.h.keepc y9
  have py10 : ∀ p : Past w5, p.u.cell? ⟨w.heap.size + 1, 10, none⟩ = some (.int .i64 ep1) := fun p => p.h.keepc y10
  have py11 : ∀ p : Past w5, p.u.cell? ⟨w.heap.size + 1, 11, none⟩ = some (.string d1) := fun p => p.h.keepc y11
  have pa0 : ∀ p : Past w5, p.u.cell? ⟨w2.heap.size, 0, none⟩ = some (.int .i64 k2) := fun p => p.h.keepc a0
  have pa1 : ∀ p : Past w5, p.u.cell? ⟨w2.heap.size, 1, none⟩ = some (.int .i64 s2) := fun p => p.h.keepc a1
  have pa2 : ∀ p : Past w5, p.u.cell? ⟨w2.heap.size, 2, none⟩ = some (.int .i64 t2) := fun p => p.h.keepc a2
  have pa3 : ∀ p : Past w5, p.u.cell? ⟨w2.heap.size, 3, none⟩ = some (.int .i64 l2) := fun p => p.h.keepc a3
  have pa4 : ∀ p : Past w5, p.u.cell? ⟨w2.heap.size, 4, none⟩ = some (.int .i64 q2) := fun p => p.h.keepc a4
  have pa5 : ∀ p : Past w5, p.u.cell? ⟨w2.heap.size, 5, none⟩ = some (.int .i64 f2) := fun p => p.h.keepc a5
  have pa6 : ∀ p : Past w5, p.u.cell? ⟨w2.heap.size, 6, none⟩ = some (.int .i64 n2) := fun p => p.h.keepc a6
  have pa7 : ∀ p : Past w5, p.u.cell? ⟨w2.heap.size, 7, none⟩ = some (.int .i64 e2) := fun p => p.h.keepc a7
  have pa8 : ∀ p : Past w5, p.u.cell? ⟨w2.heap.size, 8, none⟩ = some (.int .i64 sl2) := fun p => p.h.keepc a8
  have pa9 : ∀ p : Past w5, p.u.cell? ⟨w2.heap.size, 9, none⟩ = some (.int .i64 r2) := fun p => p.h.keepc a9
  have pa10 : ∀ p : Past w5, p.u.cell? ⟨w2.heap.size, 10, none⟩ = some (.int .i64 ep2) := fun p => p.h.keepc a10
  have pa11 : ∀ p : Past w5, p.u.cell? ⟨w2.heap.size, 11, none⟩ = some (.string d2) := fun p => p.h.keepc a11
  have pb0 : ∀ p : Past w5, p.u.cell? ⟨w4.heap.size, 0, none⟩ = some (.int .i64 k2) := fun p => p.h.keepc b0
  have pb1 : ∀ p : Past w5, p.u.cell? ⟨w4.heap.size, 1, none⟩ = some (.int .i64 s2) := fun p => p.h.keepc b1
  have pb2 : ∀ p : Past w5, p.u.cell? ⟨w4.heap.size, 2, none⟩ = some (.int .i64 t2) := fun p => p.h.keepc b2
  have pb3 : ∀ p : Past w5, p.u.cell? ⟨w4.heap.size, 3, none⟩ = some (.int .i64 l2) := fun p => p.h.keepc b3
  have pb4 : ∀ p : Past w5, p.u.cell? ⟨w4.heap.size, 4, none⟩ = some (.int .i64 q2) := fun p => p.h.keepc b4
  have pb5 : ∀ p : Past w5, p.u.cell? ⟨w4.heap.size, 5, none⟩ = some (.int .i64 f2) := fun p => p.h.keepc b5
  have pb6 : ∀ p : Past w5, p.u.cell? ⟨w4.heap.size, 6, none⟩ = some (.int .i64 n2) := fun p => p.h.keepc b6
  have pb7 : ∀ p : Past w5, p.u.cell? ⟨w4.heap.size, 7, none⟩ = some (.int .i64 e2) := fun p => p.h.keepc b7
  have pb8 : ∀ p : Past w5, p.u.cell? ⟨w4.heap.size, 8, none⟩ = some (.int .i64 sl2) := fun p => p.h.keepc b8
  have pb9 : ∀ p : Past w5, p.u.cell? ⟨w4.heap.size, 9, none⟩ = some (.int .i64 r2) := fun p => p.h.keepc b9
  have pb10 : ∀ p : Past w5, p.u.cell? ⟨w4.heap.size, 10, none⟩ = some (.int .i64 ep2) := fun p => p.h.keepc b10
  have pb11 : ∀ p : Past w5, p.u.cell? ⟨w4.heap.size, 11, none⟩ = some (.string d2) := fun p => p.h.keepc b11
  have pg0 : ∀ p : Past w5, p.u.cell? ⟨w.heap.size + 1 + 1, 0, none⟩ = some (.int .i64 g0) := fun p => p.h.keepc gc0
  have pg1 : ∀ p : Past w5, p.u.cell? ⟨w.heap.size + 1 + 1, 1, none⟩ = some (.int .i64 g1) := fun p => p.h.keepc gc1
  have pg2 : ∀ p : Past w5, p.u.cell? ⟨w.heap.size + 1 + 1, 2, none⟩ = some (.int .i64 g2) := fun p => p.h.keepc gc2
  refine wp_region_past (by kernel_rfl) (by kernel_rfl) ?_
  repeat (go_big_quiet_step (first | rfl | exact hz _ | (go_at_call_of 24 k1; refine past_of (HC.out _)) | (go_at_call_of 24 k2; refine past_of (HC2.out _)) | (go_at_call_of 25 k1; refine past_of (HD.out _)) | (go_at_call_of 25 k2; refine past_of (HD2.out _)) | (go_at_call 26; refine past_of (HG.out _)) | (go_at_call 27; refine past_of (HH.out _))))
  refine wpQuiet_nil ?_
  intro w9 hp
  have HF9 := Lib.hid (HF5.out.noTrans (past_out hp))
  clear hp pc0 pc1 pc2 pc3 pc4 pc5 pc6 pc7 pc8 pc9 pc10 pc11 py0 py1 py2 py3 py4 py5 py6 py7 py8 py9 py10 py11 pa0 pa1 pa2 pa3 pa4 pa5 pa6 pa7 pa8 pa9 pa10 pa11 pb0 pb1 pb2 pb3 pb4 pb5 pb6 pb7 pb8 pb9 pb10 pb11 pg0 pg1 pg2
  go_wp2_with fail
  go_ret
  exact ⟨by simp, HF9.out⟩
theorem acks_law (x y : Frm) (g0 g1 g2 : Int) (w : World) : Calls Try.prog 5 #[.agg (frA x), .agg (frA y), .agg #[.int .i64 g0, .int .i64 g1, .int .i64 g2]] w fun e w' => e = .returned (.bool true) ∧ Fr no w w' := by
  by_cases h : 300 < x.d.size ∨ 300 < y.d.size
  · exact acks_big x y g0 g1 g2 w h
  · exact acks_ok x y g0 g1 g2 w (by omega) (by omega)
end Go.Proofs.Ytelpdihaonoedaa
