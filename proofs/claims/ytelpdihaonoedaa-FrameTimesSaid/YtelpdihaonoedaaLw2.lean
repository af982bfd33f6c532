/- FrameTimes: the law. -/
import Derived.Test.YtelpdihaonoedaaLw1
namespace Go.Proofs.Ytelpdihaonoedaa
open Go.RowKit
set_option linter.unusedVariables false
set_option maxRecDepth 20000

theorem times_big (x : Frm) (li di : Int) (w : World) (hd : 300 < x.d.size) : Calls Try.prog 10 #[.agg (frA x), .int .i64 li, .int .i64 di] w fun e w' => e = .returned (.bool true) ∧ Fr no w w' := by
  have HAW := Lib.hid awake_any
  obtain ⟨k, s, t, l, q, f, n, e, sl, r, ep, d⟩ := x
  simp only at hd
  have hd1 : (300 : Int) < (d.size : Int) := by omega
  clear hd
  simp only [frA]
  obtain ⟨w0, hW⟩ : ∃ w0, w0 = w.alloc (.cells #[.int .i64 k, .int .i64 s, .int .i64 t, .int .i64 l, .int .i64 q, .int .i64 f, .int .i64 n, .int .i64 e, .int .i64 sl, .int .i64 r, .int .i64 ep, .string d] 23 (0, 0)) := ⟨_, rfl⟩
  have hBc : w0.heap[w.heap.size]? = some (.cells #[.int .i64 k, .int .i64 s, .int .i64 t, .int .i64 l, .int .i64 q, .int .i64 f, .int .i64 n, .int .i64 e, .int .i64 sl, .int .i64 r, .int .i64 ep, .string d] 23 (0, 0)) := by rw [hW]; exact heap_alloc_new w _
  have Hc0 := Lib.hid hBc
  have HF0 := Lib.hid (show Fr no w w0 by rw [hW]; exact (Fr.refl no w).alloc _)
  have HW := Lib.hid hW
  obtain ⟨c0, c1, c2, c3, c4, c5, c6, c7, c8, c9, c10, c11⟩ := twelve_cells Hc0.out
  clear hW hBc
  go_enter Try.func10, Try.ntmps10
  go_wp2_with fail
  rw [← HW.out]
  go_wp2_with fail
  refine (HAW.out _).mono ?_
  rintro e1 w1 ⟨rfl, f1⟩
  have HF1 := Lib.hid (HF0.out.noTrans f1)
  have Hc1 := Lib.hid (f1.blk Hc0.out (fun h => h))
  clear f1
  clear c0 c1 c2 c3 c4 c5 c6 c7 c8 c9 c10 c11
  obtain ⟨c0, c1, c2, c3, c4, c5, c6, c7, c8, c9, c10, c11⟩ := twelve_cells Hc1.out
  go_wp2_with fail
  go_ret
  exact ⟨rfl, HF1.out⟩
theorem times_err (x : Frm) (li di : Int) (w : World) (hd : ¬ 300 < x.d.size) (hE : enE x ≠ 0) : Calls Try.prog 10 #[.agg (frA x), .int .i64 li, .int .i64 di] w fun e w' => e = .returned (.bool true) ∧ Fr no w w' := by
  have HAW := Lib.hid awake_any
  have HT := Lib.hid (fun w => time_any x w (by omega) (enV_small x))
  have ht : tmV x = 0 := by unfold tmV; rw [if_neg hE]
  rw [ht] at HT
  have hE1 : (enE x != 0) = true := by simp [hE]
  clear ht hE
  generalize enE x = E at *
  obtain ⟨k, s, t, l, q, f, n, e, sl, r, ep, d⟩ := x
  simp only at hd
  have hd1 : ¬ (300 : Int) < (d.size : Int) := by omega
  clear hd
  simp only [frA] at HT ⊢
  obtain ⟨w0, hW⟩ : ∃ w0, w0 = w.alloc (.cells #[.int .i64 k, .int .i64 s, .int .i64 t, .int .i64 l, .int .i64 q, .int .i64 f, .int .i64 n, .int .i64 e, .int .i64 sl, .int .i64 r, .int .i64 ep, .string d] 23 (0, 0)) := ⟨_, rfl⟩
  have hBc : w0.heap[w.heap.size]? = some (.cells #[.int .i64 k, .int .i64 s, .int .i64 t, .int .i64 l, .int .i64 q, .int .i64 f, .int .i64 n, .int .i64 e, .int .i64 sl, .int .i64 r, .int .i64 ep, .string d] 23 (0, 0)) := by rw [hW]; exact heap_alloc_new w _
  have Hc0 := Lib.hid hBc
  have HF0 := Lib.hid (show Fr no w w0 by rw [hW]; exact (Fr.refl no w).alloc _)
  have HW := Lib.hid hW
  obtain ⟨c0, c1, c2, c3, c4, c5, c6, c7, c8, c9, c10, c11⟩ := twelve_cells Hc0.out
  clear hW hBc
  go_enter Try.func10, Try.ntmps10
  go_wp2_with fail
  rw [← HW.out]
  go_wp2_with fail
  refine (HAW.out _).mono ?_
  rintro e1 w1 ⟨rfl, f1⟩
  have HF1 := Lib.hid (HF0.out.noTrans f1)
  have Hc1 := Lib.hid (f1.blk Hc0.out (fun h => h))
  clear f1
  clear c0 c1 c2 c3 c4 c5 c6 c7 c8 c9 c10 c11
  obtain ⟨c0, c1, c2, c3, c4, c5, c6, c7, c8, c9, c10, c11⟩ := twelve_cells Hc1.out
  go_wp2_with fail
  refine (HT.out _).mono ?_
  rintro e2 w2 ⟨rfl, f2⟩
  have HF2 := Lib.hid (HF1.out.noTrans f2)
  have Hc2 := Lib.hid (f2.blk Hc1.out (fun h => h))
  clear f2
  clear c0 c1 c2 c3 c4 c5 c6 c7 c8 c9 c10 c11
  obtain ⟨c0, c1, c2, c3, c4, c5, c6, c7, c8, c9, c10, c11⟩ := twelve_cells Hc2.out
  go_wp2_with fail
  go_ret
  exact ⟨rfl, HF2.out⟩
theorem times_nak (x : Frm) (li di : Int) (w : World) (hd : ¬ 300 < x.d.size) (hE : enE x = 0) (hA : acE x li di ≠ 0) (h192 : 192 ≤ tmV x) : Calls Try.prog 10 #[.agg (frA x), .int .i64 li, .int .i64 di] w fun e w' => e = .returned (.bool true) ∧ Fr no w w' := by
  have HAW := Lib.hid awake_any
  have HT := Lib.hid (fun w => time_any x w (by omega) (enV_small x))
  have HK := Lib.hid (fun w => ack_any x li di w)
  rw [hE] at HT
  rw [acE_n hA] at HK
  have hA1 : (acE x li di != 0) = true := by simp [hA]
  have h1 : ¬ tmV x < 192 := by omega
  have hz := fun w => eql_frame zeroF zeroF w
  rw [eqF_refl] at hz
  clear hE hA h192
  generalize tmV x = T at *
  generalize acE x li di = E at *
  obtain ⟨k, s, t, l, q, f, n, e, sl, r, ep, d⟩ := x
  simp only at hd
  have hd1 : ¬ (300 : Int) < (d.size : Int) := by omega
  clear hd
  simp only [frA, zeroF] at HT HK hz ⊢
  obtain ⟨w0, hW⟩ : ∃ w0, w0 = w.alloc (.cells #[.int .i64 k, .int .i64 s, .int .i64 t, .int .i64 l, .int .i64 q, .int .i64 f, .int .i64 n, .int .i64 e, .int .i64 sl, .int .i64 r, .int .i64 ep, .string d] 23 (0, 0)) := ⟨_, rfl⟩
  have hBc : w0.heap[w.heap.size]? = some (.cells #[.int .i64 k, .int .i64 s, .int .i64 t, .int .i64 l, .int .i64 q, .int .i64 f, .int .i64 n, .int .i64 e, .int .i64 sl, .int .i64 r, .int .i64 ep, .string d] 23 (0, 0)) := by rw [hW]; exact heap_alloc_new w _
  have Hc0 := Lib.hid hBc
  have HF0 := Lib.hid (show Fr no w w0 by rw [hW]; exact (Fr.refl no w).alloc _)
  have HW := Lib.hid hW
  obtain ⟨c0, c1, c2, c3, c4, c5, c6, c7, c8, c9, c10, c11⟩ := twelve_cells Hc0.out
  clear hW hBc
  go_enter Try.func10, Try.ntmps10
  go_wp2_with fail
  rw [← HW.out]
  go_wp2_with fail
  refine (HAW.out _).mono ?_
  rintro e1 w1 ⟨rfl, f1⟩
  have HF1 := Lib.hid (HF0.out.noTrans f1)
  have Hc1 := Lib.hid (f1.blk Hc0.out (fun h => h))
  clear f1
  clear c0 c1 c2 c3 c4 c5 c6 c7 c8 c9 c10 c11
  obtain ⟨c0, c1, c2, c3, c4, c5, c6, c7, c8, c9, c10, c11⟩ := twelve_cells Hc1.out
  go_wp2_with fail
  refine (HT.out _).mono ?_
  rintro e2 w2 ⟨rfl, f2⟩
  have HF2 := Lib.hid (HF1.out.noTrans f2)
  have Hc2 := Lib.hid (f2.blk Hc1.out (fun h => h))
  clear f2
  clear c0 c1 c2 c3 c4 c5 c6 c7 c8 c9 c10 c11
  obtain ⟨c0, c1, c2, c3, c4, c5, c6, c7, c8, c9, c10, c11⟩ := twelve_cells Hc2.out
  go_wp2_with fail
  refine (HK.out _).mono ?_
  rintro e3 w3 ⟨rfl, f3⟩
  have HF3 := Lib.hid (HF2.out.noTrans f3)
  have Hc3 := Lib.hid (f3.blk Hc2.out (fun h => h))
  clear f3
  clear c0 c1 c2 c3 c4 c5 c6 c7 c8 c9 c10 c11
  obtain ⟨c0, c1, c2, c3, c4, c5, c6, c7, c8, c9, c10, c11⟩ := twelve_cells Hc3.out
  go_wp2_with fail
  go_ret
  exact ⟨rfl, HF3.out.alloc _⟩
theorem times_ok (x a : Frm) (li di T : Int) (w : World) (hd : ¬ 300 < x.d.size) (h1 : 192 ≤ T) (h2 : T ≤ 4256) (HT : Hid (∀ w, Calls Try.prog 14 #[.agg (frA x)] w fun e w' => e = .returned (.tuple #[.int .i64 T, .int .i64 0]) ∧ Fr no w w'))
    (HK : Hid (∀ w, Calls Try.prog 22 #[.agg (frA x), .int .i64 li, .int .i64 di] w fun e w' => e = .returned (.tuple #[.agg (frA a), .int .i64 0]) ∧ Fr no w w'))
    (HU : Hid (∀ w, Calls Try.prog 14 #[.agg (frA a)] w fun e w' => e = .returned (.tuple #[.int .i64 832, .int .i64 0]) ∧ Fr no w w'))
    (HN : Hid (∀ w, Calls Try.prog 24 #[.agg (frA x), .agg (frA a)] w fun e w' => e = .returned (.bool true) ∧ Fr no w w'))
    (HO : Hid (∀ w, Calls Try.prog 26 #[.agg (frA a), .int .i64 x.s] w fun e w' => e = .returned (.bool true) ∧ Fr no w w'))
    (HP : Hid (∀ w, Calls Try.prog 26 #[.agg (frA x), .int .i64 a.s] w fun e w' => e = .returned (.bool true) ∧ Fr no w w')) :
    Calls Try.prog 10 #[.agg (frA x), .int .i64 li, .int .i64 di] w fun e w' => e = .returned (.bool true) ∧ Fr no w w' := by
  have HAW := Lib.hid awake_any
  have h3 : ¬ T < 192 := by omega
  have h4 : 3220 + T + 1000 + 832 < 10000 := by omega
  obtain ⟨k, s, t, l, q, f, n, e, sl, r, ep, d⟩ := x
  obtain ⟨k1, s1, t1, l1, q1, f1, n1, e1, sl1, r1, ep1, d1⟩ := a
  simp only at hd
  have hd1 : ¬ (300 : Int) < (d.size : Int) := by omega
  clear hd
  simp only [frA] at HT HK HU HN HO HP ⊢
  obtain ⟨w0, hW⟩ : ∃ w0, w0 = w.alloc (.cells #[.int .i64 k, .int .i64 s, .int .i64 t, .int .i64 l, .int .i64 q, .int .i64 f, .int .i64 n, .int .i64 e, .int .i64 sl, .int .i64 r, .int .i64 ep, .string d] 23 (0, 0)) := ⟨_, rfl⟩
  have hBc : w0.heap[w.heap.size]? = some (.cells #[.int .i64 k, .int .i64 s, .int .i64 t, .int .i64 l, .int .i64 q, .int .i64 f, .int .i64 n, .int .i64 e, .int .i64 sl, .int .i64 r, .int .i64 ep, .string d] 23 (0, 0)) := by rw [hW]; exact heap_alloc_new w _
  have Hc0 := Lib.hid hBc
  have HF0 := Lib.hid (show Fr no w w0 by rw [hW]; exact (Fr.refl no w).alloc _)
  have HW := Lib.hid hW
  obtain ⟨c0, c1, c2, c3, c4, c5, c6, c7, c8, c9, c10, c11⟩ := twelve_cells Hc0.out
  clear hW hBc
  go_enter Try.func10, Try.ntmps10
  go_wp2_with fail
  rw [← HW.out]
  go_wp2_with fail
  refine (HAW.out _).mono ?_
  rintro e1 w1 ⟨rfl, f1⟩
  have HF1 := Lib.hid (HF0.out.noTrans f1)
  have Hc1 := Lib.hid (f1.blk Hc0.out (fun h => h))
  clear f1
  clear c0 c1 c2 c3 c4 c5 c6 c7 c8 c9 c10 c11
  obtain ⟨c0, c1, c2, c3, c4, c5, c6, c7, c8, c9, c10, c11⟩ := twelve_cells Hc1.out
  go_wp2_with fail
  refine (HT.out _).mono ?_
  rintro e2 w2 ⟨rfl, f2⟩
  have HF2 := Lib.hid (HF1.out.noTrans f2)
  have Hc2 := Lib.hid (f2.blk Hc1.out (fun h => h))
  clear f2
  clear c0 c1 c2 c3 c4 c5 c6 c7 c8 c9 c10 c11
  obtain ⟨c0, c1, c2, c3, c4, c5, c6, c7, c8, c9, c10, c11⟩ := twelve_cells Hc2.out
  go_wp2_with fail
  refine (HK.out _).mono ?_
  rintro e3 w3 ⟨rfl, f3⟩
  have HF3 := Lib.hid (HF2.out.noTrans f3)
  have Hc3 := Lib.hid (f3.blk Hc2.out (fun h => h))
  clear f3
  clear c0 c1 c2 c3 c4 c5 c6 c7 c8 c9 c10 c11
  obtain ⟨c0, c1, c2, c3, c4, c5, c6, c7, c8, c9, c10, c11⟩ := twelve_cells Hc3.out
  go_wp2_with fail
  obtain ⟨w4, hW4⟩ : ∃ w4, w4 = w3.alloc (.cells #[.int .i64 k1, .int .i64 s1, .int .i64 t1, .int .i64 l1, .int .i64 q1, .int .i64 f1, .int .i64 n1, .int .i64 e1, .int .i64 sl1, .int .i64 r1, .int .i64 ep1, .string d1] 23 (0, 0)) := ⟨_, rfl⟩
  have HF4 := Lib.hid (show Fr no w w4 by rw [hW4]; exact HF3.out.alloc _)
  have Hc4 := Lib.hid (show w4.heap[w.heap.size]? = some (.cells #[.int .i64 k, .int .i64 s, .int .i64 t, .int .i64 l, .int .i64 q, .int .i64 f, .int .i64 n, .int .i64 e, .int .i64 sl, .int .i64 r, .int .i64 ep, .string d] 23 (0, 0)) by rw [hW4]; exact alloc_keeps Hc3.out _)
  have Ha4 := Lib.hid (show w4.heap[w3.heap.size]? = some (.cells #[.int .i64 k1, .int .i64 s1, .int .i64 t1, .int .i64 l1, .int .i64 q1, .int .i64 f1, .int .i64 n1, .int .i64 e1, .int .i64 sl1, .int .i64 r1, .int .i64 ep1, .string d1] 23 (0, 0)) by rw [hW4]; exact heap_alloc_new _ _)
  rw [← hW4]
  clear hW4
  clear c0 c1 c2 c3 c4 c5 c6 c7 c8 c9 c10 c11
  obtain ⟨c0, c1, c2, c3, c4, c5, c6, c7, c8, c9, c10, c11⟩ := twelve_cells Hc4.out
  obtain ⟨a0, a1, a2, a3, a4, a5, a6, a7, a8, a9, a10, a11⟩ := twelve_cells Ha4.out
  go_wp2_with fail
  refine (HU.out _).mono ?_
  rintro e5 w5 ⟨rfl, f5⟩
  have HF5 := Lib.hid (HF4.out.noTrans f5)
  have Hc5 := Lib.hid (f5.blk Hc4.out (fun h => h))
  have Ha5 := Lib.hid (f5.blk Ha4.out (fun h => h))
  clear f5
  clear c0 c1 c2 c3 c4 c5 c6 c7 c8 c9 c10 c11 a0 a1 a2 a3 a4 a5 a6 a7 a8 a9 a10 a11
  obtain ⟨c0, c1, c2, c3, c4, c5, c6, c7, c8, c9, c10, c11⟩ := twelve_cells Hc5.out
  obtain ⟨a0, a1, a2, a3, a4, a5, a6, a7, a8, a9, a10, a11⟩ := twelve_cells Ha5.out
  go_wp2_with fail
  refine (HN.out _).mono ?_
  rintro e6 w6 ⟨rfl, f6⟩
  have HF6 := Lib.hid (HF5.out.noTrans f6)
  have Hc6 := Lib.hid (f6.blk Hc5.out (fun h => h))
  have Ha6 := Lib.hid (f6.blk Ha5.out (fun h => h))
  clear f6
  clear c0 c1 c2 c3 c4 c5 c6 c7 c8 c9 c10 c11 a0 a1 a2 a3 a4 a5 a6 a7 a8 a9 a10 a11
  obtain ⟨c0, c1, c2, c3, c4, c5, c6, c7, c8, c9, c10, c11⟩ := twelve_cells Hc6.out
  obtain ⟨a0, a1, a2, a3, a4, a5, a6, a7, a8, a9, a10, a11⟩ := twelve_cells Ha6.out
  go_wp2_with fail
  refine (HO.out _).mono ?_
  rintro e7 w7 ⟨rfl, f7⟩
  have HF7 := Lib.hid (HF6.out.noTrans f7)
  have Hc7 := Lib.hid (f7.blk Hc6.out (fun h => h))
  have Ha7 := Lib.hid (f7.blk Ha6.out (fun h => h))
  clear f7
  clear c0 c1 c2 c3 c4 c5 c6 c7 c8 c9 c10 c11 a0 a1 a2 a3 a4 a5 a6 a7 a8 a9 a10 a11
  obtain ⟨c0, c1, c2, c3, c4, c5, c6, c7, c8, c9, c10, c11⟩ := twelve_cells Hc7.out
  obtain ⟨a0, a1, a2, a3, a4, a5, a6, a7, a8, a9, a10, a11⟩ := twelve_cells Ha7.out
  go_wp2_with fail
  refine (HP.out _).mono ?_
  rintro e8 w8 ⟨rfl, f8⟩
  have HF8 := Lib.hid (HF7.out.noTrans f8)
  have Hc8 := Lib.hid (f8.blk Hc7.out (fun h => h))
  have Ha8 := Lib.hid (f8.blk Ha7.out (fun h => h))
  clear f8
  clear c0 c1 c2 c3 c4 c5 c6 c7 c8 c9 c10 c11 a0 a1 a2 a3 a4 a5 a6 a7 a8 a9 a10 a11
  obtain ⟨c0, c1, c2, c3, c4, c5, c6, c7, c8, c9, c10, c11⟩ := twelve_cells Hc8.out
  obtain ⟨a0, a1, a2, a3, a4, a5, a6, a7, a8, a9, a10, a11⟩ := twelve_cells Ha8.out
  go_wp2_with fail
  go_ret
  exact ⟨rfl, HF8.out⟩
theorem tm_bounds (x : Frm) (h : enE x = 0) : 192 ≤ tmV x ∧ tmV x ≤ 4256 := by
  have := enV_small x
  unfold tmV
  rw [if_pos h]
  split <;> omega
theorem times_law (x : Frm) (li di : Int) (w : World) : Calls Try.prog 10 #[.agg (frA x), .int .i64 li, .int .i64 di] w fun e w' => e = .returned (.bool true) ∧ Fr no w w' := by
  by_cases hd : 300 < x.d.size
  · exact times_big x li di w hd
  by_cases hE : enE x = 0
  · obtain ⟨b1, b2⟩ := tm_bounds x hE
    by_cases hA : acE x li di = 0
    · obtain ⟨a1, a2, a3, a4, a5⟩ := acE_0 hA
      have ho := ak_ok a1 a2 a3 a4
      obtain ⟨u1, u2⟩ := ack_enc ho rfl
      obtain ⟨t1, t2⟩ := anB_t a2
      obtain ⟨p0, p1, p2, p3, p4, p5, p6, p7, p8, p9, p10⟩ := okF_parts a1
      obtain ⟨q1, q2, q3, q4⟩ := adB_parts p2
      have hT := fun w => time_any x w (by omega) (enV_small x)
      rw [hE] at hT
      have hK := fun w => ack_any x li di w
      rw [a5, hA] at hK
      have hU := fun w => time_any (akF x li di) w (by show (0 : Nat) ≤ _; omega) (enV_small _)
      have ht : tmV (akF x li di) = 832 := by unfold tmV; rw [if_pos u1]; rfl
      rw [ht, u1] at hU
      have hN := fun w => answers_any x (akF x li di) w
      have hn : nsB x (akF x li di) = true := by
        have e1 : (akF x li di).l = li := rfl
        have e2 : (akF x li di).e = di := rfl
        unfold nsB
        rw [e1, e2, hA, a5, eqF_refl]
        rfl
      rw [hn] at hN
      have hO := fun w => for_any (akF x li di) x.s w
      have ho2 : foB (akF x li di) x.s = true := by
        have hne : ¬ (akF x li di).t = -1 := by show ¬ x.s = -1; omega
        simp only [foB, ho, inR_t.2 q1, if_neg hne, Bool.and_self, if_true]
        show (x.s == x.s) = true
        simp
      rw [ho2] at hO
      have hP := fun w => for_any x (akF x li di).s w
      have hp2 : foB x (akF x li di).s = true := by
        have e1 : (akF x li di).s = x.t := rfl
        rw [e1]
        simp only [foB, a1, inR_t.2 (show 0 ≤ x.t ∧ x.t ≤ 31 by omega), if_neg t1, Bool.and_self, if_true]
        simp
      rw [hp2] at hP
      exact times_ok x (akF x li di) li di _ w hd b1 b2 (Lib.hid hT) (Lib.hid hK) (Lib.hid hU) (Lib.hid hN) (Lib.hid hO) (Lib.hid hP)
    · exact times_nak x li di w hd hE hA b1
  · exact times_err x li di w hd hE
end Go.Proofs.Ytelpdihaonoedaa
