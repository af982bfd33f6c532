/- FrameBack and FrameStrict: the laws. -/
import Derived.Test.YtelpdihaonoedaaMst
import Derived.Test.YtelpdihaonoedaaAns
namespace Go.Proofs.Ytelpdihaonoedaa
open Go.RowKit
set_option linter.unusedVariables false
set_option maxRecDepth 20000

theorem fback_big (x : Frm) (w : World) (hd : 300 < x.d.size) : Calls Try.prog 6 #[.agg (frA x)] w fun e w' => e = .returned (.bool true) ∧ Fr no w w' := by
  have HAW := Lib.hid awake_any
  obtain ⟨k, s, t, l, q, f, n, e, sl, r, ep, d⟩ := x
  simp only at hd
  have hd1 : (300 : Int) < (d.size : Int) := by omega
  clear hd
  simp only [frA]
  obtain ⟨w0, hW⟩ : ∃ w0, w0 = w.alloc (.cells #[.int .i64 k, .int .i64 s, .int .i64 t, .int .i64 l, .int .i64 q, .int .i64 f, .int .i64 n, .int .i64 e, .int .i64 sl, .int .i64 r, .int .i64 ep, .string d] 23 (0, 0)) := ⟨_, rfl⟩
  have hBc : w0.heap[w.heap.size]? = some (.cells #[.int .i64 k, .int .i64 s, .int .i64 t, .int .i64 l, .int .i64 q, .int .i64 f, .int .i64 n, .int .i64 e, .int .i64 sl, .int .i64 r, .int .i64 ep, .string d] 23 (0, 0)) := by rw [hW]; exact heap_alloc_new w _
  have Hc0 := Lib.hid hBc
  have HF0 := Lib.hid (show Fr no w w0 by rw [hW]; exact (Fr.refl no w).alloc _)
  have HW := Lib.hid hW
  obtain ⟨c0, c1, c2, c3, c4, c5, c6, c7, c8, c9, c10, c11⟩ := twelve_cells Hc0.out
  clear hW hBc
  go_enter Try.func6, Try.ntmps6
  go_wp2_with fail
  rw [← HW.out]
  go_wp2_with fail
  refine (HAW.out _).mono ?_
  rintro e1 w1 ⟨rfl, f1⟩
  have HF1 := Lib.hid (HF0.out.noTrans f1)
  have Hc1 := Lib.hid (f1.blk Hc0.out (fun h => h))
  clear f1
  clear c0 c1 c2 c3 c4 c5 c6 c7 c8 c9 c10 c11
  obtain ⟨c0, c1, c2, c3, c4, c5, c6, c7, c8, c9, c10, c11⟩ := twelve_cells Hc1.out
  go_wp2_with fail
  go_ret
  exact ⟨rfl, HF1.out⟩
theorem fback_err (x : Frm) (w : World) (hd : ¬ 300 < x.d.size) (hE : enE x ≠ 0) : Calls Try.prog 6 #[.agg (frA x)] w fun e w' => e = .returned (.bool true) ∧ Fr no w w' := by
  have HAW := Lib.hid awake_any
  have HT := Lib.hid (fun w => encode_any x w (by omega))
  have HK := Lib.hid (fun w => check_frame x w)
  obtain ⟨v1, v2⟩ := enE_n hE
  rw [v1] at HT
  have hE1 : (enE x != 0) = true := by simp [hE]
  clear v1 hE
  generalize enE x = E at *
  generalize okF x = b at *
  obtain ⟨k, s, t, l, q, f, n, e, sl, r, ep, d⟩ := x
  simp only at hd
  have hd1 : ¬ (300 : Int) < (d.size : Int) := by omega
  clear hd
  simp only [frA] at HT HK ⊢
  cases b
  · have hE3 : E = 1 := by simpa using v2
    subst hE3
    clear v2
    obtain ⟨w0, hW⟩ : ∃ w0, w0 = w.alloc (.cells #[.int .i64 k, .int .i64 s, .int .i64 t, .int .i64 l, .int .i64 q, .int .i64 f, .int .i64 n, .int .i64 e, .int .i64 sl, .int .i64 r, .int .i64 ep, .string d] 23 (0, 0)) := ⟨_, rfl⟩
    have hBc : w0.heap[w.heap.size]? = some (.cells #[.int .i64 k, .int .i64 s, .int .i64 t, .int .i64 l, .int .i64 q, .int .i64 f, .int .i64 n, .int .i64 e, .int .i64 sl, .int .i64 r, .int .i64 ep, .string d] 23 (0, 0)) := by rw [hW]; exact heap_alloc_new w _
    have Hc0 := Lib.hid hBc
    have HF0 := Lib.hid (show Fr no w w0 by rw [hW]; exact (Fr.refl no w).alloc _)
    have HW := Lib.hid hW
    obtain ⟨c0, c1, c2, c3, c4, c5, c6, c7, c8, c9, c10, c11⟩ := twelve_cells Hc0.out
    clear hW hBc
    go_enter Try.func6, Try.ntmps6
    go_wp2_with fail
    rw [← HW.out]
    go_wp2_with fail
    refine (HAW.out _).mono ?_
    rintro e1 w1 ⟨rfl, f1⟩
    have HF1 := Lib.hid (HF0.out.noTrans f1)
    have Hc1 := Lib.hid (f1.blk Hc0.out (fun h => h))
    clear f1
    clear c0 c1 c2 c3 c4 c5 c6 c7 c8 c9 c10 c11
    obtain ⟨c0, c1, c2, c3, c4, c5, c6, c7, c8, c9, c10, c11⟩ := twelve_cells Hc1.out
    go_wp2_with fail
    refine (HT.out _).mono ?_
    rintro e2 w2 ⟨rfl, f2⟩
    have HF2 := Lib.hid (HF1.out.noTrans f2)
    have Hc2 := Lib.hid (f2.blk Hc1.out (fun h => h))
    clear f2
    clear c0 c1 c2 c3 c4 c5 c6 c7 c8 c9 c10 c11
    obtain ⟨c0, c1, c2, c3, c4, c5, c6, c7, c8, c9, c10, c11⟩ := twelve_cells Hc2.out
    go_wp2_with fail
    refine (HK.out _).mono ?_
    rintro e3 w3 ⟨rfl, f3⟩
    have HF3 := Lib.hid (HF2.out.noTrans f3)
    have Hc3 := Lib.hid (f3.blk Hc2.out (fun h => h))
    clear f3
    clear c0 c1 c2 c3 c4 c5 c6 c7 c8 c9 c10 c11
    obtain ⟨c0, c1, c2, c3, c4, c5, c6, c7, c8, c9, c10, c11⟩ := twelve_cells Hc3.out
    go_wp2_with fail
    go_ret
    exact ⟨rfl, HF3.out⟩
  · have hE3 : (E == 1) = false := by simpa using v2
    clear v2
    obtain ⟨w0, hW⟩ : ∃ w0, w0 = w.alloc (.cells #[.int .i64 k, .int .i64 s, .int .i64 t, .int .i64 l, .int .i64 q, .int .i64 f, .int .i64 n, .int .i64 e, .int .i64 sl, .int .i64 r, .int .i64 ep, .string d] 23 (0, 0)) := ⟨_, rfl⟩
    have hBc : w0.heap[w.heap.size]? = some (.cells #[.int .i64 k, .int .i64 s, .int .i64 t, .int .i64 l, .int .i64 q, .int .i64 f, .int .i64 n, .int .i64 e, .int .i64 sl, .int .i64 r, .int .i64 ep, .string d] 23 (0, 0)) := by rw [hW]; exact heap_alloc_new w _
    have Hc0 := Lib.hid hBc
    have HF0 := Lib.hid (show Fr no w w0 by rw [hW]; exact (Fr.refl no w).alloc _)
    have HW := Lib.hid hW
    obtain ⟨c0, c1, c2, c3, c4, c5, c6, c7, c8, c9, c10, c11⟩ := twelve_cells Hc0.out
    clear hW hBc
    go_enter Try.func6, Try.ntmps6
    go_wp2_with fail
    rw [← HW.out]
    go_wp2_with fail
    refine (HAW.out _).mono ?_
    rintro e1 w1 ⟨rfl, f1⟩
    have HF1 := Lib.hid (HF0.out.noTrans f1)
    have Hc1 := Lib.hid (f1.blk Hc0.out (fun h => h))
    clear f1
    clear c0 c1 c2 c3 c4 c5 c6 c7 c8 c9 c10 c11
    obtain ⟨c0, c1, c2, c3, c4, c5, c6, c7, c8, c9, c10, c11⟩ := twelve_cells Hc1.out
    go_wp2_with fail
    refine (HT.out _).mono ?_
    rintro e2 w2 ⟨rfl, f2⟩
    have HF2 := Lib.hid (HF1.out.noTrans f2)
    have Hc2 := Lib.hid (f2.blk Hc1.out (fun h => h))
    clear f2
    clear c0 c1 c2 c3 c4 c5 c6 c7 c8 c9 c10 c11
    obtain ⟨c0, c1, c2, c3, c4, c5, c6, c7, c8, c9, c10, c11⟩ := twelve_cells Hc2.out
    go_wp2_with fail
    refine (HK.out _).mono ?_
    rintro e3 w3 ⟨rfl, f3⟩
    have HF3 := Lib.hid (HF2.out.noTrans f3)
    have Hc3 := Lib.hid (f3.blk Hc2.out (fun h => h))
    clear f3
    clear c0 c1 c2 c3 c4 c5 c6 c7 c8 c9 c10 c11
    obtain ⟨c0, c1, c2, c3, c4, c5, c6, c7, c8, c9, c10, c11⟩ := twelve_cells Hc3.out
    go_wp2_with fail
    go_ret
    exact ⟨rfl, HF3.out⟩
theorem fback_ok (x : Frm) (V : ByteArray) (w : World) (hd : ¬ 300 < x.d.size) (hV : V.size ≤ 127)
    (HT : Hid (∀ w, Calls Try.prog 12 #[.agg (frA x)] w fun e w' => e = .returned (.tuple #[.string V, .int .i64 0]) ∧ Fr no w w'))
    (HK : Hid (∀ w, Calls Try.prog 18 #[.agg (frA x)] w fun e w' => e = .returned (.int .i64 0) ∧ Fr no w w'))
    (HD : Hid (∀ w, Calls Try.prog 20 #[.string V] w fun e w' => e = .returned (.tuple #[.agg (frA x), .int .i64 0]) ∧ Fr no w w')) :
    Calls Try.prog 6 #[.agg (frA x)] w fun e w' => e = .returned (.bool true) ∧ Fr no w w' := by
  have HAW := Lib.hid awake_any
  have hV1 : (V.size : Int) ≤ 127 := by omega
  have hz := fun w => eql_frame x x w
  simp only [eqF_refl] at hz
  clear hV
  obtain ⟨k, s, t, l, q, f, n, e, sl, r, ep, d⟩ := x
  simp only at hd
  have hd1 : ¬ (300 : Int) < (d.size : Int) := by omega
  clear hd
  simp only [frA] at HT HK HD hz ⊢
  obtain ⟨w0, hW⟩ : ∃ w0, w0 = w.alloc (.cells #[.int .i64 k, .int .i64 s, .int .i64 t, .int .i64 l, .int .i64 q, .int .i64 f, .int .i64 n, .int .i64 e, .int .i64 sl, .int .i64 r, .int .i64 ep, .string d] 23 (0, 0)) := ⟨_, rfl⟩
  have hBc : w0.heap[w.heap.size]? = some (.cells #[.int .i64 k, .int .i64 s, .int .i64 t, .int .i64 l, .int .i64 q, .int .i64 f, .int .i64 n, .int .i64 e, .int .i64 sl, .int .i64 r, .int .i64 ep, .string d] 23 (0, 0)) := by rw [hW]; exact heap_alloc_new w _
  have Hc0 := Lib.hid hBc
  have HF0 := Lib.hid (show Fr no w w0 by rw [hW]; exact (Fr.refl no w).alloc _)
  have HW := Lib.hid hW
  obtain ⟨c0, c1, c2, c3, c4, c5, c6, c7, c8, c9, c10, c11⟩ := twelve_cells Hc0.out
  clear hW hBc
  go_enter Try.func6, Try.ntmps6
  go_wp2_with fail
  rw [← HW.out]
  go_wp2_with fail
  refine (HAW.out _).mono ?_
  rintro e1 w1 ⟨rfl, f1⟩
  have HF1 := Lib.hid (HF0.out.noTrans f1)
  have Hc1 := Lib.hid (f1.blk Hc0.out (fun h => h))
  clear f1
  clear c0 c1 c2 c3 c4 c5 c6 c7 c8 c9 c10 c11
  obtain ⟨c0, c1, c2, c3, c4, c5, c6, c7, c8, c9, c10, c11⟩ := twelve_cells Hc1.out
  go_wp2_with fail
  refine (HT.out _).mono ?_
  rintro e2 w2 ⟨rfl, f2⟩
  have HF2 := Lib.hid (HF1.out.noTrans f2)
  have Hc2 := Lib.hid (f2.blk Hc1.out (fun h => h))
  clear f2
  clear c0 c1 c2 c3 c4 c5 c6 c7 c8 c9 c10 c11
  obtain ⟨c0, c1, c2, c3, c4, c5, c6, c7, c8, c9, c10, c11⟩ := twelve_cells Hc2.out
  go_wp2_with fail
  refine (HD.out _).mono ?_
  rintro e3 w3 ⟨rfl, f3⟩
  have HF3 := Lib.hid (HF2.out.noTrans f3)
  have Hc3 := Lib.hid (f3.blk Hc2.out (fun h => h))
  clear f3
  clear c0 c1 c2 c3 c4 c5 c6 c7 c8 c9 c10 c11
  obtain ⟨c0, c1, c2, c3, c4, c5, c6, c7, c8, c9, c10, c11⟩ := twelve_cells Hc3.out
  have ltc3 := World.block_lt_of_cell? w3 _ c0
  go_wp2_with fail
  obtain ⟨w4, hW4⟩ : ∃ w4, w4 = w3.alloc (.cells #[.int .i64 k, .int .i64 s, .int .i64 t, .int .i64 l, .int .i64 q, .int .i64 f, .int .i64 n, .int .i64 e, .int .i64 sl, .int .i64 r, .int .i64 ep, .string d] 23 (0, 0)) := ⟨_, rfl⟩
  have HF4 := Lib.hid (show Fr no w w4 by rw [hW4]; exact HF3.out.alloc _)
  have Hc4 := Lib.hid (show w4.heap[w.heap.size]? = some (.cells #[.int .i64 k, .int .i64 s, .int .i64 t, .int .i64 l, .int .i64 q, .int .i64 f, .int .i64 n, .int .i64 e, .int .i64 sl, .int .i64 r, .int .i64 ep, .string d] 23 (0, 0)) by rw [hW4]; exact alloc_keeps Hc3.out _)
  have Ha4 := Lib.hid (show w4.heap[w3.heap.size]? = some (.cells #[.int .i64 k, .int .i64 s, .int .i64 t, .int .i64 l, .int .i64 q, .int .i64 f, .int .i64 n, .int .i64 e, .int .i64 sl, .int .i64 r, .int .i64 ep, .string d] 23 (0, 0)) by rw [hW4]; exact heap_alloc_new _ _)
  rw [← hW4]
  clear hW4
  clear c0 c1 c2 c3 c4 c5 c6 c7 c8 c9 c10 c11
  obtain ⟨c0, c1, c2, c3, c4, c5, c6, c7, c8, c9, c10, c11⟩ := twelve_cells Hc4.out
  obtain ⟨a0, a1, a2, a3, a4, a5, a6, a7, a8, a9, a10, a11⟩ := twelve_cells Ha4.out
  go_wp2_with fail
  refine (HK.out _).mono ?_
  rintro e5 w5 ⟨rfl, f5⟩
  have HF5 := Lib.hid (HF4.out.noTrans f5)
  have Hc5 := Lib.hid (f5.blk Hc4.out (fun h => h))
  have Ha5 := Lib.hid (f5.blk Ha4.out (fun h => h))
  clear f5
  clear c0 c1 c2 c3 c4 c5 c6 c7 c8 c9 c10 c11 a0 a1 a2 a3 a4 a5 a6 a7 a8 a9 a10 a11
  obtain ⟨c0, c1, c2, c3, c4, c5, c6, c7, c8, c9, c10, c11⟩ := twelve_cells Hc5.out
  obtain ⟨a0, a1, a2, a3, a4, a5, a6, a7, a8, a9, a10, a11⟩ := twelve_cells Ha5.out
  go_wp2_with fail
  go_ret
  exact ⟨rfl, HF5.out⟩
theorem fback_law (x : Frm) (w : World) : Calls Try.prog 6 #[.agg (frA x)] w fun e w' => e = .returned (.bool true) ∧ Fr no w w' := by
  by_cases hd : 300 < x.d.size
  · exact fback_big x w hd
  by_cases hE : enE x = 0
  · obtain ⟨b1, b2⟩ := back_frame hE
    have hT := fun w => encode_any x w (by omega)
    rw [hE] at hT
    have hK := fun w => check_frame x w
    rw [(enE_0 hE).1] at hK
    have hD := fun w => decode_any (enV x) w (by have := enV_small x; omega)
    rw [b1, b2] at hD
    exact fback_ok x _ w hd (enV_small x) (Lib.hid hT) (Lib.hid hK) (Lib.hid hD)
  · exact fback_err x w hd hE
theorem fstrict_big (s : ByteArray) (w : World) (hd : 300 < s.size) : Calls Try.prog 7 #[.string s] w fun e w' => e = .returned (.bool true) ∧ Fr no w w' := by
  have HAW := Lib.hid awake_any
  have hd1 : (300 : Int) < (s.size : Int) := by omega
  clear hd
  have HF0 := Lib.hid (Fr.refl no w)
  go_enter Try.func7, Try.ntmps7
  go_wp2_with fail
  refine (HAW.out _).mono ?_
  rintro e1 w1 ⟨rfl, f1⟩
  have HF1 := Lib.hid (HF0.out.noTrans f1)
  clear f1
  go_wp2_with fail
  go_ret
  exact ⟨rfl, HF1.out⟩
theorem fstrict_err (s : ByteArray) (w : World) (hd : ¬ 300 < s.size) (hE : deE s ≠ 0) : Calls Try.prog 7 #[.string s] w fun e w' => e = .returned (.bool true) ∧ Fr no w w' := by
  have HAW := Lib.hid awake_any
  have HD := Lib.hid (fun w => decode_any s w (by omega))
  rw [deE_n hE] at HD
  have hE1 : (deE s != 0) = true := by simp [hE]
  have hd1 : ¬ (300 : Int) < (s.size : Int) := by omega
  have hz := fun w => eql_frame zeroF zeroF w
  simp only [eqF_refl] at hz
  clear hd hE
  generalize deE s = E at *
  simp only [frA, zeroF] at HD hz
  have HF0 := Lib.hid (Fr.refl no w)
  go_enter Try.func7, Try.ntmps7
  go_wp2_with fail
  refine (HAW.out _).mono ?_
  rintro e1 w1 ⟨rfl, f1⟩
  have HF1 := Lib.hid (HF0.out.noTrans f1)
  clear f1
  go_wp2_with fail
  refine (HD.out _).mono ?_
  rintro e2 w2 ⟨rfl, f2⟩
  have HF2 := Lib.hid (HF1.out.noTrans f2)
  clear f2
  go_wp2_with fail
  go_ret
  exact ⟨rfl, HF2.out.alloc _⟩
theorem fstrict_ok (s : ByteArray) (x : Frm) (w : World) (hd : ¬ 300 < s.size)
    (HD : Hid (∀ w, Calls Try.prog 20 #[.string s] w fun e w' => e = .returned (.tuple #[.agg (frA x), .int .i64 0]) ∧ Fr no w w'))
    (HT : Hid (∀ w, Calls Try.prog 12 #[.agg (frA x)] w fun e w' => e = .returned (.tuple #[.string s, .int .i64 0]) ∧ Fr no w w')) :
    Calls Try.prog 7 #[.string s] w fun e w' => e = .returned (.bool true) ∧ Fr no w w' := by
  have HAW := Lib.hid awake_any
  have hd1 : ¬ (300 : Int) < (s.size : Int) := by omega
  clear hd
  obtain ⟨k, s1, t, l, q, f, n, e, sl, r, ep, d⟩ := x
  simp only [frA] at HT HD
  have HF0 := Lib.hid (Fr.refl no w)
  go_enter Try.func7, Try.ntmps7
  go_wp2_with fail
  refine (HAW.out _).mono ?_
  rintro e1 w1 ⟨rfl, f1⟩
  have HF1 := Lib.hid (HF0.out.noTrans f1)
  clear f1
  go_wp2_with fail
  refine (HD.out _).mono ?_
  rintro e2 w2 ⟨rfl, f2⟩
  have HF2 := Lib.hid (HF1.out.noTrans f2)
  clear f2
  go_wp2_with fail
  obtain ⟨w3, hW3⟩ : ∃ w3, w3 = w2.alloc (.cells #[.int .i64 k, .int .i64 s1, .int .i64 t, .int .i64 l, .int .i64 q, .int .i64 f, .int .i64 n, .int .i64 e, .int .i64 sl, .int .i64 r, .int .i64 ep, .string d] 23 (0, 0)) := ⟨_, rfl⟩
  have HF3 := Lib.hid (show Fr no w w3 by rw [hW3]; exact HF2.out.alloc _)
  have Ha3 := Lib.hid (show w3.heap[w2.heap.size]? = some (.cells #[.int .i64 k, .int .i64 s1, .int .i64 t, .int .i64 l, .int .i64 q, .int .i64 f, .int .i64 n, .int .i64 e, .int .i64 sl, .int .i64 r, .int .i64 ep, .string d] 23 (0, 0)) by rw [hW3]; exact heap_alloc_new _ _)
  rw [← hW3]
  clear hW3
  obtain ⟨a0, a1, a2, a3, a4, a5, a6, a7, a8, a9, a10, a11⟩ := twelve_cells Ha3.out
  go_wp2_with fail
  refine (HT.out _).mono ?_
  rintro e4 w4 ⟨rfl, f4⟩
  have HF4 := Lib.hid (HF3.out.noTrans f4)
  have Ha4 := Lib.hid (f4.blk Ha3.out (fun h => h))
  clear f4
  clear a0 a1 a2 a3 a4 a5 a6 a7 a8 a9 a10 a11
  obtain ⟨a0, a1, a2, a3, a4, a5, a6, a7, a8, a9, a10, a11⟩ := twelve_cells Ha4.out
  go_wp2_with fail
  go_ret
  exact ⟨by simp, HF4.out⟩
theorem fstrict_law (s : ByteArray) (w : World) : Calls Try.prog 7 #[.string s] w fun e w' => e = .returned (.bool true) ∧ Fr no w w' := by
  by_cases hd : 300 < s.size
  · exact fstrict_big s w hd
  by_cases hE : deE s = 0
  · obtain ⟨b1, b2⟩ := strict_frame hE
    have hD := fun w => decode_any s w (by omega)
    rw [hE] at hD
    obtain ⟨c1, c2, _, _⟩ := enE_0 b2
    have hs : (deV s).d.size ≤ 1000000 := by have := en_small c1 c2; omega
    have hT := fun w => encode_any (deV s) w hs
    rw [b1, b2] at hT
    exact fstrict_ok s (deV s) w hd (Lib.hid hD) (Lib.hid hT)
  · exact fstrict_err s w hd hE
end Go.Proofs.Ytelpdihaonoedaa
