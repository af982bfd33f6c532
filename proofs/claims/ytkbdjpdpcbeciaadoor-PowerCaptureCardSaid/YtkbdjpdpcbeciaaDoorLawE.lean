/- The law of capture. -/
import Derived.Test.YtkbdjpdpcbeciaaDoorLawC
namespace Go.Proofs.YtkbdjpdpcbeciaaDoor
open Go.RowKit

theorem one_int (w : World) (x : Int) : IntsIn (w.alloc (.cells #[.int .i64 x] 3 (0, 0))) (some ⟨w.heap.size, 0, none⟩) 1 [x] :=
  ⟨rfl, fun i hi => ⟨w.heap.size, 0, rfl, by
    obtain rfl : i = 0 := by omega
    simp only [World.cell?, heap_alloc_new w _]
    rfl⟩⟩
set_option maxHeartbeats 8000000 in
theorem capture_tf (a b t o e f : Int) (w : World) (hd : Dec w)
    (H1 : ∀ (ao' : Option Addr) (cap' : Nat) (w : World), IntsIn w ao' 1 [b] → Calls Tryd.prog 21 #[.int .i64 a, .int .i64 t, .int .i64 o, .slice ao' 1 cap'] w fun e' w' => e' = .returned (.tuple #[.bool true, .int .i64 0]) ∧ w' = w)
    (H2 : ∀ (ao' : Option Addr) (cap' : Nat) (w : World), IntsIn w ao' 1 [a] → Calls Tryd.prog 21 #[.int .i64 b, .int .i64 t, .int .i64 o, .slice ao' 1 cap'] w fun e' w' => e' = .returned (.tuple #[.bool false, .int .i64 f]) ∧ w' = w) :
    Calls Tryd.prog 9 #[.int .i64 a, .int .i64 b, .agg #[.int .i64 t, .int .i64 o]] w fun e w' => e = .returned (.bool true) ∧ Below w.heap.size w w' := by
  have K1 := Lib.hid H1
  have K2 := Lib.hid H2
  have f0 := (Fr.refl no w).alloc (.cells #[.int .i64 t, .int .i64 o] 45 (0, 0))
  have HW := Lib.hid f0
  have HD := Lib.hid (hd.kept f0 (fun h => h))
  clear f0 hd H1 H2
  go_enter Tryd.func9, Tryd.ntmps9
  go_wp2_with fail
  refine (awake_any _ HD.out).mono ?_
  rintro e w1 ⟨rfl, f1⟩
  have hb := f1.blk (heap_alloc_new w _) (fun h => h)
  have HB := Lib.hid hb
  have c0 : w1.cell? ⟨w.heap.size, 0, none⟩ = some (.int .i64 t) := by simp [World.cell?, hb]
  have c1 : w1.cell? ⟨w.heap.size, 1, none⟩ = some (.int .i64 o) := by simp [World.cell?, hb]
  have HF1 := Lib.hid (HW.out.noTrans f1)
  clear f1 hb
  go_wp2_with fail
  refine (K1.out _ _ _ (one_int w1 b)).mono ?_
  rintro e' w' ⟨rfl, rfl⟩
  have hb2 := alloc_keeps HB.out (.cells #[.int .i64 b] 3 (0, 0))
  have HF2 := Lib.hid (HF1.out.alloc (.cells #[.int .i64 b] 3 (0, 0)))
  clear c0 c1
  generalize w1.alloc (.cells #[.int .i64 b] 3 (0, 0)) = w2 at *
  have c0 : w2.cell? ⟨w.heap.size, 0, none⟩ = some (.int .i64 t) := by simp [World.cell?, hb2]
  have c1 : w2.cell? ⟨w.heap.size, 1, none⟩ = some (.int .i64 o) := by simp [World.cell?, hb2]
  clear hb2
  go_wp2_with fail
  refine (K2.out _ _ _ (one_int w2 a)).mono ?_
  rintro e' w' ⟨rfl, rfl⟩
  have HF3 := Lib.hid (HF2.out.alloc (.cells #[.int .i64 a] 3 (0, 0)))
  clear c0 c1
  generalize w2.alloc (.cells #[.int .i64 a] 3 (0, 0)) = w3 at *
  go_wp2_with fail
  all_goals
    go_ret
    exact ⟨rfl, HF3.out.belowNone (Nat.le_refl _)⟩
set_option maxHeartbeats 8000000 in
theorem capture_ff (a b t o e f : Int) (w : World) (hd : Dec w)
    (H1 : ∀ (ao' : Option Addr) (cap' : Nat) (w : World), IntsIn w ao' 1 [b] → Calls Tryd.prog 21 #[.int .i64 a, .int .i64 t, .int .i64 o, .slice ao' 1 cap'] w fun e' w' => e' = .returned (.tuple #[.bool false, .int .i64 e]) ∧ w' = w)
    (H2 : ∀ (ao' : Option Addr) (cap' : Nat) (w : World), IntsIn w ao' 1 [a] → Calls Tryd.prog 21 #[.int .i64 b, .int .i64 t, .int .i64 o, .slice ao' 1 cap'] w fun e' w' => e' = .returned (.tuple #[.bool false, .int .i64 f]) ∧ w' = w) :
    Calls Tryd.prog 9 #[.int .i64 a, .int .i64 b, .agg #[.int .i64 t, .int .i64 o]] w fun e w' => e = .returned (.bool true) ∧ Below w.heap.size w w' := by
  have K1 := Lib.hid H1
  have K2 := Lib.hid H2
  have f0 := (Fr.refl no w).alloc (.cells #[.int .i64 t, .int .i64 o] 45 (0, 0))
  have HW := Lib.hid f0
  have HD := Lib.hid (hd.kept f0 (fun h => h))
  clear f0 hd H1 H2
  go_enter Tryd.func9, Tryd.ntmps9
  go_wp2_with fail
  refine (awake_any _ HD.out).mono ?_
  rintro e w1 ⟨rfl, f1⟩
  have hb := f1.blk (heap_alloc_new w _) (fun h => h)
  have HB := Lib.hid hb
  have c0 : w1.cell? ⟨w.heap.size, 0, none⟩ = some (.int .i64 t) := by simp [World.cell?, hb]
  have c1 : w1.cell? ⟨w.heap.size, 1, none⟩ = some (.int .i64 o) := by simp [World.cell?, hb]
  have HF1 := Lib.hid (HW.out.noTrans f1)
  clear f1 hb
  go_wp2_with fail
  refine (K1.out _ _ _ (one_int w1 b)).mono ?_
  rintro e' w' ⟨rfl, rfl⟩
  have hb2 := alloc_keeps HB.out (.cells #[.int .i64 b] 3 (0, 0))
  have HF2 := Lib.hid (HF1.out.alloc (.cells #[.int .i64 b] 3 (0, 0)))
  clear c0 c1
  generalize w1.alloc (.cells #[.int .i64 b] 3 (0, 0)) = w2 at *
  have c0 : w2.cell? ⟨w.heap.size, 0, none⟩ = some (.int .i64 t) := by simp [World.cell?, hb2]
  have c1 : w2.cell? ⟨w.heap.size, 1, none⟩ = some (.int .i64 o) := by simp [World.cell?, hb2]
  clear hb2
  go_wp2_with fail
  refine (K2.out _ _ _ (one_int w2 a)).mono ?_
  rintro e' w' ⟨rfl, rfl⟩
  have HF3 := Lib.hid (HF2.out.alloc (.cells #[.int .i64 a] 3 (0, 0)))
  clear c0 c1
  generalize w2.alloc (.cells #[.int .i64 a] 3 (0, 0)) = w3 at *
  go_wp2_with fail
  all_goals
    go_ret
    exact ⟨rfl, HF3.out.belowNone (Nat.le_refl _)⟩
set_option maxHeartbeats 8000000 in
theorem capture_ft (a b t o e f : Int) (w : World) (hd : Dec w)
    (H1 : ∀ (ao' : Option Addr) (cap' : Nat) (w : World), IntsIn w ao' 1 [b] → Calls Tryd.prog 21 #[.int .i64 a, .int .i64 t, .int .i64 o, .slice ao' 1 cap'] w fun e' w' => e' = .returned (.tuple #[.bool false, .int .i64 e]) ∧ w' = w)
    (H2 : ∀ (ao' : Option Addr) (cap' : Nat) (w : World), IntsIn w ao' 1 [a] → Calls Tryd.prog 21 #[.int .i64 b, .int .i64 t, .int .i64 o, .slice ao' 1 cap'] w fun e' w' => e' = .returned (.tuple #[.bool true, .int .i64 0]) ∧ w' = w) :
    Calls Tryd.prog 9 #[.int .i64 a, .int .i64 b, .agg #[.int .i64 t, .int .i64 o]] w fun e w' => e = .returned (.bool true) ∧ Below w.heap.size w w' := by
  have K1 := Lib.hid H1
  have K2 := Lib.hid H2
  have f0 := (Fr.refl no w).alloc (.cells #[.int .i64 t, .int .i64 o] 45 (0, 0))
  have HW := Lib.hid f0
  have HD := Lib.hid (hd.kept f0 (fun h => h))
  clear f0 hd H1 H2
  go_enter Tryd.func9, Tryd.ntmps9
  go_wp2_with fail
  refine (awake_any _ HD.out).mono ?_
  rintro e w1 ⟨rfl, f1⟩
  have hb := f1.blk (heap_alloc_new w _) (fun h => h)
  have HB := Lib.hid hb
  have c0 : w1.cell? ⟨w.heap.size, 0, none⟩ = some (.int .i64 t) := by simp [World.cell?, hb]
  have c1 : w1.cell? ⟨w.heap.size, 1, none⟩ = some (.int .i64 o) := by simp [World.cell?, hb]
  have HF1 := Lib.hid (HW.out.noTrans f1)
  clear f1 hb
  go_wp2_with fail
  refine (K1.out _ _ _ (one_int w1 b)).mono ?_
  rintro e' w' ⟨rfl, rfl⟩
  have hb2 := alloc_keeps HB.out (.cells #[.int .i64 b] 3 (0, 0))
  have HF2 := Lib.hid (HF1.out.alloc (.cells #[.int .i64 b] 3 (0, 0)))
  clear c0 c1
  generalize w1.alloc (.cells #[.int .i64 b] 3 (0, 0)) = w2 at *
  have c0 : w2.cell? ⟨w.heap.size, 0, none⟩ = some (.int .i64 t) := by simp [World.cell?, hb2]
  have c1 : w2.cell? ⟨w.heap.size, 1, none⟩ = some (.int .i64 o) := by simp [World.cell?, hb2]
  clear hb2
  go_wp2_with fail
  refine (K2.out _ _ _ (one_int w2 a)).mono ?_
  rintro e' w' ⟨rfl, rfl⟩
  have HF3 := Lib.hid (HF2.out.alloc (.cells #[.int .i64 a] 3 (0, 0)))
  clear c0 c1
  generalize w2.alloc (.cells #[.int .i64 a] 3 (0, 0)) = w3 at *
  go_wp2_with fail
  all_goals
    go_ret
    exact ⟨rfl, HF3.out.belowNone (Nat.le_refl _)⟩
theorem rcB_one (s t o x : Int) (h : rcB s t o [x] = true) : rcE s t o [x] = 0 ∧ 1000 ≤ t ∧ 1 ≤ o ∧ 0 ≤ s ∧ 0 ≤ x ∧ t * (o + x) ≤ 1000 * s := by
  simp only [rcB, Bool.and_eq_true, beq_iff_eq, decide_eq_true_eq] at h
  obtain ⟨⟨⟨h1, h2⟩, h3⟩, h4⟩ := h
  have hx : allP [x] = true := by
    rcases smE_cases [x] with ⟨_, _, ha, _⟩ | ⟨e0, _⟩ | ⟨e0, _⟩
    · exact ha
    · rw [e0] at h3; cases h3
    · rw [e0] at h3; cases h3
  have hpx : isP x = true := by simpa [allP] using hx
  refine ⟨by rw [rcE, if_pos ⟨h1, h2⟩]; exact h3, (isR_t.1 h2).1.1, (isR_t.1 h2).2.1, (isP_t.1 h1).1, (isP_t.1 hpx).1, ?_⟩
  simpa [sumZ] using h4
theorem capture_not (a b t o : Int) (h1 : rcB a t o [b] = true) (h2 : rcB b t o [a] = true) : False := by
  obtain ⟨_, t0, o0, a0, b0, k1⟩ := rcB_one a t o b h1
  obtain ⟨_, _, _, _, _, k2⟩ := rcB_one b t o a h2
  have m1 : 1000 * (o + b) ≤ t * (o + b) := Int.mul_le_mul_of_nonneg_right t0 (by omega)
  have m2 : 1000 * (o + a) ≤ t * (o + a) := Int.mul_le_mul_of_nonneg_right t0 (by omega)
  omega
theorem capture_law (a b t o : Int) (w : World) (hd : Dec w) :
    Calls Tryd.prog 9 #[.int .i64 a, .int .i64 b, .agg #[.int .i64 t, .int .i64 o]] w fun e w' => e = .returned (.bool true) ∧ Below w.heap.size w w' := by
  have H1 := fun (ao' : Option Addr) (cap' : Nat) (w : World) (h : IntsIn w ao' 1 [b]) => received_any a t o ao' 1 cap' [b] w h
  have H2 := fun (ao' : Option Addr) (cap' : Nat) (w : World) (h : IntsIn w ao' 1 [a]) => received_any b t o ao' 1 cap' [a] w h
  cases hx : rcB a t o [b]
  · rw [hx] at H1
    cases hy : rcB b t o [a]
    · rw [hy] at H2
      exact capture_ff a b t o _ _ w hd H1 H2
    · rw [hy, (rcB_one b t o a hy).1] at H2
      exact capture_ft a b t o _ 0 w hd H1 H2
  · cases hy : rcB b t o [a]
    · rw [hx, (rcB_one a t o b hx).1] at H1
      rw [hy] at H2
      exact capture_tf a b t o 0 _ w hd H1 H2
    · exact absurd (capture_not a b t o hx hy) id
end Go.Proofs.YtkbdjpdpcbeciaaDoor
