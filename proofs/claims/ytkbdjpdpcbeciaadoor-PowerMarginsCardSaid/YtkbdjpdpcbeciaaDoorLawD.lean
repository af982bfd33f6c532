/- The law of margins. -/
import Derived.Test.YtkbdjpdpcbeciaaDoorLawC
namespace Go.Proofs.YtkbdjpdpcbeciaaDoor
open Go.RowKit

set_option maxHeartbeats 4000000 in
theorem margins_big (s t o : Int) (ao : Option Addr) (len cap : Nat) (w : World) (hd : Dec w) (hl : 64 < len) :
    Calls Tryd.prog 8 #[.agg #[.int .i64 s, .int .i64 t, .int .i64 o, .slice ao len cap]] w fun e w' => e = .returned (.bool true) ∧ Below w.heap.size w w' := by
  have hlI : (64 : Int) < (len : Int) := by omega
  have f0 := (Fr.refl no w).alloc (.cells #[.int .i64 s, .int .i64 t, .int .i64 o, .slice ao len cap] 30 (0, 0))
  have HW := Lib.hid f0
  have HD := Lib.hid (hd.kept f0 (fun h => h))
  clear f0 hd hl
  go_enter Tryd.func8, Tryd.ntmps8
  go_wp2_with fail
  refine (awake_any _ HD.out).mono ?_
  rintro e w1 ⟨rfl, f1⟩
  have hb := f1.blk (heap_alloc_new w _) (fun h => h)
  obtain ⟨c0, c1, c2, c3⟩ := four_cells hb
  have HF1 := Lib.hid (HW.out.noTrans f1)
  clear f1 hb
  go_wp2_with fail
  go_ret
  exact ⟨rfl, HF1.out.belowNone (Nat.le_refl _)⟩
set_option maxHeartbeats 8000000 in
theorem margins_err (s t o : Int) (ao : Option Addr) (len cap : Nat) (zs : List Int) (w : World) (hd : Dec w) (hl : len ≤ 64) (hz : IntsIn w ao len zs)
    (r : Int) (b : Bool) (hr : ¬ r = 0) (H21 : ∀ (ao' : Option Addr) (cap' : Nat) (w : World), IntsIn w ao' len zs → Calls Tryd.prog 21 #[.int .i64 s, .int .i64 t, .int .i64 o, .slice ao' len cap'] w fun e w' => e = .returned (.tuple #[.bool b, .int .i64 r]) ∧ w' = w) :
    Calls Tryd.prog 8 #[.agg #[.int .i64 s, .int .i64 t, .int .i64 o, .slice ao len cap]] w fun e w' => e = .returned (.bool true) ∧ Below w.heap.size w w' := by
  have K21 := Lib.hid H21
  have hr' : (r == 0) = false := by rw [beq_eq_false_iff_ne]; exact hr
  clear H21
  have f0 := (Fr.refl no w).alloc (.cells #[.int .i64 s, .int .i64 t, .int .i64 o, .slice ao len cap] 30 (0, 0))
  have HW := Lib.hid f0
  have HD := Lib.hid (hd.kept f0 (fun h => h))
  have HZ := Lib.hid hz
  have HL := Lib.hid (show len ≤ 1000 by omega)
  have hlI : (len : Int) ≤ 64 := by omega
  clear f0 hd hl hz
  go_enter Tryd.func8, Tryd.ntmps8
  go_wp2_with fail
  refine (awake_any _ HD.out).mono ?_
  rintro e w1 ⟨rfl, f1⟩
  have hb := f1.blk (heap_alloc_new w _) (fun h => h)
  obtain ⟨c0, c1, c2, c3⟩ := four_cells hb
  have HF1 := Lib.hid (HW.out.noTrans f1)
  clear f1 hb
  have HS : ∀ w0 w' : World, Fr no w0 w' → w0.cell? ⟨w.heap.size, 0, none⟩ = some (.int .i64 s) → w0.cell? ⟨w.heap.size, 1, none⟩ = some (.int .i64 t) → w0.cell? ⟨w.heap.size, 2, none⟩ = some (.int .i64 o) → w0.cell? ⟨w.heap.size, 3, none⟩ = some (.slice ao len cap) →
      w'.cell? ⟨w.heap.size, 0, none⟩ = some (.int .i64 s) ∧ w'.cell? ⟨w.heap.size, 1, none⟩ = some (.int .i64 t) ∧ w'.cell? ⟨w.heap.size, 2, none⟩ = some (.int .i64 o) ∧ w'.cell? ⟨w.heap.size, 3, none⟩ = some (.slice ao len cap) :=
    fun w0 w' h a b c d => ⟨(h.cell (World.block_lt_of_cell? w0 _ a) (fun h => h)).trans a, (h.cell (World.block_lt_of_cell? w0 _ b) (fun h => h)).trans b, (h.cell (World.block_lt_of_cell? w0 _ c) (fun h => h)).trans c, (h.cell (World.block_lt_of_cell? w0 _ d) (fun h => h)).trans d⟩
  have KS := Lib.hid HS
  clear HS
  go_wp2_with fail
  go_region_held3 (fun w' => w'.cell? ⟨w.heap.size, 0, none⟩ = some (.int .i64 s) ∧ w'.cell? ⟨w.heap.size, 1, none⟩ = some (.int .i64 t) ∧ w'.cell? ⟨w.heap.size, 2, none⟩ = some (.int .i64 o) ∧ w'.cell? ⟨w.heap.size, 3, none⟩ = some (.slice ao len cap)) (go_keep)
    (first
      | (go_at_call 19; refine (clone_any ao len cap zs _ (HZ.out.kept HF1.out.drew) HL.out).mono ?_; rintro e w3 ⟨a3, k3, rfl, z3, f3⟩; obtain ⟨e0, e1, e2, e3⟩ := KS.out _ _ f3 (by assumption) (by assumption) (by assumption) (by assumption))
      | (go_at_call 21; refine (K21.out a3 k3 _ z3).mono ?_; rintro e w4 ⟨rfl, rfl⟩))
  have HF4 := Lib.hid (HF1.out.drew.noTrans f3)
  clear f3 z3 c0 c1 c2 c3
  go_wp2_with fail
  go_ret
  exact ⟨rfl, HF4.out.belowNone (Nat.le_refl _)⟩
set_option maxHeartbeats 8000000 in
theorem margins_yes (s t o : Int) (ao : Option Addr) (len cap : Nat) (zs : List Int) (w : World) (hd : Dec w) (hl : len ≤ 64) (hz : IntsIn w ao len zs)
    (S m l : Int) (hm : -1 ≤ m) (h1 : S ≤ m) (h2 : l ≤ s) (H21 : ∀ (ao' : Option Addr) (cap' : Nat) (w : World), IntsIn w ao' len zs → Calls Tryd.prog 21 #[.int .i64 s, .int .i64 t, .int .i64 o, .slice ao' len cap'] w fun e w' => e = .returned (.tuple #[.bool true, .int .i64 0]) ∧ w' = w) (H18 : ∀ (ao' : Option Addr) (cap' : Nat) (w : World), IntsIn w ao' len zs → Calls Tryd.prog 18 #[.slice ao' len cap'] w fun e w' => e = .returned (.tuple #[.int .i64 S, .int .i64 0]) ∧ w' = w) (H23 : ∀ w : World, Calls Tryd.prog 23 #[.int .i64 s, .int .i64 t, .int .i64 o] w fun e w' => e = .returned (.tuple #[.int .i64 m, .int .i64 0]) ∧ w' = w) (H25 : ∀ w : World, Calls Tryd.prog 25 #[.int .i64 t, .int .i64 o, .int .i64 S] w fun e w' => e = .returned (.tuple #[.int .i64 l, .int .i64 0]) ∧ w' = w) :
    Calls Tryd.prog 8 #[.agg #[.int .i64 s, .int .i64 t, .int .i64 o, .slice ao len cap]] w fun e w' => e = .returned (.bool true) ∧ Below w.heap.size w w' := by
  have K21 := Lib.hid H21
  have K18 := Lib.hid H18
  have K23 := Lib.hid H23
  have K25 := Lib.hid H25
  clear H21 H18 H23 H25
  have f0 := (Fr.refl no w).alloc (.cells #[.int .i64 s, .int .i64 t, .int .i64 o, .slice ao len cap] 30 (0, 0))
  have HW := Lib.hid f0
  have HD := Lib.hid (hd.kept f0 (fun h => h))
  have HZ := Lib.hid hz
  have HL := Lib.hid (show len ≤ 1000 by omega)
  have hlI : (len : Int) ≤ 64 := by omega
  clear f0 hd hl hz
  go_enter Tryd.func8, Tryd.ntmps8
  go_wp2_with fail
  refine (awake_any _ HD.out).mono ?_
  rintro e w1 ⟨rfl, f1⟩
  have hb := f1.blk (heap_alloc_new w _) (fun h => h)
  obtain ⟨c0, c1, c2, c3⟩ := four_cells hb
  have HF1 := Lib.hid (HW.out.noTrans f1)
  clear f1 hb
  have HS : ∀ w0 w' : World, Fr no w0 w' → w0.cell? ⟨w.heap.size, 0, none⟩ = some (.int .i64 s) → w0.cell? ⟨w.heap.size, 1, none⟩ = some (.int .i64 t) → w0.cell? ⟨w.heap.size, 2, none⟩ = some (.int .i64 o) → w0.cell? ⟨w.heap.size, 3, none⟩ = some (.slice ao len cap) →
      w'.cell? ⟨w.heap.size, 0, none⟩ = some (.int .i64 s) ∧ w'.cell? ⟨w.heap.size, 1, none⟩ = some (.int .i64 t) ∧ w'.cell? ⟨w.heap.size, 2, none⟩ = some (.int .i64 o) ∧ w'.cell? ⟨w.heap.size, 3, none⟩ = some (.slice ao len cap) :=
    fun w0 w' h a b c d => ⟨(h.cell (World.block_lt_of_cell? w0 _ a) (fun h => h)).trans a, (h.cell (World.block_lt_of_cell? w0 _ b) (fun h => h)).trans b, (h.cell (World.block_lt_of_cell? w0 _ c) (fun h => h)).trans c, (h.cell (World.block_lt_of_cell? w0 _ d) (fun h => h)).trans d⟩
  have KS := Lib.hid HS
  clear HS
  go_wp2_with fail
  go_region_held3 (fun w' => w'.cell? ⟨w.heap.size, 0, none⟩ = some (.int .i64 s) ∧ w'.cell? ⟨w.heap.size, 1, none⟩ = some (.int .i64 t) ∧ w'.cell? ⟨w.heap.size, 2, none⟩ = some (.int .i64 o) ∧ w'.cell? ⟨w.heap.size, 3, none⟩ = some (.slice ao len cap)) (go_keep)
    (first
      | (go_at_call 19; refine (clone_any ao len cap zs _ (HZ.out.kept HF1.out.drew) HL.out).mono ?_; rintro e w3 ⟨a3, k3, rfl, z3, f3⟩; obtain ⟨e0, e1, e2, e3⟩ := KS.out _ _ f3 (by assumption) (by assumption) (by assumption) (by assumption))
      | (go_at_call 21; refine (K21.out a3 k3 _ z3).mono ?_; rintro e w4 ⟨rfl, rfl⟩))
  have HF4 := Lib.hid (HF1.out.drew.noTrans f3)
  clear f3 z3 c0 c1 c2 c3
  go_wp2_with fail
  refine (clone_any ao len cap zs _ (HZ.out.kept HF4.out) HL.out).mono ?_
  rintro e w5 ⟨a5, k5, rfl, z5, f5⟩
  obtain ⟨g0, g1, g2, g3⟩ := KS.out _ _ f5 (by assumption) (by assumption) (by assumption) (by assumption)
  have HF5 := Lib.hid (HF4.out.noTrans f5)
  have HZ5 := Lib.hid z5
  clear f5 z5 e0 e1 e2 e3
  go_wp2_with fail
  refine (K18.out a5 k5 _ HZ5.out).mono ?_
  rintro e w' ⟨rfl, rfl⟩
  go_wp2_with fail
  refine (K23.out _).mono ?_
  rintro e w' ⟨rfl, rfl⟩
  go_wp2_with fail
  refine (K25.out _).mono ?_
  rintro e w' ⟨rfl, rfl⟩
  go_wp2_with fail
  go_ret
  exact ⟨rfl, HF5.out.belowNone (Nat.le_refl _)⟩
set_option maxHeartbeats 8000000 in
theorem margins_no (s t o : Int) (ao : Option Addr) (len cap : Nat) (zs : List Int) (w : World) (hd : Dec w) (hl : len ≤ 64) (hz : IntsIn w ao len zs)
    (S m l : Int) (hm : -1 ≤ m) (h1 : m < S) (h2 : s < l) (H21 : ∀ (ao' : Option Addr) (cap' : Nat) (w : World), IntsIn w ao' len zs → Calls Tryd.prog 21 #[.int .i64 s, .int .i64 t, .int .i64 o, .slice ao' len cap'] w fun e w' => e = .returned (.tuple #[.bool false, .int .i64 0]) ∧ w' = w) (H18 : ∀ (ao' : Option Addr) (cap' : Nat) (w : World), IntsIn w ao' len zs → Calls Tryd.prog 18 #[.slice ao' len cap'] w fun e w' => e = .returned (.tuple #[.int .i64 S, .int .i64 0]) ∧ w' = w) (H23 : ∀ w : World, Calls Tryd.prog 23 #[.int .i64 s, .int .i64 t, .int .i64 o] w fun e w' => e = .returned (.tuple #[.int .i64 m, .int .i64 0]) ∧ w' = w) (H25 : ∀ w : World, Calls Tryd.prog 25 #[.int .i64 t, .int .i64 o, .int .i64 S] w fun e w' => e = .returned (.tuple #[.int .i64 l, .int .i64 0]) ∧ w' = w) :
    Calls Tryd.prog 8 #[.agg #[.int .i64 s, .int .i64 t, .int .i64 o, .slice ao len cap]] w fun e w' => e = .returned (.bool true) ∧ Below w.heap.size w w' := by
  have hx : decide (l ≤ s) = false := decide_eq_false (by omega)
  have K21 := Lib.hid H21
  have K18 := Lib.hid H18
  have K23 := Lib.hid H23
  have K25 := Lib.hid H25
  clear H21 H18 H23 H25
  have f0 := (Fr.refl no w).alloc (.cells #[.int .i64 s, .int .i64 t, .int .i64 o, .slice ao len cap] 30 (0, 0))
  have HW := Lib.hid f0
  have HD := Lib.hid (hd.kept f0 (fun h => h))
  have HZ := Lib.hid hz
  have HL := Lib.hid (show len ≤ 1000 by omega)
  have hlI : (len : Int) ≤ 64 := by omega
  clear f0 hd hl hz
  go_enter Tryd.func8, Tryd.ntmps8
  go_wp2_with fail
  refine (awake_any _ HD.out).mono ?_
  rintro e w1 ⟨rfl, f1⟩
  have hb := f1.blk (heap_alloc_new w _) (fun h => h)
  obtain ⟨c0, c1, c2, c3⟩ := four_cells hb
  have HF1 := Lib.hid (HW.out.noTrans f1)
  clear f1 hb
  have HS : ∀ w0 w' : World, Fr no w0 w' → w0.cell? ⟨w.heap.size, 0, none⟩ = some (.int .i64 s) → w0.cell? ⟨w.heap.size, 1, none⟩ = some (.int .i64 t) → w0.cell? ⟨w.heap.size, 2, none⟩ = some (.int .i64 o) → w0.cell? ⟨w.heap.size, 3, none⟩ = some (.slice ao len cap) →
      w'.cell? ⟨w.heap.size, 0, none⟩ = some (.int .i64 s) ∧ w'.cell? ⟨w.heap.size, 1, none⟩ = some (.int .i64 t) ∧ w'.cell? ⟨w.heap.size, 2, none⟩ = some (.int .i64 o) ∧ w'.cell? ⟨w.heap.size, 3, none⟩ = some (.slice ao len cap) :=
    fun w0 w' h a b c d => ⟨(h.cell (World.block_lt_of_cell? w0 _ a) (fun h => h)).trans a, (h.cell (World.block_lt_of_cell? w0 _ b) (fun h => h)).trans b, (h.cell (World.block_lt_of_cell? w0 _ c) (fun h => h)).trans c, (h.cell (World.block_lt_of_cell? w0 _ d) (fun h => h)).trans d⟩
  have KS := Lib.hid HS
  clear HS
  go_wp2_with fail
  go_region_held3 (fun w' => w'.cell? ⟨w.heap.size, 0, none⟩ = some (.int .i64 s) ∧ w'.cell? ⟨w.heap.size, 1, none⟩ = some (.int .i64 t) ∧ w'.cell? ⟨w.heap.size, 2, none⟩ = some (.int .i64 o) ∧ w'.cell? ⟨w.heap.size, 3, none⟩ = some (.slice ao len cap)) (go_keep)
    (first
      | (go_at_call 19; refine (clone_any ao len cap zs _ (HZ.out.kept HF1.out.drew) HL.out).mono ?_; rintro e w3 ⟨a3, k3, rfl, z3, f3⟩; obtain ⟨e0, e1, e2, e3⟩ := KS.out _ _ f3 (by assumption) (by assumption) (by assumption) (by assumption))
      | (go_at_call 21; refine (K21.out a3 k3 _ z3).mono ?_; rintro e w4 ⟨rfl, rfl⟩))
  have HF4 := Lib.hid (HF1.out.drew.noTrans f3)
  clear f3 z3 c0 c1 c2 c3
  go_wp2_with fail
  refine (clone_any ao len cap zs _ (HZ.out.kept HF4.out) HL.out).mono ?_
  rintro e w5 ⟨a5, k5, rfl, z5, f5⟩
  obtain ⟨g0, g1, g2, g3⟩ := KS.out _ _ f5 (by assumption) (by assumption) (by assumption) (by assumption)
  have HF5 := Lib.hid (HF4.out.noTrans f5)
  have HZ5 := Lib.hid z5
  clear f5 z5 e0 e1 e2 e3
  go_wp2_with fail
  refine (K18.out a5 k5 _ HZ5.out).mono ?_
  rintro e w' ⟨rfl, rfl⟩
  go_wp2_with fail
  refine (K23.out _).mono ?_
  rintro e w' ⟨rfl, rfl⟩
  go_wp2_with fail
  refine (K25.out _).mono ?_
  rintro e w' ⟨rfl, rfl⟩
  go_wp2_with fail
  go_ret
  exact ⟨rfl, HF5.out.belowNone (Nat.le_refl _)⟩
set_option maxHeartbeats 8000000 in
theorem margins_huge (s t o : Int) (ao : Option Addr) (len cap : Nat) (zs : List Int) (w : World) (hd : Dec w) (hl : len ≤ 64) (hz : IntsIn w ao len zs)
    (S m l : Int) (hm : -1 ≤ m) (h1 : m < S) (H21 : ∀ (ao' : Option Addr) (cap' : Nat) (w : World), IntsIn w ao' len zs → Calls Tryd.prog 21 #[.int .i64 s, .int .i64 t, .int .i64 o, .slice ao' len cap'] w fun e w' => e = .returned (.tuple #[.bool false, .int .i64 0]) ∧ w' = w) (H18 : ∀ (ao' : Option Addr) (cap' : Nat) (w : World), IntsIn w ao' len zs → Calls Tryd.prog 18 #[.slice ao' len cap'] w fun e w' => e = .returned (.tuple #[.int .i64 S, .int .i64 0]) ∧ w' = w) (H23 : ∀ w : World, Calls Tryd.prog 23 #[.int .i64 s, .int .i64 t, .int .i64 o] w fun e w' => e = .returned (.tuple #[.int .i64 m, .int .i64 0]) ∧ w' = w) (H25 : ∀ w : World, Calls Tryd.prog 25 #[.int .i64 t, .int .i64 o, .int .i64 S] w fun e w' => e = .returned (.tuple #[.int .i64 0, .int .i64 8]) ∧ w' = w) :
    Calls Tryd.prog 8 #[.agg #[.int .i64 s, .int .i64 t, .int .i64 o, .slice ao len cap]] w fun e w' => e = .returned (.bool true) ∧ Below w.heap.size w w' := by
  have K21 := Lib.hid H21
  have K18 := Lib.hid H18
  have K23 := Lib.hid H23
  have K25 := Lib.hid H25
  clear H21 H18 H23 H25
  have f0 := (Fr.refl no w).alloc (.cells #[.int .i64 s, .int .i64 t, .int .i64 o, .slice ao len cap] 30 (0, 0))
  have HW := Lib.hid f0
  have HD := Lib.hid (hd.kept f0 (fun h => h))
  have HZ := Lib.hid hz
  have HL := Lib.hid (show len ≤ 1000 by omega)
  have hlI : (len : Int) ≤ 64 := by omega
  clear f0 hd hl hz
  go_enter Tryd.func8, Tryd.ntmps8
  go_wp2_with fail
  refine (awake_any _ HD.out).mono ?_
  rintro e w1 ⟨rfl, f1⟩
  have hb := f1.blk (heap_alloc_new w _) (fun h => h)
  obtain ⟨c0, c1, c2, c3⟩ := four_cells hb
  have HF1 := Lib.hid (HW.out.noTrans f1)
  clear f1 hb
  have HS : ∀ w0 w' : World, Fr no w0 w' → w0.cell? ⟨w.heap.size, 0, none⟩ = some (.int .i64 s) → w0.cell? ⟨w.heap.size, 1, none⟩ = some (.int .i64 t) → w0.cell? ⟨w.heap.size, 2, none⟩ = some (.int .i64 o) → w0.cell? ⟨w.heap.size, 3, none⟩ = some (.slice ao len cap) →
      w'.cell? ⟨w.heap.size, 0, none⟩ = some (.int .i64 s) ∧ w'.cell? ⟨w.heap.size, 1, none⟩ = some (.int .i64 t) ∧ w'.cell? ⟨w.heap.size, 2, none⟩ = some (.int .i64 o) ∧ w'.cell? ⟨w.heap.size, 3, none⟩ = some (.slice ao len cap) :=
    fun w0 w' h a b c d => ⟨(h.cell (World.block_lt_of_cell? w0 _ a) (fun h => h)).trans a, (h.cell (World.block_lt_of_cell? w0 _ b) (fun h => h)).trans b, (h.cell (World.block_lt_of_cell? w0 _ c) (fun h => h)).trans c, (h.cell (World.block_lt_of_cell? w0 _ d) (fun h => h)).trans d⟩
  have KS := Lib.hid HS
  clear HS
  go_wp2_with fail
  go_region_held3 (fun w' => w'.cell? ⟨w.heap.size, 0, none⟩ = some (.int .i64 s) ∧ w'.cell? ⟨w.heap.size, 1, none⟩ = some (.int .i64 t) ∧ w'.cell? ⟨w.heap.size, 2, none⟩ = some (.int .i64 o) ∧ w'.cell? ⟨w.heap.size, 3, none⟩ = some (.slice ao len cap)) (go_keep)
    (first
      | (go_at_call 19; refine (clone_any ao len cap zs _ (HZ.out.kept HF1.out.drew) HL.out).mono ?_; rintro e w3 ⟨a3, k3, rfl, z3, f3⟩; obtain ⟨e0, e1, e2, e3⟩ := KS.out _ _ f3 (by assumption) (by assumption) (by assumption) (by assumption))
      | (go_at_call 21; refine (K21.out a3 k3 _ z3).mono ?_; rintro e w4 ⟨rfl, rfl⟩))
  have HF4 := Lib.hid (HF1.out.drew.noTrans f3)
  clear f3 z3 c0 c1 c2 c3
  go_wp2_with fail
  refine (clone_any ao len cap zs _ (HZ.out.kept HF4.out) HL.out).mono ?_
  rintro e w5 ⟨a5, k5, rfl, z5, f5⟩
  obtain ⟨g0, g1, g2, g3⟩ := KS.out _ _ f5 (by assumption) (by assumption) (by assumption) (by assumption)
  have HF5 := Lib.hid (HF4.out.noTrans f5)
  have HZ5 := Lib.hid z5
  clear f5 z5 e0 e1 e2 e3
  go_wp2_with fail
  refine (K18.out a5 k5 _ HZ5.out).mono ?_
  rintro e w' ⟨rfl, rfl⟩
  go_wp2_with fail
  refine (K23.out _).mono ?_
  rintro e w' ⟨rfl, rfl⟩
  go_wp2_with fail
  refine (K25.out _).mono ?_
  rintro e w' ⟨rfl, rfl⟩
  go_wp2_with fail
  go_ret
  exact ⟨rfl, HF5.out.belowNone (Nat.le_refl _)⟩
theorem margins_law (s t o : Int) (ao : Option Addr) (len cap : Nat) (zs : List Int) (w : World) (hd : Dec w) (hz : IntsIn w ao len zs) :
    Calls Tryd.prog 8 #[.agg #[.int .i64 s, .int .i64 t, .int .i64 o, .slice ao len cap]] w fun e w' => e = .returned (.bool true) ∧ Below w.heap.size w w' := by
  by_cases hl : 64 < len
  · exact margins_big s t o ao len cap w hd hl
  have H21 := fun (ao' : Option Addr) (cap' : Nat) (w : World) (h : IntsIn w ao' len zs) => received_any s t o ao' len cap' zs w h
  have H18 := fun (ao' : Option Addr) (cap' : Nat) (w : World) (h : IntsIn w ao' len zs) => sum_any ao' len cap' zs w h
  by_cases he : rcE s t o zs = 0
  case neg => exact margins_err s t o ao len cap zs w hd (by omega) hz _ _ he H21
  have hpr : isP s = true ∧ isR t o = true := by
    by_cases h : isP s = true ∧ isR t o = true
    · exact h
    · rw [rcE, if_neg h] at he; cases he
  have hsm : smE zs = 0 := by rw [rcE, if_pos hpr] at he; exact he
  obtain ⟨h1, h2⟩ := hpr
  obtain ⟨s0, s1⟩ := isP_t.1 h1
  obtain ⟨⟨t0, t1⟩, o0, o1⟩ := isR_t.1 h2
  rcases smE_cases zs with ⟨_, hl2, ha, ev⟩ | ⟨e0, _⟩ | ⟨e0, _⟩
  case inr.inl => rw [e0] at hsm; cases hsm
  case inr.inr => rw [e0] at hsm; cases hsm
  have hb := sum_bound zs ha
  rw [he] at H21
  rw [hsm, ev] at H18
  have H23 := margin_any s t o
  rw [show mgE s t o = 0 by rw [mgE, if_pos ⟨h1, h2⟩], show mgV s t o = max (-1) (1000 * s / t - o) by rw [mgV, if_pos ⟨h1, h2⟩]] at H23
  have H25 := least_any t o (sumZ zs)
  have hi : inR (sumZ zs) 0 4398046511104 = true := inR_t.2 ⟨hb.1, by rw [MX] at hb; omega⟩
  have hdec : rcB s t o zs = decide (t * (o + sumZ zs) ≤ 1000 * s) := by simp [rcB, h1, h2, hsm]
  rw [hdec] at H21
  rw [MX] at s1 o1 hb
  generalize sumZ zs = S at *
  -- received exactly if the interference is at most the margin
  have hq : t * (o + S) ≤ 1000 * s ↔ o + S ≤ 1000 * s / t := by
    rw [Int.le_ediv_iff_mul_le (by omega), Int.mul_comm]
  have hl1 : lsN t o S = (t * (o + S) + 999) / 1000 := rfl
  have hll : t * (o + S) ≤ 1000 * s ↔ lsN t o S ≤ s := by rw [hl1]; omega
  have hq0 : 0 ≤ 1000 * s / t := Int.ediv_nonneg (by omega) (by omega)
  have hc : isR t o = true ∧ inR S 0 4398046511104 = true := ⟨h2, hi⟩
  rw [lsV, lsE, if_pos hc, if_pos hc] at H25
  by_cases hy : t * (o + S) ≤ 1000 * s
  · rw [decide_eq_true hy] at H21
    have hlm : lsN t o S ≤ MX := by rw [MX]; have := hll.1 hy; omega
    rw [if_pos hlm, if_pos hlm] at H25
    exact margins_yes s t o ao len cap zs w hd (by omega) hz S _ _ (by omega) (by have := hq.1 hy; omega) (hll.1 hy) H21 H18 H23 H25
  · rw [decide_eq_false hy] at H21
    have hm : max (-1) (1000 * s / t - o) < S := by have := mt hq.2 hy; omega
    by_cases hlm : lsN t o S ≤ MX
    · rw [if_pos hlm, if_pos hlm] at H25
      exact margins_no s t o ao len cap zs w hd (by omega) hz S _ _ (by omega) hm (by have := mt hll.2 hy; omega) H21 H18 H23 H25
    · rw [if_neg hlm, if_neg hlm] at H25
      exact margins_huge s t o ao len cap zs w hd (by omega) hz S _ 0 (by omega) hm H21 H18 H23 H25
end Go.Proofs.YtkbdjpdpcbeciaaDoor
