/- The law of distances: without walls a power never grows with the distance, nor shrinks with that of the sender. -/
import Derived.Test.YtljfdoabgbioiaaLawA
import Derived.BigRegion
import Derived.Deep.RegionWith
import Derived.Deep.DeepCutAuto
namespace Go.Proofs.Ytljfdoabgbioiaa
open Go.RowKit
set_option linter.unusedVariables false

theorem div_far (a m n : Int) (h0 : 0 ≤ a) (h1 : 0 < m) (h2 : m ≤ n) : a / n ≤ a / m := by
  rw [Int.le_ediv_iff_mul_le h1]
  have e1 : a / n * n ≤ a := Int.ediv_mul_le a (by omega)
  have e2 : 0 ≤ a / n := Int.ediv_nonneg h0 (by omega)
  exact Int.le_trans (Int.mul_le_mul_of_nonneg_left h2 e2) e1
theorem arM_pos (q : Int) : 0 < arM q := by unfold arM; split <;> omega
theorem arM_mono {q r : Int} (h : q ≤ r) : arM q ≤ arM r := by unfold arM; split <;> split <;> omega
theorem arB_far (e q r p : Int) (h0 : 0 ≤ p) (h : q ≤ r) : arB e r p ≤ arB e q p := by
  have h1 := arM_pos q
  have h2 := arM_mono h
  have h3 := div_far (p * 100) _ _ (by omega) h1 h2
  unfold arB
  split
  · have h4 : 0 ≤ p * 100 / arM r := Int.ediv_nonneg (by omega) (by omega)
    exact Int.le_trans (Int.ediv_le_ediv (by omega) (show p * 100 / arM r * 100 ≤ p * 100 / arM q * 100 by omega)) (div_far _ _ _ (by omega) h1 h2)
  · exact h3
theorem arB_more (e q p r : Int) (h : p ≤ r) : arB e q p ≤ arB e q r := by
  have h1 := arM_pos q
  have h2 : p * 100 / arM q ≤ r * 100 / arM q := Int.ediv_le_ediv h1 (by omega)
  unfold arB
  split
  · exact Int.ediv_le_ediv h1 (by omega)
  · exact h2
theorem arF_nil (e ax ay bx by_ p : Int) : arF e ax ay bx by_ p [] = arB e (sqF ax ay bx by_) p := rfl
theorem few_any (a0 : Option Addr) (l0 k0 : Nat) (a1 : Option Addr) (l1 k1 : Nat) (a2 : Option Addr) (l2 k2 : Nat) (e o t : Int) (w : World) :
    Calls Try.prog 17 #[.agg #[.slice a0 l0 k0, .slice a1 l1 k1, .slice a2 l2 k2, .int .i64 e, .int .i64 o, .int .i64 t]] w fun e' w' => e' = .returned (.bool (decide (l0 ≤ 40 ∧ l1 ≤ 40 ∧ l2 ≤ 40))) ∧ Fr no w w' := by
  go_enter Try.func17, Try.ntmps17
  go_wp2_with fail
  all_goals
    go_ret
    refine ⟨ret_bool ?_, (Fr.refl no w).alloc _⟩
    rw [Bool.eq_iff_iff]
    simp only [decide_eq_true_eq, Bool.false_eq_true, false_iff, Bool.and_eq_true]
    omega
theorem blt {w : World} {b o : Nat} {v : Value} (h : w.cell? ⟨b, o, none⟩ = some v) : b < w.heap.size := by
  have := World.block_lt_of_cell? w _ h
  simpa using this
theorem at_no (a0 : Option Addr) (l0 k0 : Nat) (a1 : Option Addr) (l1 k1 : Nat) (a2 : Option Addr) (l2 k2 : Nat) (e o t : Int) (ps : List Pt) (zs : List Int) (ws : List Wl) (ax ay bx by_ p : Int) (h : atB (ckB l0 l1 l2 e o t ps zs ws) ax ay bx by_ p = false) :
    ∃ E : Int, (E = 1 ∨ E = 2) ∧ (E = 1 ↔ ckB l0 l1 l2 e o t ps zs ws = false) ∧ ∀ w : World, PtsIn w a0 l0 ps → IntsIn w a1 l1 zs → WlsIn w a2 l2 ws → Calls Try.prog 18 #[.agg #[.slice a0 l0 k0, .slice a1 l1 k1, .slice a2 l2 k2, .int .i64 e, .int .i64 o, .int .i64 t], .agg #[.int .i64 ax, .int .i64 ay], .int .i64 p, .agg #[.int .i64 bx, .int .i64 by_]] w fun e' w' => e' = .returned (.tuple #[.int .i64 0, .int .i64 E]) ∧ Fr no w w' := by
  refine ⟨atE (ckB l0 l1 l2 e o t ps zs ws) ax ay bx by_ p, ?_, ?_, fun w hp hz hw => ?_⟩
  · unfold atE
    rw [h]
    split
    · simp
    · simp
  · unfold atE
    rw [h]
    cases ckB l0 l1 l2 e o t ps zs ws <;> simp
  · have := at_any a0 l0 k0 a1 l1 k1 a2 l2 k2 e o t ps zs ws ax ay bx by_ p w hp hz hw
    rwa [show atV (ckB l0 l1 l2 e o t ps zs ws) e ax ay bx by_ p ws = 0 by unfold atV; rw [h]; rfl] at this
theorem at_yes (a0 : Option Addr) (l0 k0 : Nat) (a1 : Option Addr) (l1 k1 : Nat) (a2 : Option Addr) (l2 k2 : Nat) (e o t : Int) (ps : List Pt) (zs : List Int) (ws : List Wl) (ax ay bx by_ p : Int) (h : atB (ckB l0 l1 l2 e o t ps zs ws) ax ay bx by_ p = true) :
    ∀ w : World, PtsIn w a0 l0 ps → IntsIn w a1 l1 zs → WlsIn w a2 l2 ws → Calls Try.prog 18 #[.agg #[.slice a0 l0 k0, .slice a1 l1 k1, .slice a2 l2 k2, .int .i64 e, .int .i64 o, .int .i64 t], .agg #[.int .i64 ax, .int .i64 ay], .int .i64 p, .agg #[.int .i64 bx, .int .i64 by_]] w fun e' w' => e' = .returned (.tuple #[.int .i64 (arF e ax ay bx by_ p ws), .int .i64 0]) ∧ Fr no w w' := fun w hp hz hw => by
  have := at_any a0 l0 k0 a1 l1 k1 a2 l2 k2 e o t ps zs ws ax ay bx by_ p w hp hz hw
  rwa [show atV (ckB l0 l1 l2 e o t ps zs ws) e ax ay bx by_ p ws = arF e ax ay bx by_ p ws by unfold atV; rw [h]; rfl, show atE (ckB l0 l1 l2 e o t ps zs ws) ax ay bx by_ p = 0 by unfold atE; rw [h]; cases hc : ckB l0 l1 l2 e o t ps zs ws; (· rw [hc] at h; simp [atB] at h); rfl] at this
set_option maxRecDepth 100000 in
set_option maxHeartbeats 8000000 in
theorem dist_1 (a0 : Option Addr) (l0 k0 : Nat) (a1 : Option Addr) (l1 k1 : Nat) (a2 : Option Addr) (l2 k2 : Nat) (e o t : Int) (ps : List Pt) (zs : List Int) (ws : List Wl) (ax ay bx by_ q na nb x y m : Int) (w : World) (hp : PtsIn w a0 l0 ps) (hz : IntsIn w a1 l1 zs) (E1 E2 E3 V1 V2 V3 : Int) (kk1 : ∀ w : World, PtsIn w a0 l0 ps → IntsIn w a1 l1 zs → WlsIn w none 0 [] → Calls Try.prog 18 #[.agg #[.slice a0 l0 k0, .slice a1 l1 k1, .slice none 0 0, .int .i64 e, .int .i64 o, .int .i64 t], .agg #[.int .i64 ax, .int .i64 ay], .int .i64 q, .agg #[.int .i64 bx, .int .i64 by_]] w fun e' w' => e' = .returned (.tuple #[.int .i64 V1, .int .i64 E1]) ∧ Fr no w w') (kk2 : ∀ w : World, PtsIn w a0 l0 ps → IntsIn w a1 l1 zs → WlsIn w none 0 [] → Calls Try.prog 18 #[.agg #[.slice a0 l0 k0, .slice a1 l1 k1, .slice none 0 0, .int .i64 e, .int .i64 o, .int .i64 t], .agg #[.int .i64 ax, .int .i64 ay], .int .i64 q, .agg #[.int .i64 x, .int .i64 y]] w fun e' w' => e' = .returned (.tuple #[.int .i64 V2, .int .i64 E2]) ∧ Fr no w w') (kk3 : ∀ w : World, PtsIn w a0 l0 ps → IntsIn w a1 l1 zs → WlsIn w none 0 [] → Calls Try.prog 18 #[.agg #[.slice a0 l0 k0, .slice a1 l1 k1, .slice none 0 0, .int .i64 e, .int .i64 o, .int .i64 t], .agg #[.int .i64 ax, .int .i64 ay], .int .i64 m, .agg #[.int .i64 bx, .int .i64 by_]] w fun e' w' => e' = .returned (.tuple #[.int .i64 V3, .int .i64 E3]) ∧ Fr no w w') (h1 : E1 ≠ 0) : Calls Try.prog 9 #[.agg #[.slice a0 l0 k0, .slice a1 l1 k1, .slice a2 l2 k2, .int .i64 e, .int .i64 o, .int .i64 t], .agg #[.int .i64 ax, .int .i64 ay, .int .i64 bx, .int .i64 by_, .int .i64 q, .int .i64 na, .int .i64 nb], .agg #[.int .i64 x, .int .i64 y, .int .i64 m]] w fun e' w' => e' = .returned (.bool true) ∧ Below w.heap.size w w' := by
  have hE : (E1 == 0) = false := by rw [beq_eq_false_iff_ne]; exact h1
  have hEn : (E1 != 0) = true := by rw [bne_iff_ne]; exact h1
  clear h1
  have K1 := Lib.hid kk1
  have K2 := Lib.hid kk2
  have K3 := Lib.hid kk3
  have HP := Lib.hid hp
  have HZ := Lib.hid hz
  clear kk1 kk2 kk3 hp hz
  have KS := Lib.hid (show ∀ w0 w' : World, Fr no w0 w' → w0.cell? ⟨w.heap.size + 1, 0, none⟩ = some (.int .i64 ax) → w0.cell? ⟨w.heap.size + 1, 1, none⟩ = some (.int .i64 ay) → w0.cell? ⟨w.heap.size + 1, 2, none⟩ = some (.int .i64 bx) → w0.cell? ⟨w.heap.size + 1, 3, none⟩ = some (.int .i64 by_) → w0.cell? ⟨w.heap.size + 1, 4, none⟩ = some (.int .i64 q) → w0.cell? ⟨w.heap.size + 1, 5, none⟩ = some (.int .i64 na) → w0.cell? ⟨w.heap.size + 1, 6, none⟩ = some (.int .i64 nb) → w0.cell? ⟨w.heap.size + 1 + 1, 0, none⟩ = some (.int .i64 x) → w0.cell? ⟨w.heap.size + 1 + 1, 1, none⟩ = some (.int .i64 y) → w0.cell? ⟨w.heap.size + 1 + 1, 2, none⟩ = some (.int .i64 m) → (w'.cell? ⟨w.heap.size + 1, 0, none⟩ = some (.int .i64 ax) ∧ w'.cell? ⟨w.heap.size + 1, 1, none⟩ = some (.int .i64 ay) ∧ w'.cell? ⟨w.heap.size + 1, 2, none⟩ = some (.int .i64 bx) ∧ w'.cell? ⟨w.heap.size + 1, 3, none⟩ = some (.int .i64 by_) ∧ w'.cell? ⟨w.heap.size + 1, 4, none⟩ = some (.int .i64 q) ∧ w'.cell? ⟨w.heap.size + 1, 5, none⟩ = some (.int .i64 na) ∧ w'.cell? ⟨w.heap.size + 1, 6, none⟩ = some (.int .i64 nb) ∧ w'.cell? ⟨w.heap.size + 1 + 1, 0, none⟩ = some (.int .i64 x) ∧ w'.cell? ⟨w.heap.size + 1 + 1, 1, none⟩ = some (.int .i64 y) ∧ w'.cell? ⟨w.heap.size + 1 + 1, 2, none⟩ = some (.int .i64 m)) from fun _ _ h a0 a1 a2 a3 a4 a5 a6 a7 a8 a9 => ⟨h.keepc a0, h.keepc a1, h.keepc a2, h.keepc a3, h.keepc a4, h.keepc a5, h.keepc a6, h.keepc a7, h.keepc a8, h.keepc a9⟩)
  obtain ⟨W, hW⟩ : ∃ W, W = (((w.alloc (.cells #[.slice a0 l0 k0, .slice a1 l1 k1, .slice a2 l2 k2, .int .i64 e, .int .i64 o, .int .i64 t] 34 (0, 0))).alloc (.cells #[.int .i64 ax, .int .i64 ay, .int .i64 bx, .int .i64 by_, .int .i64 q, .int .i64 na, .int .i64 nb] 36 (0, 0))).alloc (.cells #[.int .i64 x, .int .i64 y, .int .i64 m] 60 (0, 0))) := ⟨_, rfl⟩
  have HF := Lib.hid (show Fr no w W by rw [hW]; exact (((Fr.refl no w).alloc _).alloc _).alloc _)
  have c0 : W.cell? ⟨w.heap.size, 0, none⟩ = some (.slice a0 l0 k0) := by rw [hW]; go_simp
  have c1 : W.cell? ⟨w.heap.size, 1, none⟩ = some (.slice a1 l1 k1) := by rw [hW]; go_simp
  have c2 : W.cell? ⟨w.heap.size, 2, none⟩ = some (.slice a2 l2 k2) := by rw [hW]; go_simp
  have c3 : W.cell? ⟨w.heap.size, 3, none⟩ = some (.int .i64 e) := by rw [hW]; go_simp
  have c4 : W.cell? ⟨w.heap.size, 4, none⟩ = some (.int .i64 o) := by rw [hW]; go_simp
  have c5 : W.cell? ⟨w.heap.size, 5, none⟩ = some (.int .i64 t) := by rw [hW]; go_simp
  have c6 : W.cell? ⟨w.heap.size + 1, 0, none⟩ = some (.int .i64 ax) := by rw [hW]; go_simp
  have c7 : W.cell? ⟨w.heap.size + 1, 1, none⟩ = some (.int .i64 ay) := by rw [hW]; go_simp
  have c8 : W.cell? ⟨w.heap.size + 1, 2, none⟩ = some (.int .i64 bx) := by rw [hW]; go_simp
  have c9 : W.cell? ⟨w.heap.size + 1, 3, none⟩ = some (.int .i64 by_) := by rw [hW]; go_simp
  have c10 : W.cell? ⟨w.heap.size + 1, 4, none⟩ = some (.int .i64 q) := by rw [hW]; go_simp
  have c11 : W.cell? ⟨w.heap.size + 1, 5, none⟩ = some (.int .i64 na) := by rw [hW]; go_simp
  have c12 : W.cell? ⟨w.heap.size + 1, 6, none⟩ = some (.int .i64 nb) := by rw [hW]; go_simp
  have c13 : W.cell? ⟨w.heap.size + 1 + 1, 0, none⟩ = some (.int .i64 x) := by rw [hW]; go_simp
  have c14 : W.cell? ⟨w.heap.size + 1 + 1, 1, none⟩ = some (.int .i64 y) := by rw [hW]; go_simp
  have c15 : W.cell? ⟨w.heap.size + 1 + 1, 2, none⟩ = some (.int .i64 m) := by rw [hW]; go_simp
  have HW := Lib.hid hW
  clear hW
  have hb : W.heap[w.heap.size]? = some (.cells #[.slice a0 l0 k0, .slice a1 l1 k1, .slice a2 l2 k2, .int .i64 e, .int .i64 o, .int .i64 t] 34 (0, 0)) := by rw [HW.out]; exact alloc_keeps (alloc_keeps (heap_alloc_new w _) _) _
  have HB := Lib.hid hb
  clear hb c0 c1 c2 c3 c4 c5
  have g0 := c6
  have g1 := c7
  have g2 := c8
  have g3 := c9
  have g4 := c10
  have g5 := c11
  have g6 := c12
  have g7 := c13
  have g8 := c14
  have g9 := c15
  clear c6 c7 c8 c9 c10 c11 c12 c13 c14 c15
  go_enter Try.func9, Try.ntmps9
  go_wp2_with fail
  rw [← HW.out]
  refine (awake_any _).mono ?_
  rintro e y1 ⟨rfl, f1⟩
  obtain ⟨d1_0, d1_1, d1_2, d1_3, d1_4, d1_5, d1_6, d1_7, d1_8, d1_9⟩ := KS.out _ _ f1 g0 g1 g2 g3 g4 g5 g6 g7 g8 g9
  have HF1 := Lib.hid (HF.out.noTrans f1)
  clear g0 g1 g2 g3 g4 g5 g6 g7 g8 g9
  go_wp2_with fail
  have HB1 := Lib.hid (f1.blk HB.out (fun h => h))
  clear f1
  have r2 := blt d1_9
  have ks2 : ∀ w0 w' : World, Fr no w0 w' → w0.cell? ⟨w.heap.size + 1, 0, none⟩ = some (.int .i64 ax) → w0.cell? ⟨w.heap.size + 1, 1, none⟩ = some (.int .i64 ay) → w0.cell? ⟨w.heap.size + 1, 2, none⟩ = some (.int .i64 bx) → w0.cell? ⟨w.heap.size + 1, 3, none⟩ = some (.int .i64 by_) → w0.cell? ⟨w.heap.size + 1, 4, none⟩ = some (.int .i64 q) → w0.cell? ⟨w.heap.size + 1, 5, none⟩ = some (.int .i64 na) → w0.cell? ⟨w.heap.size + 1, 6, none⟩ = some (.int .i64 nb) → w0.cell? ⟨w.heap.size + 1 + 1, 0, none⟩ = some (.int .i64 x) → w0.cell? ⟨w.heap.size + 1 + 1, 1, none⟩ = some (.int .i64 y) → w0.cell? ⟨w.heap.size + 1 + 1, 2, none⟩ = some (.int .i64 m) → w0.cell? ⟨y1.heap.size, 0, none⟩ = some (.int .i64 x) → w0.cell? ⟨y1.heap.size, 1, none⟩ = some (.int .i64 y) → (w'.cell? ⟨w.heap.size + 1, 0, none⟩ = some (.int .i64 ax) ∧ w'.cell? ⟨w.heap.size + 1, 1, none⟩ = some (.int .i64 ay) ∧ w'.cell? ⟨w.heap.size + 1, 2, none⟩ = some (.int .i64 bx) ∧ w'.cell? ⟨w.heap.size + 1, 3, none⟩ = some (.int .i64 by_) ∧ w'.cell? ⟨w.heap.size + 1, 4, none⟩ = some (.int .i64 q) ∧ w'.cell? ⟨w.heap.size + 1, 5, none⟩ = some (.int .i64 na) ∧ w'.cell? ⟨w.heap.size + 1, 6, none⟩ = some (.int .i64 nb) ∧ w'.cell? ⟨w.heap.size + 1 + 1, 0, none⟩ = some (.int .i64 x) ∧ w'.cell? ⟨w.heap.size + 1 + 1, 1, none⟩ = some (.int .i64 y) ∧ w'.cell? ⟨w.heap.size + 1 + 1, 2, none⟩ = some (.int .i64 m) ∧ w'.cell? ⟨y1.heap.size, 0, none⟩ = some (.int .i64 x) ∧ w'.cell? ⟨y1.heap.size, 1, none⟩ = some (.int .i64 y)) := fun _ _ h a0 a1 a2 a3 a4 a5 a6 a7 a8 a9 a10 a11 => ⟨h.keepc a0, h.keepc a1, h.keepc a2, h.keepc a3, h.keepc a4, h.keepc a5, h.keepc a6, h.keepc a7, h.keepc a8, h.keepc a9, h.keepc a10, h.keepc a11⟩
  have KT := Lib.hid ks2
  clear ks2
  go_region
  obtain ⟨Y2, hY2⟩ : ∃ Y, Y = (y1.alloc (.cells #[.int .i64 x, .int .i64 y] 23 (0, 0))).drew := ⟨_, rfl⟩
  have F2 : Fr no y1 Y2 := by rw [hY2]; exact ((Fr.refl no y1).alloc _).drew
  have g0 := F2.keepc d1_0
  have g1 := F2.keepc d1_1
  have g2 := F2.keepc d1_2
  have g3 := F2.keepc d1_3
  have g4 := F2.keepc d1_4
  have g5 := F2.keepc d1_5
  have g6 := F2.keepc d1_6
  have g7 := F2.keepc d1_7
  have g8 := F2.keepc d1_8
  have g9 := F2.keepc d1_9
  have g10 : Y2.cell? ⟨y1.heap.size, 0, none⟩ = some (.int .i64 x) := by rw [hY2]; go_simp
  have g11 : Y2.cell? ⟨y1.heap.size, 1, none⟩ = some (.int .i64 y) := by rw [hY2]; go_simp
  have HB2 := Lib.hid (F2.blk HB1.out (fun h => h))
  have HY2 := Lib.hid hY2
  have HF2 := Lib.hid (HF1.out.noTrans F2)
  clear F2 hY2 r2 d1_0 d1_1 d1_2 d1_3 d1_4 d1_5 d1_6 d1_7 d1_8 d1_9
  rw [← HY2.out]
  obtain ⟨⟨b0, b1, b2, b3, b4, b5⟩, -⟩ := six_cells HB2.out
  go_wp2_with fail
  clear b0 b1 b2 b3 b4 b5
  refine (few_any a0 l0 k0 a1 l1 k1 a2 l2 k2 e o t _).mono ?_
  rintro e' y3 ⟨rfl, f3⟩
  obtain ⟨d3_0, d3_1, d3_2, d3_3, d3_4, d3_5, d3_6, d3_7, d3_8, d3_9, d3_10, d3_11⟩ := KT.out _ _ f3 g0 g1 g2 g3 g4 g5 g6 g7 g8 g9 g10 g11
  have HB3 := Lib.hid (f3.blk HB2.out (fun h => h))
  have HF3 := Lib.hid (HF2.out.noTrans f3)
  clear f3 g0 g1 g2 g3 g4 g5 g6 g7 g8 g9 g10 g11
  cases hfew : decide (l0 ≤ 40 ∧ l1 ≤ 40 ∧ l2 ≤ 40)
  · clear hfew
    go_wp2_with fail
    go_ret
    exact ⟨rfl, HF3.out.belowNone (Nat.le_refl _)⟩
  clear hfew
  obtain ⟨YS, hYS⟩ : ∃ Y, Y = y3.setCell ⟨w.heap.size, 2, none⟩ (.slice none 0 0) := ⟨_, rfl⟩
  have hbS : YS.heap[w.heap.size]? = some (.cells #[.slice a0 l0 k0, .slice a1 l1 k1, .slice none 0 0, .int .i64 e, .int .i64 o, .int .i64 t] 34 (0, 0)) := by rw [hYS]; simpa using three_set HB3.out 2 (.slice none 0 0)
  have FS : Fr (only (w.heap.size)) y3 YS := by rw [hYS]; exact (Fr.refl (only (w.heap.size)) y3).setCell (p := ⟨w.heap.size, 2, none⟩) (.inl rfl) _
  have FN : Fr no w YS := by rw [hYS]; exact HF3.out.setCell (p := ⟨w.heap.size, 2, none⟩) (.inr (Nat.le_refl _)) _
  have ns := lt_of_blk HB1.out
  have g0 := FS.keepc0 d3_0 (by simp only [only]; omega)
  have g1 := FS.keepc0 d3_1 (by simp only [only]; omega)
  have g2 := FS.keepc0 d3_2 (by simp only [only]; omega)
  have g3 := FS.keepc0 d3_3 (by simp only [only]; omega)
  have g4 := FS.keepc0 d3_4 (by simp only [only]; omega)
  have g5 := FS.keepc0 d3_5 (by simp only [only]; omega)
  have g6 := FS.keepc0 d3_6 (by simp only [only]; omega)
  have g7 := FS.keepc0 d3_7 (by simp only [only]; omega)
  have g8 := FS.keepc0 d3_8 (by simp only [only]; omega)
  have g9 := FS.keepc0 d3_9 (by simp only [only]; omega)
  have g10 := FS.keepc0 d3_10 (by simp only [only]; omega)
  have g11 := FS.keepc0 d3_11 (by simp only [only]; omega)
  have HFN := Lib.hid FN
  have HBS := Lib.hid hbS
  have HYS := Lib.hid hYS
  clear FS FN hbS hYS
  obtain ⟨⟨b0, b1, b2, b3, b4, b5⟩, z0, z1, z2, z3, z4, z5⟩ := six_cells HB3.out
  obtain ⟨⟨a0_, a1_, a2_, a3_, a4_, a5_⟩, -⟩ := six_cells HBS.out
  go_wp2_with fail
  rw [← HYS.out]
  clear b0 b1 b2 b3 b4 b5 z0 z1 z2 z3 z4 z5 a0_ a1_ a2_ a3_ a4_ a5_ d3_0 d3_1 d3_2 d3_3 d3_4 d3_5 d3_6 d3_7 d3_8 d3_9 d3_10 d3_11
  refine (K1.out _ (HP.out.kept HFN.out) (HZ.out.kept HFN.out) (wls_nil _)).mono ?_
  rintro e' y4 ⟨rfl, f4⟩
  obtain ⟨d4_0, d4_1, d4_2, d4_3, d4_4, d4_5, d4_6, d4_7, d4_8, d4_9, d4_10, d4_11⟩ := KT.out _ _ f4 g0 g1 g2 g3 g4 g5 g6 g7 g8 g9 g10 g11
  have HB4 := Lib.hid (f4.blk HBS.out (fun h => h))
  have HF4 := Lib.hid (HFN.out.noTrans f4)
  clear f4 g0 g1 g2 g3 g4 g5 g6 g7 g8 g9 g10 g11
  obtain ⟨⟨b0, b1, b2, b3, b4, b5⟩, -⟩ := six_cells HB4.out
  go_wp2_with fail
  clear b0 b1 b2 b3 b4 b5
  refine (K2.out _ (HP.out.kept HF4.out) (HZ.out.kept HF4.out) (wls_nil _)).mono ?_
  rintro e' y5 ⟨rfl, f5⟩
  obtain ⟨d5_0, d5_1, d5_2, d5_3, d5_4, d5_5, d5_6, d5_7, d5_8, d5_9, d5_10, d5_11⟩ := KT.out _ _ f5 d4_0 d4_1 d4_2 d4_3 d4_4 d4_5 d4_6 d4_7 d4_8 d4_9 d4_10 d4_11
  have HB5 := Lib.hid (f5.blk HB4.out (fun h => h))
  have HF5 := Lib.hid (HF4.out.noTrans f5)
  clear f5 d4_0 d4_1 d4_2 d4_3 d4_4 d4_5 d4_6 d4_7 d4_8 d4_9 d4_10 d4_11
  obtain ⟨⟨b0, b1, b2, b3, b4, b5⟩, -⟩ := six_cells HB5.out
  go_wp2_with fail
  clear b0 b1 b2 b3 b4 b5
  go_quiet (fail)
  have HF6 := Lib.hid (HF5.out.drewN nq)
  have HB6 := Lib.hid (show (y5.drewN nq).heap[w.heap.size]? = _ from HB5.out)
  obtain ⟨⟨b0, b1, b2, b3, b4, b5⟩, -⟩ := six_cells HB5.out
  go_wp2_with fail
  clear b0 b1 b2 b3 b4 b5
  refine (K3.out _ (HP.out.kept HF6.out) (HZ.out.kept HF6.out) (wls_nil _)).mono ?_
  rintro e' y8 ⟨rfl, f8⟩
  obtain ⟨d8_0, d8_1, d8_2, d8_3, d8_4, d8_5, d8_6, d8_7, d8_8, d8_9, d8_10, d8_11⟩ := KT.out _ _ f8 d5_0 d5_1 d5_2 d5_3 d5_4 d5_5 d5_6 d5_7 d5_8 d5_9 d5_10 d5_11
  have HF8 := Lib.hid (HF6.out.noTrans f8)
  clear f8 d5_0 d5_1 d5_2 d5_3 d5_4 d5_5 d5_6 d5_7 d5_8 d5_9 d5_10 d5_11
  go_wp2_with fail
  go_ret
  exact ⟨rfl, HF8.out.belowNone (Nat.le_refl _)⟩
set_option maxRecDepth 100000 in
set_option maxHeartbeats 8000000 in
theorem dist_2 (a0 : Option Addr) (l0 k0 : Nat) (a1 : Option Addr) (l1 k1 : Nat) (a2 : Option Addr) (l2 k2 : Nat) (e o t : Int) (ps : List Pt) (zs : List Int) (ws : List Wl) (ax ay bx by_ q na nb x y m : Int) (w : World) (hp : PtsIn w a0 l0 ps) (hz : IntsIn w a1 l1 zs) (E1 E2 E3 V1 V2 V3 : Int) (kk1 : ∀ w : World, PtsIn w a0 l0 ps → IntsIn w a1 l1 zs → WlsIn w none 0 [] → Calls Try.prog 18 #[.agg #[.slice a0 l0 k0, .slice a1 l1 k1, .slice none 0 0, .int .i64 e, .int .i64 o, .int .i64 t], .agg #[.int .i64 ax, .int .i64 ay], .int .i64 q, .agg #[.int .i64 bx, .int .i64 by_]] w fun e' w' => e' = .returned (.tuple #[.int .i64 V1, .int .i64 0]) ∧ Fr no w w') (kk2 : ∀ w : World, PtsIn w a0 l0 ps → IntsIn w a1 l1 zs → WlsIn w none 0 [] → Calls Try.prog 18 #[.agg #[.slice a0 l0 k0, .slice a1 l1 k1, .slice none 0 0, .int .i64 e, .int .i64 o, .int .i64 t], .agg #[.int .i64 ax, .int .i64 ay], .int .i64 q, .agg #[.int .i64 x, .int .i64 y]] w fun e' w' => e' = .returned (.tuple #[.int .i64 V2, .int .i64 E2]) ∧ Fr no w w') (kk3 : ∀ w : World, PtsIn w a0 l0 ps → IntsIn w a1 l1 zs → WlsIn w none 0 [] → Calls Try.prog 18 #[.agg #[.slice a0 l0 k0, .slice a1 l1 k1, .slice none 0 0, .int .i64 e, .int .i64 o, .int .i64 t], .agg #[.int .i64 ax, .int .i64 ay], .int .i64 m, .agg #[.int .i64 bx, .int .i64 by_]] w fun e' w' => e' = .returned (.tuple #[.int .i64 V3, .int .i64 E3]) ∧ Fr no w w') (h2 : E2 ≠ 0) (h3 : E3 = 0 → q ≤ m → V1 ≤ V3) : Calls Try.prog 9 #[.agg #[.slice a0 l0 k0, .slice a1 l1 k1, .slice a2 l2 k2, .int .i64 e, .int .i64 o, .int .i64 t], .agg #[.int .i64 ax, .int .i64 ay, .int .i64 bx, .int .i64 by_, .int .i64 q, .int .i64 na, .int .i64 nb], .agg #[.int .i64 x, .int .i64 y, .int .i64 m]] w fun e' w' => e' = .returned (.bool true) ∧ Below w.heap.size w w' := by
  have hE : (E2 == 0) = false := by rw [beq_eq_false_iff_ne]; exact h2
  clear h2
  have K1 := Lib.hid kk1
  have K2 := Lib.hid kk2
  have K3 := Lib.hid kk3
  have HP := Lib.hid hp
  have HZ := Lib.hid hz
  clear kk1 kk2 kk3 hp hz
  have KS := Lib.hid (show ∀ w0 w' : World, Fr no w0 w' → w0.cell? ⟨w.heap.size + 1, 0, none⟩ = some (.int .i64 ax) → w0.cell? ⟨w.heap.size + 1, 1, none⟩ = some (.int .i64 ay) → w0.cell? ⟨w.heap.size + 1, 2, none⟩ = some (.int .i64 bx) → w0.cell? ⟨w.heap.size + 1, 3, none⟩ = some (.int .i64 by_) → w0.cell? ⟨w.heap.size + 1, 4, none⟩ = some (.int .i64 q) → w0.cell? ⟨w.heap.size + 1, 5, none⟩ = some (.int .i64 na) → w0.cell? ⟨w.heap.size + 1, 6, none⟩ = some (.int .i64 nb) → w0.cell? ⟨w.heap.size + 1 + 1, 0, none⟩ = some (.int .i64 x) → w0.cell? ⟨w.heap.size + 1 + 1, 1, none⟩ = some (.int .i64 y) → w0.cell? ⟨w.heap.size + 1 + 1, 2, none⟩ = some (.int .i64 m) → (w'.cell? ⟨w.heap.size + 1, 0, none⟩ = some (.int .i64 ax) ∧ w'.cell? ⟨w.heap.size + 1, 1, none⟩ = some (.int .i64 ay) ∧ w'.cell? ⟨w.heap.size + 1, 2, none⟩ = some (.int .i64 bx) ∧ w'.cell? ⟨w.heap.size + 1, 3, none⟩ = some (.int .i64 by_) ∧ w'.cell? ⟨w.heap.size + 1, 4, none⟩ = some (.int .i64 q) ∧ w'.cell? ⟨w.heap.size + 1, 5, none⟩ = some (.int .i64 na) ∧ w'.cell? ⟨w.heap.size + 1, 6, none⟩ = some (.int .i64 nb) ∧ w'.cell? ⟨w.heap.size + 1 + 1, 0, none⟩ = some (.int .i64 x) ∧ w'.cell? ⟨w.heap.size + 1 + 1, 1, none⟩ = some (.int .i64 y) ∧ w'.cell? ⟨w.heap.size + 1 + 1, 2, none⟩ = some (.int .i64 m)) from fun _ _ h a0 a1 a2 a3 a4 a5 a6 a7 a8 a9 => ⟨h.keepc a0, h.keepc a1, h.keepc a2, h.keepc a3, h.keepc a4, h.keepc a5, h.keepc a6, h.keepc a7, h.keepc a8, h.keepc a9⟩)
  obtain ⟨W, hW⟩ : ∃ W, W = (((w.alloc (.cells #[.slice a0 l0 k0, .slice a1 l1 k1, .slice a2 l2 k2, .int .i64 e, .int .i64 o, .int .i64 t] 34 (0, 0))).alloc (.cells #[.int .i64 ax, .int .i64 ay, .int .i64 bx, .int .i64 by_, .int .i64 q, .int .i64 na, .int .i64 nb] 36 (0, 0))).alloc (.cells #[.int .i64 x, .int .i64 y, .int .i64 m] 60 (0, 0))) := ⟨_, rfl⟩
  have HF := Lib.hid (show Fr no w W by rw [hW]; exact (((Fr.refl no w).alloc _).alloc _).alloc _)
  have c0 : W.cell? ⟨w.heap.size, 0, none⟩ = some (.slice a0 l0 k0) := by rw [hW]; go_simp
  have c1 : W.cell? ⟨w.heap.size, 1, none⟩ = some (.slice a1 l1 k1) := by rw [hW]; go_simp
  have c2 : W.cell? ⟨w.heap.size, 2, none⟩ = some (.slice a2 l2 k2) := by rw [hW]; go_simp
  have c3 : W.cell? ⟨w.heap.size, 3, none⟩ = some (.int .i64 e) := by rw [hW]; go_simp
  have c4 : W.cell? ⟨w.heap.size, 4, none⟩ = some (.int .i64 o) := by rw [hW]; go_simp
  have c5 : W.cell? ⟨w.heap.size, 5, none⟩ = some (.int .i64 t) := by rw [hW]; go_simp
  have c6 : W.cell? ⟨w.heap.size + 1, 0, none⟩ = some (.int .i64 ax) := by rw [hW]; go_simp
  have c7 : W.cell? ⟨w.heap.size + 1, 1, none⟩ = some (.int .i64 ay) := by rw [hW]; go_simp
  have c8 : W.cell? ⟨w.heap.size + 1, 2, none⟩ = some (.int .i64 bx) := by rw [hW]; go_simp
  have c9 : W.cell? ⟨w.heap.size + 1, 3, none⟩ = some (.int .i64 by_) := by rw [hW]; go_simp
  have c10 : W.cell? ⟨w.heap.size + 1, 4, none⟩ = some (.int .i64 q) := by rw [hW]; go_simp
  have c11 : W.cell? ⟨w.heap.size + 1, 5, none⟩ = some (.int .i64 na) := by rw [hW]; go_simp
  have c12 : W.cell? ⟨w.heap.size + 1, 6, none⟩ = some (.int .i64 nb) := by rw [hW]; go_simp
  have c13 : W.cell? ⟨w.heap.size + 1 + 1, 0, none⟩ = some (.int .i64 x) := by rw [hW]; go_simp
  have c14 : W.cell? ⟨w.heap.size + 1 + 1, 1, none⟩ = some (.int .i64 y) := by rw [hW]; go_simp
  have c15 : W.cell? ⟨w.heap.size + 1 + 1, 2, none⟩ = some (.int .i64 m) := by rw [hW]; go_simp
  have HW := Lib.hid hW
  clear hW
  have hb : W.heap[w.heap.size]? = some (.cells #[.slice a0 l0 k0, .slice a1 l1 k1, .slice a2 l2 k2, .int .i64 e, .int .i64 o, .int .i64 t] 34 (0, 0)) := by rw [HW.out]; exact alloc_keeps (alloc_keeps (heap_alloc_new w _) _) _
  have HB := Lib.hid hb
  clear hb c0 c1 c2 c3 c4 c5
  have g0 := c6
  have g1 := c7
  have g2 := c8
  have g3 := c9
  have g4 := c10
  have g5 := c11
  have g6 := c12
  have g7 := c13
  have g8 := c14
  have g9 := c15
  clear c6 c7 c8 c9 c10 c11 c12 c13 c14 c15
  go_enter Try.func9, Try.ntmps9
  go_wp2_with fail
  rw [← HW.out]
  refine (awake_any _).mono ?_
  rintro e y1 ⟨rfl, f1⟩
  obtain ⟨d1_0, d1_1, d1_2, d1_3, d1_4, d1_5, d1_6, d1_7, d1_8, d1_9⟩ := KS.out _ _ f1 g0 g1 g2 g3 g4 g5 g6 g7 g8 g9
  have HF1 := Lib.hid (HF.out.noTrans f1)
  clear g0 g1 g2 g3 g4 g5 g6 g7 g8 g9
  go_wp2_with fail
  have HB1 := Lib.hid (f1.blk HB.out (fun h => h))
  clear f1
  have r2 := blt d1_9
  have ks2 : ∀ w0 w' : World, Fr no w0 w' → w0.cell? ⟨w.heap.size + 1, 0, none⟩ = some (.int .i64 ax) → w0.cell? ⟨w.heap.size + 1, 1, none⟩ = some (.int .i64 ay) → w0.cell? ⟨w.heap.size + 1, 2, none⟩ = some (.int .i64 bx) → w0.cell? ⟨w.heap.size + 1, 3, none⟩ = some (.int .i64 by_) → w0.cell? ⟨w.heap.size + 1, 4, none⟩ = some (.int .i64 q) → w0.cell? ⟨w.heap.size + 1, 5, none⟩ = some (.int .i64 na) → w0.cell? ⟨w.heap.size + 1, 6, none⟩ = some (.int .i64 nb) → w0.cell? ⟨w.heap.size + 1 + 1, 0, none⟩ = some (.int .i64 x) → w0.cell? ⟨w.heap.size + 1 + 1, 1, none⟩ = some (.int .i64 y) → w0.cell? ⟨w.heap.size + 1 + 1, 2, none⟩ = some (.int .i64 m) → w0.cell? ⟨y1.heap.size, 0, none⟩ = some (.int .i64 x) → w0.cell? ⟨y1.heap.size, 1, none⟩ = some (.int .i64 y) → (w'.cell? ⟨w.heap.size + 1, 0, none⟩ = some (.int .i64 ax) ∧ w'.cell? ⟨w.heap.size + 1, 1, none⟩ = some (.int .i64 ay) ∧ w'.cell? ⟨w.heap.size + 1, 2, none⟩ = some (.int .i64 bx) ∧ w'.cell? ⟨w.heap.size + 1, 3, none⟩ = some (.int .i64 by_) ∧ w'.cell? ⟨w.heap.size + 1, 4, none⟩ = some (.int .i64 q) ∧ w'.cell? ⟨w.heap.size + 1, 5, none⟩ = some (.int .i64 na) ∧ w'.cell? ⟨w.heap.size + 1, 6, none⟩ = some (.int .i64 nb) ∧ w'.cell? ⟨w.heap.size + 1 + 1, 0, none⟩ = some (.int .i64 x) ∧ w'.cell? ⟨w.heap.size + 1 + 1, 1, none⟩ = some (.int .i64 y) ∧ w'.cell? ⟨w.heap.size + 1 + 1, 2, none⟩ = some (.int .i64 m) ∧ w'.cell? ⟨y1.heap.size, 0, none⟩ = some (.int .i64 x) ∧ w'.cell? ⟨y1.heap.size, 1, none⟩ = some (.int .i64 y)) := fun _ _ h a0 a1 a2 a3 a4 a5 a6 a7 a8 a9 a10 a11 => ⟨h.keepc a0, h.keepc a1, h.keepc a2, h.keepc a3, h.keepc a4, h.keepc a5, h.keepc a6, h.keepc a7, h.keepc a8, h.keepc a9, h.keepc a10, h.keepc a11⟩
  have KT := Lib.hid ks2
  clear ks2
  go_region
  obtain ⟨Y2, hY2⟩ : ∃ Y, Y = (y1.alloc (.cells #[.int .i64 x, .int .i64 y] 23 (0, 0))).drew := ⟨_, rfl⟩
  have F2 : Fr no y1 Y2 := by rw [hY2]; exact ((Fr.refl no y1).alloc _).drew
  have g0 := F2.keepc d1_0
  have g1 := F2.keepc d1_1
  have g2 := F2.keepc d1_2
  have g3 := F2.keepc d1_3
  have g4 := F2.keepc d1_4
  have g5 := F2.keepc d1_5
  have g6 := F2.keepc d1_6
  have g7 := F2.keepc d1_7
  have g8 := F2.keepc d1_8
  have g9 := F2.keepc d1_9
  have g10 : Y2.cell? ⟨y1.heap.size, 0, none⟩ = some (.int .i64 x) := by rw [hY2]; go_simp
  have g11 : Y2.cell? ⟨y1.heap.size, 1, none⟩ = some (.int .i64 y) := by rw [hY2]; go_simp
  have HB2 := Lib.hid (F2.blk HB1.out (fun h => h))
  have HY2 := Lib.hid hY2
  have HF2 := Lib.hid (HF1.out.noTrans F2)
  clear F2 hY2 r2 d1_0 d1_1 d1_2 d1_3 d1_4 d1_5 d1_6 d1_7 d1_8 d1_9
  rw [← HY2.out]
  obtain ⟨⟨b0, b1, b2, b3, b4, b5⟩, -⟩ := six_cells HB2.out
  go_wp2_with fail
  clear b0 b1 b2 b3 b4 b5
  refine (few_any a0 l0 k0 a1 l1 k1 a2 l2 k2 e o t _).mono ?_
  rintro e' y3 ⟨rfl, f3⟩
  obtain ⟨d3_0, d3_1, d3_2, d3_3, d3_4, d3_5, d3_6, d3_7, d3_8, d3_9, d3_10, d3_11⟩ := KT.out _ _ f3 g0 g1 g2 g3 g4 g5 g6 g7 g8 g9 g10 g11
  have HB3 := Lib.hid (f3.blk HB2.out (fun h => h))
  have HF3 := Lib.hid (HF2.out.noTrans f3)
  clear f3 g0 g1 g2 g3 g4 g5 g6 g7 g8 g9 g10 g11
  cases hfew : decide (l0 ≤ 40 ∧ l1 ≤ 40 ∧ l2 ≤ 40)
  · clear hfew
    go_wp2_with fail
    go_ret
    exact ⟨rfl, HF3.out.belowNone (Nat.le_refl _)⟩
  clear hfew
  obtain ⟨YS, hYS⟩ : ∃ Y, Y = y3.setCell ⟨w.heap.size, 2, none⟩ (.slice none 0 0) := ⟨_, rfl⟩
  have hbS : YS.heap[w.heap.size]? = some (.cells #[.slice a0 l0 k0, .slice a1 l1 k1, .slice none 0 0, .int .i64 e, .int .i64 o, .int .i64 t] 34 (0, 0)) := by rw [hYS]; simpa using three_set HB3.out 2 (.slice none 0 0)
  have FS : Fr (only (w.heap.size)) y3 YS := by rw [hYS]; exact (Fr.refl (only (w.heap.size)) y3).setCell (p := ⟨w.heap.size, 2, none⟩) (.inl rfl) _
  have FN : Fr no w YS := by rw [hYS]; exact HF3.out.setCell (p := ⟨w.heap.size, 2, none⟩) (.inr (Nat.le_refl _)) _
  have ns := lt_of_blk HB1.out
  have g0 := FS.keepc0 d3_0 (by simp only [only]; omega)
  have g1 := FS.keepc0 d3_1 (by simp only [only]; omega)
  have g2 := FS.keepc0 d3_2 (by simp only [only]; omega)
  have g3 := FS.keepc0 d3_3 (by simp only [only]; omega)
  have g4 := FS.keepc0 d3_4 (by simp only [only]; omega)
  have g5 := FS.keepc0 d3_5 (by simp only [only]; omega)
  have g6 := FS.keepc0 d3_6 (by simp only [only]; omega)
  have g7 := FS.keepc0 d3_7 (by simp only [only]; omega)
  have g8 := FS.keepc0 d3_8 (by simp only [only]; omega)
  have g9 := FS.keepc0 d3_9 (by simp only [only]; omega)
  have g10 := FS.keepc0 d3_10 (by simp only [only]; omega)
  have g11 := FS.keepc0 d3_11 (by simp only [only]; omega)
  have HFN := Lib.hid FN
  have HBS := Lib.hid hbS
  have HYS := Lib.hid hYS
  clear FS FN hbS hYS
  obtain ⟨⟨b0, b1, b2, b3, b4, b5⟩, z0, z1, z2, z3, z4, z5⟩ := six_cells HB3.out
  obtain ⟨⟨a0_, a1_, a2_, a3_, a4_, a5_⟩, -⟩ := six_cells HBS.out
  go_wp2_with fail
  rw [← HYS.out]
  clear b0 b1 b2 b3 b4 b5 z0 z1 z2 z3 z4 z5 a0_ a1_ a2_ a3_ a4_ a5_ d3_0 d3_1 d3_2 d3_3 d3_4 d3_5 d3_6 d3_7 d3_8 d3_9 d3_10 d3_11
  refine (K1.out _ (HP.out.kept HFN.out) (HZ.out.kept HFN.out) (wls_nil _)).mono ?_
  rintro e' y4 ⟨rfl, f4⟩
  obtain ⟨d4_0, d4_1, d4_2, d4_3, d4_4, d4_5, d4_6, d4_7, d4_8, d4_9, d4_10, d4_11⟩ := KT.out _ _ f4 g0 g1 g2 g3 g4 g5 g6 g7 g8 g9 g10 g11
  have HB4 := Lib.hid (f4.blk HBS.out (fun h => h))
  have HF4 := Lib.hid (HFN.out.noTrans f4)
  clear f4 g0 g1 g2 g3 g4 g5 g6 g7 g8 g9 g10 g11
  obtain ⟨⟨b0, b1, b2, b3, b4, b5⟩, -⟩ := six_cells HB4.out
  go_wp2_with fail
  clear b0 b1 b2 b3 b4 b5
  refine (K2.out _ (HP.out.kept HF4.out) (HZ.out.kept HF4.out) (wls_nil _)).mono ?_
  rintro e' y5 ⟨rfl, f5⟩
  obtain ⟨d5_0, d5_1, d5_2, d5_3, d5_4, d5_5, d5_6, d5_7, d5_8, d5_9, d5_10, d5_11⟩ := KT.out _ _ f5 d4_0 d4_1 d4_2 d4_3 d4_4 d4_5 d4_6 d4_7 d4_8 d4_9 d4_10 d4_11
  have HB5 := Lib.hid (f5.blk HB4.out (fun h => h))
  have HF5 := Lib.hid (HF4.out.noTrans f5)
  clear f5 d4_0 d4_1 d4_2 d4_3 d4_4 d4_5 d4_6 d4_7 d4_8 d4_9 d4_10 d4_11
  obtain ⟨⟨b0, b1, b2, b3, b4, b5⟩, -⟩ := six_cells HB5.out
  go_wp2_with fail
  clear b0 b1 b2 b3 b4 b5
  go_quiet (fail)
  have HF6 := Lib.hid (HF5.out.drewN nq)
  have HB6 := Lib.hid (show (y5.drewN nq).heap[w.heap.size]? = _ from HB5.out)
  obtain ⟨⟨b0, b1, b2, b3, b4, b5⟩, -⟩ := six_cells HB5.out
  go_wp2_with fail
  clear b0 b1 b2 b3 b4 b5
  refine (K3.out _ (HP.out.kept HF6.out) (HZ.out.kept HF6.out) (wls_nil _)).mono ?_
  rintro e' y8 ⟨rfl, f8⟩
  obtain ⟨d8_0, d8_1, d8_2, d8_3, d8_4, d8_5, d8_6, d8_7, d8_8, d8_9, d8_10, d8_11⟩ := KT.out _ _ f8 d5_0 d5_1 d5_2 d5_3 d5_4 d5_5 d5_6 d5_7 d5_8 d5_9 d5_10 d5_11
  have HF8 := Lib.hid (HF6.out.noTrans f8)
  clear f8 d5_0 d5_1 d5_2 d5_3 d5_4 d5_5 d5_6 d5_7 d5_8 d5_9 d5_10 d5_11
  by_cases e3 : E3 = 0
  · subst e3
    by_cases hm : m < q
    · go_wp2_with fail
      go_ret
      exact ⟨rfl, HF8.out.belowNone (Nat.le_refl _)⟩
    · have hvv := h3 rfl (by omega)
      clear h3
      have hm' : q ≤ m := by omega
      clear hm
      go_wp2_with fail
      go_ret
      exact ⟨rfl, HF8.out.belowNone (Nat.le_refl _)⟩
  · have hE3 : (E3 == 0) = false := by rw [beq_eq_false_iff_ne]; exact e3
    have hE3n : (E3 != 0) = true := by rw [bne_iff_ne]; exact e3
    clear e3 h3
    go_wp2_with fail
    go_ret
    exact ⟨rfl, HF8.out.belowNone (Nat.le_refl _)⟩
set_option maxRecDepth 100000 in
set_option maxHeartbeats 8000000 in
theorem dist_3 (a0 : Option Addr) (l0 k0 : Nat) (a1 : Option Addr) (l1 k1 : Nat) (a2 : Option Addr) (l2 k2 : Nat) (e o t : Int) (ps : List Pt) (zs : List Int) (ws : List Wl) (ax ay bx by_ q na nb x y m : Int) (w : World) (hp : PtsIn w a0 l0 ps) (hz : IntsIn w a1 l1 zs) (E1 E2 E3 V1 V2 V3 : Int) (kk1 : ∀ w : World, PtsIn w a0 l0 ps → IntsIn w a1 l1 zs → WlsIn w none 0 [] → Calls Try.prog 18 #[.agg #[.slice a0 l0 k0, .slice a1 l1 k1, .slice none 0 0, .int .i64 e, .int .i64 o, .int .i64 t], .agg #[.int .i64 ax, .int .i64 ay], .int .i64 q, .agg #[.int .i64 bx, .int .i64 by_]] w fun e' w' => e' = .returned (.tuple #[.int .i64 V1, .int .i64 0]) ∧ Fr no w w') (kk2 : ∀ w : World, PtsIn w a0 l0 ps → IntsIn w a1 l1 zs → WlsIn w none 0 [] → Calls Try.prog 18 #[.agg #[.slice a0 l0 k0, .slice a1 l1 k1, .slice none 0 0, .int .i64 e, .int .i64 o, .int .i64 t], .agg #[.int .i64 ax, .int .i64 ay], .int .i64 q, .agg #[.int .i64 x, .int .i64 y]] w fun e' w' => e' = .returned (.tuple #[.int .i64 V2, .int .i64 0]) ∧ Fr no w w') (kk3 : ∀ w : World, PtsIn w a0 l0 ps → IntsIn w a1 l1 zs → WlsIn w none 0 [] → Calls Try.prog 18 #[.agg #[.slice a0 l0 k0, .slice a1 l1 k1, .slice none 0 0, .int .i64 e, .int .i64 o, .int .i64 t], .agg #[.int .i64 ax, .int .i64 ay], .int .i64 m, .agg #[.int .i64 bx, .int .i64 by_]] w fun e' w' => e' = .returned (.tuple #[.int .i64 V3, .int .i64 E3]) ∧ Fr no w w') (n1 : nr ax) (n2 : nr ay) (n3 : nr bx) (n4 : nr by_) (n5 : nr x) (n6 : nr y) (hs : sqF ax ay bx by_ ≤ sqF ax ay x y) (hv : V2 ≤ V1) (h3 : E3 = 0 → q ≤ m → V1 ≤ V3) : Calls Try.prog 9 #[.agg #[.slice a0 l0 k0, .slice a1 l1 k1, .slice a2 l2 k2, .int .i64 e, .int .i64 o, .int .i64 t], .agg #[.int .i64 ax, .int .i64 ay, .int .i64 bx, .int .i64 by_, .int .i64 q, .int .i64 na, .int .i64 nb], .agg #[.int .i64 x, .int .i64 y, .int .i64 m]] w fun e' w' => e' = .returned (.bool true) ∧ Below w.heap.size w w' := by
  have KA := Lib.hid (fun w => square_any ax ay bx by_ w n1 n2 n3 n4)
  have KB := Lib.hid (fun w => square_any ax ay x y w n1 n2 n5 n6)
  clear n1 n2 n3 n4 n5 n6
  generalize sqF ax ay bx by_ = SA at *
  generalize sqF ax ay x y = SB at *
  have K1 := Lib.hid kk1
  have K2 := Lib.hid kk2
  have K3 := Lib.hid kk3
  have HP := Lib.hid hp
  have HZ := Lib.hid hz
  clear kk1 kk2 kk3 hp hz
  have KS := Lib.hid (show ∀ w0 w' : World, Fr no w0 w' → w0.cell? ⟨w.heap.size + 1, 0, none⟩ = some (.int .i64 ax) → w0.cell? ⟨w.heap.size + 1, 1, none⟩ = some (.int .i64 ay) → w0.cell? ⟨w.heap.size + 1, 2, none⟩ = some (.int .i64 bx) → w0.cell? ⟨w.heap.size + 1, 3, none⟩ = some (.int .i64 by_) → w0.cell? ⟨w.heap.size + 1, 4, none⟩ = some (.int .i64 q) → w0.cell? ⟨w.heap.size + 1, 5, none⟩ = some (.int .i64 na) → w0.cell? ⟨w.heap.size + 1, 6, none⟩ = some (.int .i64 nb) → w0.cell? ⟨w.heap.size + 1 + 1, 0, none⟩ = some (.int .i64 x) → w0.cell? ⟨w.heap.size + 1 + 1, 1, none⟩ = some (.int .i64 y) → w0.cell? ⟨w.heap.size + 1 + 1, 2, none⟩ = some (.int .i64 m) → (w'.cell? ⟨w.heap.size + 1, 0, none⟩ = some (.int .i64 ax) ∧ w'.cell? ⟨w.heap.size + 1, 1, none⟩ = some (.int .i64 ay) ∧ w'.cell? ⟨w.heap.size + 1, 2, none⟩ = some (.int .i64 bx) ∧ w'.cell? ⟨w.heap.size + 1, 3, none⟩ = some (.int .i64 by_) ∧ w'.cell? ⟨w.heap.size + 1, 4, none⟩ = some (.int .i64 q) ∧ w'.cell? ⟨w.heap.size + 1, 5, none⟩ = some (.int .i64 na) ∧ w'.cell? ⟨w.heap.size + 1, 6, none⟩ = some (.int .i64 nb) ∧ w'.cell? ⟨w.heap.size + 1 + 1, 0, none⟩ = some (.int .i64 x) ∧ w'.cell? ⟨w.heap.size + 1 + 1, 1, none⟩ = some (.int .i64 y) ∧ w'.cell? ⟨w.heap.size + 1 + 1, 2, none⟩ = some (.int .i64 m)) from fun _ _ h a0 a1 a2 a3 a4 a5 a6 a7 a8 a9 => ⟨h.keepc a0, h.keepc a1, h.keepc a2, h.keepc a3, h.keepc a4, h.keepc a5, h.keepc a6, h.keepc a7, h.keepc a8, h.keepc a9⟩)
  obtain ⟨W, hW⟩ : ∃ W, W = (((w.alloc (.cells #[.slice a0 l0 k0, .slice a1 l1 k1, .slice a2 l2 k2, .int .i64 e, .int .i64 o, .int .i64 t] 34 (0, 0))).alloc (.cells #[.int .i64 ax, .int .i64 ay, .int .i64 bx, .int .i64 by_, .int .i64 q, .int .i64 na, .int .i64 nb] 36 (0, 0))).alloc (.cells #[.int .i64 x, .int .i64 y, .int .i64 m] 60 (0, 0))) := ⟨_, rfl⟩
  have HF := Lib.hid (show Fr no w W by rw [hW]; exact (((Fr.refl no w).alloc _).alloc _).alloc _)
  have c0 : W.cell? ⟨w.heap.size, 0, none⟩ = some (.slice a0 l0 k0) := by rw [hW]; go_simp
  have c1 : W.cell? ⟨w.heap.size, 1, none⟩ = some (.slice a1 l1 k1) := by rw [hW]; go_simp
  have c2 : W.cell? ⟨w.heap.size, 2, none⟩ = some (.slice a2 l2 k2) := by rw [hW]; go_simp
  have c3 : W.cell? ⟨w.heap.size, 3, none⟩ = some (.int .i64 e) := by rw [hW]; go_simp
  have c4 : W.cell? ⟨w.heap.size, 4, none⟩ = some (.int .i64 o) := by rw [hW]; go_simp
  have c5 : W.cell? ⟨w.heap.size, 5, none⟩ = some (.int .i64 t) := by rw [hW]; go_simp
  have c6 : W.cell? ⟨w.heap.size + 1, 0, none⟩ = some (.int .i64 ax) := by rw [hW]; go_simp
  have c7 : W.cell? ⟨w.heap.size + 1, 1, none⟩ = some (.int .i64 ay) := by rw [hW]; go_simp
  have c8 : W.cell? ⟨w.heap.size + 1, 2, none⟩ = some (.int .i64 bx) := by rw [hW]; go_simp
  have c9 : W.cell? ⟨w.heap.size + 1, 3, none⟩ = some (.int .i64 by_) := by rw [hW]; go_simp
  have c10 : W.cell? ⟨w.heap.size + 1, 4, none⟩ = some (.int .i64 q) := by rw [hW]; go_simp
  have c11 : W.cell? ⟨w.heap.size + 1, 5, none⟩ = some (.int .i64 na) := by rw [hW]; go_simp
  have c12 : W.cell? ⟨w.heap.size + 1, 6, none⟩ = some (.int .i64 nb) := by rw [hW]; go_simp
  have c13 : W.cell? ⟨w.heap.size + 1 + 1, 0, none⟩ = some (.int .i64 x) := by rw [hW]; go_simp
  have c14 : W.cell? ⟨w.heap.size + 1 + 1, 1, none⟩ = some (.int .i64 y) := by rw [hW]; go_simp
  have c15 : W.cell? ⟨w.heap.size + 1 + 1, 2, none⟩ = some (.int .i64 m) := by rw [hW]; go_simp
  have HW := Lib.hid hW
  clear hW
  have hb : W.heap[w.heap.size]? = some (.cells #[.slice a0 l0 k0, .slice a1 l1 k1, .slice a2 l2 k2, .int .i64 e, .int .i64 o, .int .i64 t] 34 (0, 0)) := by rw [HW.out]; exact alloc_keeps (alloc_keeps (heap_alloc_new w _) _) _
  have HB := Lib.hid hb
  clear hb c0 c1 c2 c3 c4 c5
  have g0 := c6
  have g1 := c7
  have g2 := c8
  have g3 := c9
  have g4 := c10
  have g5 := c11
  have g6 := c12
  have g7 := c13
  have g8 := c14
  have g9 := c15
  clear c6 c7 c8 c9 c10 c11 c12 c13 c14 c15
  go_enter Try.func9, Try.ntmps9
  go_wp2_with fail
  rw [← HW.out]
  refine (awake_any _).mono ?_
  rintro e y1 ⟨rfl, f1⟩
  obtain ⟨d1_0, d1_1, d1_2, d1_3, d1_4, d1_5, d1_6, d1_7, d1_8, d1_9⟩ := KS.out _ _ f1 g0 g1 g2 g3 g4 g5 g6 g7 g8 g9
  have HF1 := Lib.hid (HF.out.noTrans f1)
  clear g0 g1 g2 g3 g4 g5 g6 g7 g8 g9
  go_wp2_with fail
  have HB1 := Lib.hid (f1.blk HB.out (fun h => h))
  clear f1
  have r2 := blt d1_9
  have ks2 : ∀ w0 w' : World, Fr no w0 w' → w0.cell? ⟨w.heap.size + 1, 0, none⟩ = some (.int .i64 ax) → w0.cell? ⟨w.heap.size + 1, 1, none⟩ = some (.int .i64 ay) → w0.cell? ⟨w.heap.size + 1, 2, none⟩ = some (.int .i64 bx) → w0.cell? ⟨w.heap.size + 1, 3, none⟩ = some (.int .i64 by_) → w0.cell? ⟨w.heap.size + 1, 4, none⟩ = some (.int .i64 q) → w0.cell? ⟨w.heap.size + 1, 5, none⟩ = some (.int .i64 na) → w0.cell? ⟨w.heap.size + 1, 6, none⟩ = some (.int .i64 nb) → w0.cell? ⟨w.heap.size + 1 + 1, 0, none⟩ = some (.int .i64 x) → w0.cell? ⟨w.heap.size + 1 + 1, 1, none⟩ = some (.int .i64 y) → w0.cell? ⟨w.heap.size + 1 + 1, 2, none⟩ = some (.int .i64 m) → w0.cell? ⟨y1.heap.size, 0, none⟩ = some (.int .i64 x) → w0.cell? ⟨y1.heap.size, 1, none⟩ = some (.int .i64 y) → (w'.cell? ⟨w.heap.size + 1, 0, none⟩ = some (.int .i64 ax) ∧ w'.cell? ⟨w.heap.size + 1, 1, none⟩ = some (.int .i64 ay) ∧ w'.cell? ⟨w.heap.size + 1, 2, none⟩ = some (.int .i64 bx) ∧ w'.cell? ⟨w.heap.size + 1, 3, none⟩ = some (.int .i64 by_) ∧ w'.cell? ⟨w.heap.size + 1, 4, none⟩ = some (.int .i64 q) ∧ w'.cell? ⟨w.heap.size + 1, 5, none⟩ = some (.int .i64 na) ∧ w'.cell? ⟨w.heap.size + 1, 6, none⟩ = some (.int .i64 nb) ∧ w'.cell? ⟨w.heap.size + 1 + 1, 0, none⟩ = some (.int .i64 x) ∧ w'.cell? ⟨w.heap.size + 1 + 1, 1, none⟩ = some (.int .i64 y) ∧ w'.cell? ⟨w.heap.size + 1 + 1, 2, none⟩ = some (.int .i64 m) ∧ w'.cell? ⟨y1.heap.size, 0, none⟩ = some (.int .i64 x) ∧ w'.cell? ⟨y1.heap.size, 1, none⟩ = some (.int .i64 y)) := fun _ _ h a0 a1 a2 a3 a4 a5 a6 a7 a8 a9 a10 a11 => ⟨h.keepc a0, h.keepc a1, h.keepc a2, h.keepc a3, h.keepc a4, h.keepc a5, h.keepc a6, h.keepc a7, h.keepc a8, h.keepc a9, h.keepc a10, h.keepc a11⟩
  have KT := Lib.hid ks2
  clear ks2
  go_region
  obtain ⟨Y2, hY2⟩ : ∃ Y, Y = (y1.alloc (.cells #[.int .i64 x, .int .i64 y] 23 (0, 0))).drew := ⟨_, rfl⟩
  have F2 : Fr no y1 Y2 := by rw [hY2]; exact ((Fr.refl no y1).alloc _).drew
  have g0 := F2.keepc d1_0
  have g1 := F2.keepc d1_1
  have g2 := F2.keepc d1_2
  have g3 := F2.keepc d1_3
  have g4 := F2.keepc d1_4
  have g5 := F2.keepc d1_5
  have g6 := F2.keepc d1_6
  have g7 := F2.keepc d1_7
  have g8 := F2.keepc d1_8
  have g9 := F2.keepc d1_9
  have g10 : Y2.cell? ⟨y1.heap.size, 0, none⟩ = some (.int .i64 x) := by rw [hY2]; go_simp
  have g11 : Y2.cell? ⟨y1.heap.size, 1, none⟩ = some (.int .i64 y) := by rw [hY2]; go_simp
  have HB2 := Lib.hid (F2.blk HB1.out (fun h => h))
  have HY2 := Lib.hid hY2
  have HF2 := Lib.hid (HF1.out.noTrans F2)
  clear F2 hY2 r2 d1_0 d1_1 d1_2 d1_3 d1_4 d1_5 d1_6 d1_7 d1_8 d1_9
  rw [← HY2.out]
  obtain ⟨⟨b0, b1, b2, b3, b4, b5⟩, -⟩ := six_cells HB2.out
  go_wp2_with fail
  clear b0 b1 b2 b3 b4 b5
  refine (few_any a0 l0 k0 a1 l1 k1 a2 l2 k2 e o t _).mono ?_
  rintro e' y3 ⟨rfl, f3⟩
  obtain ⟨d3_0, d3_1, d3_2, d3_3, d3_4, d3_5, d3_6, d3_7, d3_8, d3_9, d3_10, d3_11⟩ := KT.out _ _ f3 g0 g1 g2 g3 g4 g5 g6 g7 g8 g9 g10 g11
  have HB3 := Lib.hid (f3.blk HB2.out (fun h => h))
  have HF3 := Lib.hid (HF2.out.noTrans f3)
  clear f3 g0 g1 g2 g3 g4 g5 g6 g7 g8 g9 g10 g11
  cases hfew : decide (l0 ≤ 40 ∧ l1 ≤ 40 ∧ l2 ≤ 40)
  · clear hfew
    go_wp2_with fail
    go_ret
    exact ⟨rfl, HF3.out.belowNone (Nat.le_refl _)⟩
  clear hfew
  obtain ⟨YS, hYS⟩ : ∃ Y, Y = y3.setCell ⟨w.heap.size, 2, none⟩ (.slice none 0 0) := ⟨_, rfl⟩
  have hbS : YS.heap[w.heap.size]? = some (.cells #[.slice a0 l0 k0, .slice a1 l1 k1, .slice none 0 0, .int .i64 e, .int .i64 o, .int .i64 t] 34 (0, 0)) := by rw [hYS]; simpa using three_set HB3.out 2 (.slice none 0 0)
  have FS : Fr (only (w.heap.size)) y3 YS := by rw [hYS]; exact (Fr.refl (only (w.heap.size)) y3).setCell (p := ⟨w.heap.size, 2, none⟩) (.inl rfl) _
  have FN : Fr no w YS := by rw [hYS]; exact HF3.out.setCell (p := ⟨w.heap.size, 2, none⟩) (.inr (Nat.le_refl _)) _
  have ns := lt_of_blk HB1.out
  have g0 := FS.keepc0 d3_0 (by simp only [only]; omega)
  have g1 := FS.keepc0 d3_1 (by simp only [only]; omega)
  have g2 := FS.keepc0 d3_2 (by simp only [only]; omega)
  have g3 := FS.keepc0 d3_3 (by simp only [only]; omega)
  have g4 := FS.keepc0 d3_4 (by simp only [only]; omega)
  have g5 := FS.keepc0 d3_5 (by simp only [only]; omega)
  have g6 := FS.keepc0 d3_6 (by simp only [only]; omega)
  have g7 := FS.keepc0 d3_7 (by simp only [only]; omega)
  have g8 := FS.keepc0 d3_8 (by simp only [only]; omega)
  have g9 := FS.keepc0 d3_9 (by simp only [only]; omega)
  have g10 := FS.keepc0 d3_10 (by simp only [only]; omega)
  have g11 := FS.keepc0 d3_11 (by simp only [only]; omega)
  have HFN := Lib.hid FN
  have HBS := Lib.hid hbS
  have HYS := Lib.hid hYS
  clear FS FN hbS hYS
  obtain ⟨⟨b0, b1, b2, b3, b4, b5⟩, z0, z1, z2, z3, z4, z5⟩ := six_cells HB3.out
  obtain ⟨⟨a0_, a1_, a2_, a3_, a4_, a5_⟩, -⟩ := six_cells HBS.out
  go_wp2_with fail
  rw [← HYS.out]
  clear b0 b1 b2 b3 b4 b5 z0 z1 z2 z3 z4 z5 a0_ a1_ a2_ a3_ a4_ a5_ d3_0 d3_1 d3_2 d3_3 d3_4 d3_5 d3_6 d3_7 d3_8 d3_9 d3_10 d3_11
  refine (K1.out _ (HP.out.kept HFN.out) (HZ.out.kept HFN.out) (wls_nil _)).mono ?_
  rintro e' y4 ⟨rfl, f4⟩
  obtain ⟨d4_0, d4_1, d4_2, d4_3, d4_4, d4_5, d4_6, d4_7, d4_8, d4_9, d4_10, d4_11⟩ := KT.out _ _ f4 g0 g1 g2 g3 g4 g5 g6 g7 g8 g9 g10 g11
  have HB4 := Lib.hid (f4.blk HBS.out (fun h => h))
  have HF4 := Lib.hid (HFN.out.noTrans f4)
  clear f4 g0 g1 g2 g3 g4 g5 g6 g7 g8 g9 g10 g11
  obtain ⟨⟨b0, b1, b2, b3, b4, b5⟩, -⟩ := six_cells HB4.out
  go_wp2_with fail
  clear b0 b1 b2 b3 b4 b5
  refine (K2.out _ (HP.out.kept HF4.out) (HZ.out.kept HF4.out) (wls_nil _)).mono ?_
  rintro e' y5 ⟨rfl, f5⟩
  obtain ⟨d5_0, d5_1, d5_2, d5_3, d5_4, d5_5, d5_6, d5_7, d5_8, d5_9, d5_10, d5_11⟩ := KT.out _ _ f5 d4_0 d4_1 d4_2 d4_3 d4_4 d4_5 d4_6 d4_7 d4_8 d4_9 d4_10 d4_11
  have HB5 := Lib.hid (f5.blk HB4.out (fun h => h))
  have HF5 := Lib.hid (HF4.out.noTrans f5)
  clear f5 d4_0 d4_1 d4_2 d4_3 d4_4 d4_5 d4_6 d4_7 d4_8 d4_9 d4_10 d4_11
  obtain ⟨⟨b0, b1, b2, b3, b4, b5⟩, -⟩ := six_cells HB5.out
  go_wp2_with fail
  clear b0 b1 b2 b3 b4 b5
  have tokf6 : True := trivial
  have tokf7 : True := trivial
  go_region_held3 (fun w' => w'.cell? ⟨w.heap.size + 1, 0, none⟩ = some (.int .i64 ax) ∧ w'.cell? ⟨w.heap.size + 1, 1, none⟩ = some (.int .i64 ay) ∧ w'.cell? ⟨w.heap.size + 1, 2, none⟩ = some (.int .i64 bx) ∧ w'.cell? ⟨w.heap.size + 1, 3, none⟩ = some (.int .i64 by_) ∧ w'.cell? ⟨y1.heap.size, 0, none⟩ = some (.int .i64 x) ∧ w'.cell? ⟨y1.heap.size, 1, none⟩ = some (.int .i64 y)) (go_keep)
    (first
      | (go_at_call 13; have _tk := tokf6; refine (KA.out _).mono ?_; rintro e w6 ⟨rfl, f6⟩; clear _tk tokf6; obtain ⟨kf60, kf61, kf62, kf63, kf64, kf65, kf66, kf67, kf68, kf69, kf610, kf611⟩ := KT.out _ _ f6 d5_0 d5_1 d5_2 d5_3 d5_4 d5_5 d5_6 d5_7 d5_8 d5_9 d5_10 d5_11)
      | (go_at_call 13; have _tk := tokf7; refine (KB.out _).mono ?_; rintro e w7 ⟨rfl, f7⟩; clear _tk tokf7; obtain ⟨kf70, kf71, kf72, kf73, kf74, kf75, kf76, kf77, kf78, kf79, kf710, kf711⟩ := KT.out _ _ f7 kf60 kf61 kf62 kf63 kf64 kf65 kf66 kf67 kf68 kf69 kf610 kf611))
  have HF6 := Lib.hid ((HF5.out.drew.noTrans f6).noTrans f7)
  have HB6 := Lib.hid (f7.blk (f6.blk (show y5.drew.heap[w.heap.size]? = _ from HB5.out) (fun h => h)) (fun h => h))
  clear f6 f7
  obtain ⟨⟨b0, b1, b2, b3, b4, b5⟩, -⟩ := six_cells HB6.out
  clear d5_0 d5_1 d5_2 d5_3 d5_4 d5_5 d5_6 d5_7 d5_8 d5_9 d5_10 d5_11 kf60 kf61 kf62 kf63 kf64 kf65 kf66 kf67 kf68 kf69 kf610 kf611
  go_wp2_with fail
  clear b0 b1 b2 b3 b4 b5
  refine (K3.out _ (HP.out.kept HF6.out) (HZ.out.kept HF6.out) (wls_nil _)).mono ?_
  rintro e' y8 ⟨rfl, f8⟩
  obtain ⟨d8_0, d8_1, d8_2, d8_3, d8_4, d8_5, d8_6, d8_7, d8_8, d8_9, d8_10, d8_11⟩ := KT.out _ _ f8 kf70 kf71 kf72 kf73 kf74 kf75 kf76 kf77 kf78 kf79 kf710 kf711
  have HF8 := Lib.hid (HF6.out.noTrans f8)
  clear f8 kf70 kf71 kf72 kf73 kf74 kf75 kf76 kf77 kf78 kf79 kf710 kf711
  by_cases e3 : E3 = 0
  · subst e3
    by_cases hm : m < q
    · go_wp2_with fail
      go_ret
      exact ⟨rfl, HF8.out.belowNone (Nat.le_refl _)⟩
    · have hvv := h3 rfl (by omega)
      clear h3
      have hm' : q ≤ m := by omega
      clear hm
      go_wp2_with fail
      go_ret
      exact ⟨rfl, HF8.out.belowNone (Nat.le_refl _)⟩
  · have hE3 : (E3 == 0) = false := by rw [beq_eq_false_iff_ne]; exact e3
    have hE3n : (E3 != 0) = true := by rw [bne_iff_ne]; exact e3
    clear e3 h3
    go_wp2_with fail
    go_ret
    exact ⟨rfl, HF8.out.belowNone (Nat.le_refl _)⟩
set_option maxRecDepth 100000 in
set_option maxHeartbeats 8000000 in
theorem dist_4 (a0 : Option Addr) (l0 k0 : Nat) (a1 : Option Addr) (l1 k1 : Nat) (a2 : Option Addr) (l2 k2 : Nat) (e o t : Int) (ps : List Pt) (zs : List Int) (ws : List Wl) (ax ay bx by_ q na nb x y m : Int) (w : World) (hp : PtsIn w a0 l0 ps) (hz : IntsIn w a1 l1 zs) (E1 E2 E3 V1 V2 V3 : Int) (kk1 : ∀ w : World, PtsIn w a0 l0 ps → IntsIn w a1 l1 zs → WlsIn w none 0 [] → Calls Try.prog 18 #[.agg #[.slice a0 l0 k0, .slice a1 l1 k1, .slice none 0 0, .int .i64 e, .int .i64 o, .int .i64 t], .agg #[.int .i64 ax, .int .i64 ay], .int .i64 q, .agg #[.int .i64 bx, .int .i64 by_]] w fun e' w' => e' = .returned (.tuple #[.int .i64 V1, .int .i64 0]) ∧ Fr no w w') (kk2 : ∀ w : World, PtsIn w a0 l0 ps → IntsIn w a1 l1 zs → WlsIn w none 0 [] → Calls Try.prog 18 #[.agg #[.slice a0 l0 k0, .slice a1 l1 k1, .slice none 0 0, .int .i64 e, .int .i64 o, .int .i64 t], .agg #[.int .i64 ax, .int .i64 ay], .int .i64 q, .agg #[.int .i64 x, .int .i64 y]] w fun e' w' => e' = .returned (.tuple #[.int .i64 V2, .int .i64 0]) ∧ Fr no w w') (kk3 : ∀ w : World, PtsIn w a0 l0 ps → IntsIn w a1 l1 zs → WlsIn w none 0 [] → Calls Try.prog 18 #[.agg #[.slice a0 l0 k0, .slice a1 l1 k1, .slice none 0 0, .int .i64 e, .int .i64 o, .int .i64 t], .agg #[.int .i64 ax, .int .i64 ay], .int .i64 m, .agg #[.int .i64 bx, .int .i64 by_]] w fun e' w' => e' = .returned (.tuple #[.int .i64 V3, .int .i64 E3]) ∧ Fr no w w') (n1 : nr ax) (n2 : nr ay) (n3 : nr bx) (n4 : nr by_) (n5 : nr x) (n6 : nr y) (hs : sqF ax ay x y < sqF ax ay bx by_) (h3 : E3 = 0 → q ≤ m → V1 ≤ V3) : Calls Try.prog 9 #[.agg #[.slice a0 l0 k0, .slice a1 l1 k1, .slice a2 l2 k2, .int .i64 e, .int .i64 o, .int .i64 t], .agg #[.int .i64 ax, .int .i64 ay, .int .i64 bx, .int .i64 by_, .int .i64 q, .int .i64 na, .int .i64 nb], .agg #[.int .i64 x, .int .i64 y, .int .i64 m]] w fun e' w' => e' = .returned (.bool true) ∧ Below w.heap.size w w' := by
  have KA := Lib.hid (fun w => square_any ax ay bx by_ w n1 n2 n3 n4)
  have KB := Lib.hid (fun w => square_any ax ay x y w n1 n2 n5 n6)
  clear n1 n2 n3 n4 n5 n6
  generalize sqF ax ay bx by_ = SA at *
  generalize sqF ax ay x y = SB at *
  have hsd : decide (SA ≤ SB) = false := by simpa using hs
  have K1 := Lib.hid kk1
  have K2 := Lib.hid kk2
  have K3 := Lib.hid kk3
  have HP := Lib.hid hp
  have HZ := Lib.hid hz
  clear kk1 kk2 kk3 hp hz
  have KS := Lib.hid (show ∀ w0 w' : World, Fr no w0 w' → w0.cell? ⟨w.heap.size + 1, 0, none⟩ = some (.int .i64 ax) → w0.cell? ⟨w.heap.size + 1, 1, none⟩ = some (.int .i64 ay) → w0.cell? ⟨w.heap.size + 1, 2, none⟩ = some (.int .i64 bx) → w0.cell? ⟨w.heap.size + 1, 3, none⟩ = some (.int .i64 by_) → w0.cell? ⟨w.heap.size + 1, 4, none⟩ = some (.int .i64 q) → w0.cell? ⟨w.heap.size + 1, 5, none⟩ = some (.int .i64 na) → w0.cell? ⟨w.heap.size + 1, 6, none⟩ = some (.int .i64 nb) → w0.cell? ⟨w.heap.size + 1 + 1, 0, none⟩ = some (.int .i64 x) → w0.cell? ⟨w.heap.size + 1 + 1, 1, none⟩ = some (.int .i64 y) → w0.cell? ⟨w.heap.size + 1 + 1, 2, none⟩ = some (.int .i64 m) → (w'.cell? ⟨w.heap.size + 1, 0, none⟩ = some (.int .i64 ax) ∧ w'.cell? ⟨w.heap.size + 1, 1, none⟩ = some (.int .i64 ay) ∧ w'.cell? ⟨w.heap.size + 1, 2, none⟩ = some (.int .i64 bx) ∧ w'.cell? ⟨w.heap.size + 1, 3, none⟩ = some (.int .i64 by_) ∧ w'.cell? ⟨w.heap.size + 1, 4, none⟩ = some (.int .i64 q) ∧ w'.cell? ⟨w.heap.size + 1, 5, none⟩ = some (.int .i64 na) ∧ w'.cell? ⟨w.heap.size + 1, 6, none⟩ = some (.int .i64 nb) ∧ w'.cell? ⟨w.heap.size + 1 + 1, 0, none⟩ = some (.int .i64 x) ∧ w'.cell? ⟨w.heap.size + 1 + 1, 1, none⟩ = some (.int .i64 y) ∧ w'.cell? ⟨w.heap.size + 1 + 1, 2, none⟩ = some (.int .i64 m)) from fun _ _ h a0 a1 a2 a3 a4 a5 a6 a7 a8 a9 => ⟨h.keepc a0, h.keepc a1, h.keepc a2, h.keepc a3, h.keepc a4, h.keepc a5, h.keepc a6, h.keepc a7, h.keepc a8, h.keepc a9⟩)
  obtain ⟨W, hW⟩ : ∃ W, W = (((w.alloc (.cells #[.slice a0 l0 k0, .slice a1 l1 k1, .slice a2 l2 k2, .int .i64 e, .int .i64 o, .int .i64 t] 34 (0, 0))).alloc (.cells #[.int .i64 ax, .int .i64 ay, .int .i64 bx, .int .i64 by_, .int .i64 q, .int .i64 na, .int .i64 nb] 36 (0, 0))).alloc (.cells #[.int .i64 x, .int .i64 y, .int .i64 m] 60 (0, 0))) := ⟨_, rfl⟩
  have HF := Lib.hid (show Fr no w W by rw [hW]; exact (((Fr.refl no w).alloc _).alloc _).alloc _)
  have c0 : W.cell? ⟨w.heap.size, 0, none⟩ = some (.slice a0 l0 k0) := by rw [hW]; go_simp
  have c1 : W.cell? ⟨w.heap.size, 1, none⟩ = some (.slice a1 l1 k1) := by rw [hW]; go_simp
  have c2 : W.cell? ⟨w.heap.size, 2, none⟩ = some (.slice a2 l2 k2) := by rw [hW]; go_simp
  have c3 : W.cell? ⟨w.heap.size, 3, none⟩ = some (.int .i64 e) := by rw [hW]; go_simp
  have c4 : W.cell? ⟨w.heap.size, 4, none⟩ = some (.int .i64 o) := by rw [hW]; go_simp
  have c5 : W.cell? ⟨w.heap.size, 5, none⟩ = some (.int .i64 t) := by rw [hW]; go_simp
  have c6 : W.cell? ⟨w.heap.size + 1, 0, none⟩ = some (.int .i64 ax) := by rw [hW]; go_simp
  have c7 : W.cell? ⟨w.heap.size + 1, 1, none⟩ = some (.int .i64 ay) := by rw [hW]; go_simp
  have c8 : W.cell? ⟨w.heap.size + 1, 2, none⟩ = some (.int .i64 bx) := by rw [hW]; go_simp
  have c9 : W.cell? ⟨w.heap.size + 1, 3, none⟩ = some (.int .i64 by_) := by rw [hW]; go_simp
  have c10 : W.cell? ⟨w.heap.size + 1, 4, none⟩ = some (.int .i64 q) := by rw [hW]; go_simp
  have c11 : W.cell? ⟨w.heap.size + 1, 5, none⟩ = some (.int .i64 na) := by rw [hW]; go_simp
  have c12 : W.cell? ⟨w.heap.size + 1, 6, none⟩ = some (.int .i64 nb) := by rw [hW]; go_simp
  have c13 : W.cell? ⟨w.heap.size + 1 + 1, 0, none⟩ = some (.int .i64 x) := by rw [hW]; go_simp
  have c14 : W.cell? ⟨w.heap.size + 1 + 1, 1, none⟩ = some (.int .i64 y) := by rw [hW]; go_simp
  have c15 : W.cell? ⟨w.heap.size + 1 + 1, 2, none⟩ = some (.int .i64 m) := by rw [hW]; go_simp
  have HW := Lib.hid hW
  clear hW
  have hb : W.heap[w.heap.size]? = some (.cells #[.slice a0 l0 k0, .slice a1 l1 k1, .slice a2 l2 k2, .int .i64 e, .int .i64 o, .int .i64 t] 34 (0, 0)) := by rw [HW.out]; exact alloc_keeps (alloc_keeps (heap_alloc_new w _) _) _
  have HB := Lib.hid hb
  clear hb c0 c1 c2 c3 c4 c5
  have g0 := c6
  have g1 := c7
  have g2 := c8
  have g3 := c9
  have g4 := c10
  have g5 := c11
  have g6 := c12
  have g7 := c13
  have g8 := c14
  have g9 := c15
  clear c6 c7 c8 c9 c10 c11 c12 c13 c14 c15
  go_enter Try.func9, Try.ntmps9
  go_wp2_with fail
  rw [← HW.out]
  refine (awake_any _).mono ?_
  rintro e y1 ⟨rfl, f1⟩
  obtain ⟨d1_0, d1_1, d1_2, d1_3, d1_4, d1_5, d1_6, d1_7, d1_8, d1_9⟩ := KS.out _ _ f1 g0 g1 g2 g3 g4 g5 g6 g7 g8 g9
  have HF1 := Lib.hid (HF.out.noTrans f1)
  clear g0 g1 g2 g3 g4 g5 g6 g7 g8 g9
  go_wp2_with fail
  have HB1 := Lib.hid (f1.blk HB.out (fun h => h))
  clear f1
  have r2 := blt d1_9
  have ks2 : ∀ w0 w' : World, Fr no w0 w' → w0.cell? ⟨w.heap.size + 1, 0, none⟩ = some (.int .i64 ax) → w0.cell? ⟨w.heap.size + 1, 1, none⟩ = some (.int .i64 ay) → w0.cell? ⟨w.heap.size + 1, 2, none⟩ = some (.int .i64 bx) → w0.cell? ⟨w.heap.size + 1, 3, none⟩ = some (.int .i64 by_) → w0.cell? ⟨w.heap.size + 1, 4, none⟩ = some (.int .i64 q) → w0.cell? ⟨w.heap.size + 1, 5, none⟩ = some (.int .i64 na) → w0.cell? ⟨w.heap.size + 1, 6, none⟩ = some (.int .i64 nb) → w0.cell? ⟨w.heap.size + 1 + 1, 0, none⟩ = some (.int .i64 x) → w0.cell? ⟨w.heap.size + 1 + 1, 1, none⟩ = some (.int .i64 y) → w0.cell? ⟨w.heap.size + 1 + 1, 2, none⟩ = some (.int .i64 m) → w0.cell? ⟨y1.heap.size, 0, none⟩ = some (.int .i64 x) → w0.cell? ⟨y1.heap.size, 1, none⟩ = some (.int .i64 y) → (w'.cell? ⟨w.heap.size + 1, 0, none⟩ = some (.int .i64 ax) ∧ w'.cell? ⟨w.heap.size + 1, 1, none⟩ = some (.int .i64 ay) ∧ w'.cell? ⟨w.heap.size + 1, 2, none⟩ = some (.int .i64 bx) ∧ w'.cell? ⟨w.heap.size + 1, 3, none⟩ = some (.int .i64 by_) ∧ w'.cell? ⟨w.heap.size + 1, 4, none⟩ = some (.int .i64 q) ∧ w'.cell? ⟨w.heap.size + 1, 5, none⟩ = some (.int .i64 na) ∧ w'.cell? ⟨w.heap.size + 1, 6, none⟩ = some (.int .i64 nb) ∧ w'.cell? ⟨w.heap.size + 1 + 1, 0, none⟩ = some (.int .i64 x) ∧ w'.cell? ⟨w.heap.size + 1 + 1, 1, none⟩ = some (.int .i64 y) ∧ w'.cell? ⟨w.heap.size + 1 + 1, 2, none⟩ = some (.int .i64 m) ∧ w'.cell? ⟨y1.heap.size, 0, none⟩ = some (.int .i64 x) ∧ w'.cell? ⟨y1.heap.size, 1, none⟩ = some (.int .i64 y)) := fun _ _ h a0 a1 a2 a3 a4 a5 a6 a7 a8 a9 a10 a11 => ⟨h.keepc a0, h.keepc a1, h.keepc a2, h.keepc a3, h.keepc a4, h.keepc a5, h.keepc a6, h.keepc a7, h.keepc a8, h.keepc a9, h.keepc a10, h.keepc a11⟩
  have KT := Lib.hid ks2
  clear ks2
  go_region
  obtain ⟨Y2, hY2⟩ : ∃ Y, Y = (y1.alloc (.cells #[.int .i64 x, .int .i64 y] 23 (0, 0))).drew := ⟨_, rfl⟩
  have F2 : Fr no y1 Y2 := by rw [hY2]; exact ((Fr.refl no y1).alloc _).drew
  have g0 := F2.keepc d1_0
  have g1 := F2.keepc d1_1
  have g2 := F2.keepc d1_2
  have g3 := F2.keepc d1_3
  have g4 := F2.keepc d1_4
  have g5 := F2.keepc d1_5
  have g6 := F2.keepc d1_6
  have g7 := F2.keepc d1_7
  have g8 := F2.keepc d1_8
  have g9 := F2.keepc d1_9
  have g10 : Y2.cell? ⟨y1.heap.size, 0, none⟩ = some (.int .i64 x) := by rw [hY2]; go_simp
  have g11 : Y2.cell? ⟨y1.heap.size, 1, none⟩ = some (.int .i64 y) := by rw [hY2]; go_simp
  have HB2 := Lib.hid (F2.blk HB1.out (fun h => h))
  have HY2 := Lib.hid hY2
  have HF2 := Lib.hid (HF1.out.noTrans F2)
  clear F2 hY2 r2 d1_0 d1_1 d1_2 d1_3 d1_4 d1_5 d1_6 d1_7 d1_8 d1_9
  rw [← HY2.out]
  obtain ⟨⟨b0, b1, b2, b3, b4, b5⟩, -⟩ := six_cells HB2.out
  go_wp2_with fail
  clear b0 b1 b2 b3 b4 b5
  refine (few_any a0 l0 k0 a1 l1 k1 a2 l2 k2 e o t _).mono ?_
  rintro e' y3 ⟨rfl, f3⟩
  obtain ⟨d3_0, d3_1, d3_2, d3_3, d3_4, d3_5, d3_6, d3_7, d3_8, d3_9, d3_10, d3_11⟩ := KT.out _ _ f3 g0 g1 g2 g3 g4 g5 g6 g7 g8 g9 g10 g11
  have HB3 := Lib.hid (f3.blk HB2.out (fun h => h))
  have HF3 := Lib.hid (HF2.out.noTrans f3)
  clear f3 g0 g1 g2 g3 g4 g5 g6 g7 g8 g9 g10 g11
  cases hfew : decide (l0 ≤ 40 ∧ l1 ≤ 40 ∧ l2 ≤ 40)
  · clear hfew
    go_wp2_with fail
    go_ret
    exact ⟨rfl, HF3.out.belowNone (Nat.le_refl _)⟩
  clear hfew
  obtain ⟨YS, hYS⟩ : ∃ Y, Y = y3.setCell ⟨w.heap.size, 2, none⟩ (.slice none 0 0) := ⟨_, rfl⟩
  have hbS : YS.heap[w.heap.size]? = some (.cells #[.slice a0 l0 k0, .slice a1 l1 k1, .slice none 0 0, .int .i64 e, .int .i64 o, .int .i64 t] 34 (0, 0)) := by rw [hYS]; simpa using three_set HB3.out 2 (.slice none 0 0)
  have FS : Fr (only (w.heap.size)) y3 YS := by rw [hYS]; exact (Fr.refl (only (w.heap.size)) y3).setCell (p := ⟨w.heap.size, 2, none⟩) (.inl rfl) _
  have FN : Fr no w YS := by rw [hYS]; exact HF3.out.setCell (p := ⟨w.heap.size, 2, none⟩) (.inr (Nat.le_refl _)) _
  have ns := lt_of_blk HB1.out
  have g0 := FS.keepc0 d3_0 (by simp only [only]; omega)
  have g1 := FS.keepc0 d3_1 (by simp only [only]; omega)
  have g2 := FS.keepc0 d3_2 (by simp only [only]; omega)
  have g3 := FS.keepc0 d3_3 (by simp only [only]; omega)
  have g4 := FS.keepc0 d3_4 (by simp only [only]; omega)
  have g5 := FS.keepc0 d3_5 (by simp only [only]; omega)
  have g6 := FS.keepc0 d3_6 (by simp only [only]; omega)
  have g7 := FS.keepc0 d3_7 (by simp only [only]; omega)
  have g8 := FS.keepc0 d3_8 (by simp only [only]; omega)
  have g9 := FS.keepc0 d3_9 (by simp only [only]; omega)
  have g10 := FS.keepc0 d3_10 (by simp only [only]; omega)
  have g11 := FS.keepc0 d3_11 (by simp only [only]; omega)
  have HFN := Lib.hid FN
  have HBS := Lib.hid hbS
  have HYS := Lib.hid hYS
  clear FS FN hbS hYS
  obtain ⟨⟨b0, b1, b2, b3, b4, b5⟩, z0, z1, z2, z3, z4, z5⟩ := six_cells HB3.out
  obtain ⟨⟨a0_, a1_, a2_, a3_, a4_, a5_⟩, -⟩ := six_cells HBS.out
  go_wp2_with fail
  rw [← HYS.out]
  clear b0 b1 b2 b3 b4 b5 z0 z1 z2 z3 z4 z5 a0_ a1_ a2_ a3_ a4_ a5_ d3_0 d3_1 d3_2 d3_3 d3_4 d3_5 d3_6 d3_7 d3_8 d3_9 d3_10 d3_11
  refine (K1.out _ (HP.out.kept HFN.out) (HZ.out.kept HFN.out) (wls_nil _)).mono ?_
  rintro e' y4 ⟨rfl, f4⟩
  obtain ⟨d4_0, d4_1, d4_2, d4_3, d4_4, d4_5, d4_6, d4_7, d4_8, d4_9, d4_10, d4_11⟩ := KT.out _ _ f4 g0 g1 g2 g3 g4 g5 g6 g7 g8 g9 g10 g11
  have HB4 := Lib.hid (f4.blk HBS.out (fun h => h))
  have HF4 := Lib.hid (HFN.out.noTrans f4)
  clear f4 g0 g1 g2 g3 g4 g5 g6 g7 g8 g9 g10 g11
  obtain ⟨⟨b0, b1, b2, b3, b4, b5⟩, -⟩ := six_cells HB4.out
  go_wp2_with fail
  clear b0 b1 b2 b3 b4 b5
  refine (K2.out _ (HP.out.kept HF4.out) (HZ.out.kept HF4.out) (wls_nil _)).mono ?_
  rintro e' y5 ⟨rfl, f5⟩
  obtain ⟨d5_0, d5_1, d5_2, d5_3, d5_4, d5_5, d5_6, d5_7, d5_8, d5_9, d5_10, d5_11⟩ := KT.out _ _ f5 d4_0 d4_1 d4_2 d4_3 d4_4 d4_5 d4_6 d4_7 d4_8 d4_9 d4_10 d4_11
  have HB5 := Lib.hid (f5.blk HB4.out (fun h => h))
  have HF5 := Lib.hid (HF4.out.noTrans f5)
  clear f5 d4_0 d4_1 d4_2 d4_3 d4_4 d4_5 d4_6 d4_7 d4_8 d4_9 d4_10 d4_11
  obtain ⟨⟨b0, b1, b2, b3, b4, b5⟩, -⟩ := six_cells HB5.out
  go_wp2_with fail
  clear b0 b1 b2 b3 b4 b5
  have tokf6 : True := trivial
  have tokf7 : True := trivial
  refine wp_region_held_drew (S := (fun w' => w'.cell? ⟨w.heap.size + 1, 0, none⟩ = some (.int .i64 ax) ∧ w'.cell? ⟨w.heap.size + 1, 1, none⟩ = some (.int .i64 ay) ∧ w'.cell? ⟨w.heap.size + 1, 2, none⟩ = some (.int .i64 bx) ∧ w'.cell? ⟨w.heap.size + 1, 3, none⟩ = some (.int .i64 by_) ∧ w'.cell? ⟨y1.heap.size, 0, none⟩ = some (.int .i64 x) ∧ w'.cell? ⟨y1.heap.size, 1, none⟩ = some (.int .i64 y))) (by kernel_rfl) ?_ (fun hHeld => ?_)
  · try dsimp only
    go_keep
  refine wpAnyH_take (i := 0) (oi := { dst := some 46, op := Go.Op.move (Go.Operand.tmp 10), type := 38, pos := "law.go:163", after := #[], guard := none }) (v := ?_) rfl (by kernel_rfl) (by kernel_rfl) (by kernel_rfl) (fun _ _ _ h => h) (Or.inl ⟨by rfl, ?hy⟩) (by assumption) ?_
  case hy =>
    intro w_ hSw_
    (try dsimp only at hSw_)
    go_simp
    try with_reducible rfl
  try simp only [Act.put, List.setIfInBounds_toArray, List.set_cons_zero, List.set_cons_succ]
  refine wpAnyH_take (i := 1) (oi := { dst := some 47, op := Go.Op.binOp Go.BinOp.eql 38 (Go.Operand.tmp 46) (Go.Operand.const (Go.Value.int Go.IntKind.i64 0)) 38, type := 4, pos := "law.go:163", after := #[{ on := 0, ground := Go.Ground.data }], guard := none }) (v := ?_) rfl (by kernel_rfl) (by kernel_rfl) (by kernel_rfl) (fun _ _ _ h => h) (Or.inl ⟨by rfl, ?hy⟩) (by assumption) ?_
  case hy =>
    intro w_ hSw_
    (try dsimp only at hSw_)
    go_simp
    try with_reducible rfl
  try simp only [Act.put, List.setIfInBounds_toArray, List.set_cons_zero, List.set_cons_succ]
  refine wpAnyH_take (i := 2) (oi := { dst := some 48, op := Go.Op.move (Go.Operand.tmp 47), type := 4, pos := "law.go:163", after := #[{ on := 1, ground := Go.Ground.data }], guard := none }) (v := ?_) rfl (by kernel_rfl) (by kernel_rfl) (by kernel_rfl) (fun _ _ _ h => h) (Or.inl ⟨by rfl, ?hy⟩) (by assumption) ?_
  case hy =>
    intro w_ hSw_
    (try dsimp only at hSw_)
    go_simp
    try with_reducible rfl
  try simp only [Act.put, List.setIfInBounds_toArray, List.set_cons_zero, List.set_cons_succ]
  refine wpAnyH_take (i := 3) (oi := { dst := some 49, op := Go.Op.move (Go.Operand.tmp 12), type := 38, pos := "law.go:163", after := #[{ on := 2, ground := Go.Ground.guard }], guard := some (2, true) }) (v := ?_) rfl (by kernel_rfl) (by kernel_rfl) (by kernel_rfl) (fun _ _ _ h => h) (Or.inl ⟨by rfl, ?hy⟩) (by assumption) ?_
  case hy =>
    intro w_ hSw_
    (try dsimp only at hSw_)
    go_simp
    try with_reducible rfl
  try simp only [Act.put, List.setIfInBounds_toArray, List.set_cons_zero, List.set_cons_succ]
  refine wpAnyH_take (i := 4) (oi := { dst := some 50, op := Go.Op.binOp Go.BinOp.eql 38 (Go.Operand.tmp 49) (Go.Operand.const (Go.Value.int Go.IntKind.i64 0)) 38, type := 4, pos := "law.go:163", after := #[{ on := 3, ground := Go.Ground.data }, { on := 2, ground := Go.Ground.guard }], guard := some (2, true) }) (v := ?_) rfl (by kernel_rfl) (by kernel_rfl) (by kernel_rfl) (fun _ _ _ h => h) (Or.inl ⟨by rfl, ?hy⟩) (by assumption) ?_
  case hy =>
    intro w_ hSw_
    (try dsimp only at hSw_)
    go_simp
    try with_reducible rfl
  try simp only [Act.put, List.setIfInBounds_toArray, List.set_cons_zero, List.set_cons_succ]
  refine wpAnyH_take (i := 5) (oi := { dst := some 51, op := Go.Op.pick (Go.Operand.tmp 48) (Go.Operand.tmp 50) (Go.Operand.const (Go.Value.bool false)), type := 4, pos := "law.go:163", after := #[{ on := 2, ground := Go.Ground.data }, { on := 4, ground := Go.Ground.data }], guard := none }) (v := ?_) rfl (by kernel_rfl) (by kernel_rfl) (by kernel_rfl) (fun _ _ _ h => h) (Or.inl ⟨by rfl, ?hy⟩) (by assumption) ?_
  case hy =>
    intro w_ hSw_
    (try dsimp only at hSw_)
    go_simp
    try with_reducible rfl
  try simp only [Act.put, List.setIfInBounds_toArray, List.set_cons_zero, List.set_cons_succ]
  refine wpAnyH_take (i := 6) (oi := { dst := some 52, op := Go.Op.move (Go.Operand.tmp 51), type := 4, pos := "law.go:163", after := #[{ on := 5, ground := Go.Ground.data }, { on := 2, ground := Go.Ground.chain }], guard := none }) (v := ?_) rfl (by kernel_rfl) (by kernel_rfl) (by kernel_rfl) (fun _ _ _ h => h) (Or.inl ⟨by rfl, ?hy⟩) (by assumption) ?_
  case hy =>
    intro w_ hSw_
    (try dsimp only at hSw_)
    go_simp
    try with_reducible rfl
  try simp only [Act.put, List.setIfInBounds_toArray, List.set_cons_zero, List.set_cons_succ]
  refine wpAnyH_take (i := 7) (oi := { dst := some 53, op := Go.Op.fieldAddr 36 (Go.Operand.tmp 4) 0, type := 0, pos := "law.go:163", after := #[{ on := 6, ground := Go.Ground.guard }], guard := some (6, true) }) (v := ?_) rfl (by kernel_rfl) (by kernel_rfl) (by kernel_rfl) (fun _ _ _ h => h) (Or.inl ⟨by rfl, ?hy⟩) (by assumption) ?_
  case hy =>
    intro w_ hSw_
    (try dsimp only at hSw_)
    go_simp
    try with_reducible rfl
  try simp only [Act.put, List.setIfInBounds_toArray, List.set_cons_zero, List.set_cons_succ]
  refine wpAnyH_take (i := 8) (oi := { dst := some 54, op := Go.Op.load 23 (Go.Operand.tmp 53), type := 23, pos := "law.go:163", after := #[{ on := 7, ground := Go.Ground.data }, { on := 6, ground := Go.Ground.guard }], guard := some (6, true) }) (v := ?_) rfl (by kernel_rfl) (by kernel_rfl) (by kernel_rfl) (fun _ _ _ h => h) (Or.inl ⟨by rfl, ?hy⟩) (by assumption) ?_
  case hy =>
    intro w_ hSw_
    (try dsimp only at hSw_)
    go_simp
    try with_reducible rfl
  try simp only [Act.put, List.setIfInBounds_toArray, List.set_cons_zero, List.set_cons_succ]
  refine wpAnyH_take (i := 9) (oi := { dst := some 55, op := Go.Op.fieldAddr 36 (Go.Operand.tmp 4) 1, type := 0, pos := "law.go:163", after := #[{ on := 6, ground := Go.Ground.guard }], guard := some (6, true) }) (v := ?_) rfl (by kernel_rfl) (by kernel_rfl) (by kernel_rfl) (fun _ _ _ h => h) (Or.inl ⟨by rfl, ?hy⟩) (by assumption) ?_
  case hy =>
    intro w_ hSw_
    (try dsimp only at hSw_)
    go_simp
    try with_reducible rfl
  try simp only [Act.put, List.setIfInBounds_toArray, List.set_cons_zero, List.set_cons_succ]
  refine wpAnyH_take (i := 10) (oi := { dst := some 56, op := Go.Op.load 23 (Go.Operand.tmp 55), type := 23, pos := "law.go:163", after := #[{ on := 9, ground := Go.Ground.data }, { on := 6, ground := Go.Ground.guard }], guard := some (6, true) }) (v := ?_) rfl (by kernel_rfl) (by kernel_rfl) (by kernel_rfl) (fun _ _ _ h => h) (Or.inl ⟨by rfl, ?hy⟩) (by assumption) ?_
  case hy =>
    intro w_ hSw_
    (try dsimp only at hSw_)
    go_simp
    try with_reducible rfl
  try simp only [Act.put, List.setIfInBounds_toArray, List.set_cons_zero, List.set_cons_succ]
  refine wpAnyH_take (i := 12) (oi := { dst := some 58, op := Go.Op.fieldAddr 36 (Go.Operand.tmp 4) 0, type := 0, pos := "law.go:163", after := #[{ on := 6, ground := Go.Ground.guard }], guard := some (6, true) }) (v := ?_) rfl (by kernel_rfl) (by kernel_rfl) (by kernel_rfl) (fun _ _ _ h => h) (Or.inl ⟨by rfl, ?hy⟩) (by assumption) ?_
  case hy =>
    intro w_ hSw_
    (try dsimp only at hSw_)
    go_simp
    try with_reducible rfl
  try simp only [Act.put, List.setIfInBounds_toArray, List.set_cons_zero, List.set_cons_succ]
  refine wpAnyH_take (i := 13) (oi := { dst := some 59, op := Go.Op.load 23 (Go.Operand.tmp 58), type := 23, pos := "law.go:163", after := #[{ on := 12, ground := Go.Ground.data }, { on := 6, ground := Go.Ground.guard }], guard := some (6, true) }) (v := ?_) rfl (by kernel_rfl) (by kernel_rfl) (by kernel_rfl) (fun _ _ _ h => h) (Or.inl ⟨by rfl, ?hy⟩) (by assumption) ?_
  case hy =>
    intro w_ hSw_
    (try dsimp only at hSw_)
    go_simp
    try with_reducible rfl
  try simp only [Act.put, List.setIfInBounds_toArray, List.set_cons_zero, List.set_cons_succ]
  refine wpAnyH_take (i := 14) (oi := { dst := some 60, op := Go.Op.load 23 (Go.Operand.tmp 7), type := 23, pos := "law.go:163", after := #[{ on := 6, ground := Go.Ground.guard }], guard := some (6, true) }) (v := ?_) rfl (by kernel_rfl) (by kernel_rfl) (by kernel_rfl) (fun _ _ _ h => h) (Or.inl ⟨by rfl, ?hy⟩) (by assumption) ?_
  case hy =>
    intro w_ hSw_
    (try dsimp only at hSw_)
    go_simp
    try with_reducible rfl
  try simp only [Act.put, List.setIfInBounds_toArray, List.set_cons_zero, List.set_cons_succ]
  refine wpAnyH_ready (rs := [11]) (by kernel_rfl) (by simp) ?_
  refine AllReadyH.cons (o := { dst := some 57, op := Go.Op.call { callee := Go.Callee.value (Go.Operand.func 13), args := #[Go.Operand.tmp 54, Go.Operand.tmp 56], argTypes := #[23, 23] }, type := 3, pos := "law.go:163", after := #[{ on := 8, ground := Go.Ground.data }, { on := 10, ground := Go.Ground.data }, { on := 6, ground := Go.Ground.chain }, { on := 6, ground := Go.Ground.guard }], guard := some (6, true) }) rfl (fun K hK => ?_) AllReadyH.nil
  go_simp
  refine (KA.out _).mono ?_
  rintro e' w6 ⟨rfl, f6⟩
  obtain ⟨kf60, kf61, kf62, kf63, kf64, kf65, kf66, kf67, kf68, kf69, kf610, kf611⟩ := KT.out _ _ f6 d5_0 d5_1 d5_2 d5_3 d5_4 d5_5 d5_6 d5_7 d5_8 d5_9 d5_10 d5_11
  refine hK.out _ _ ?_ (fun hHeld2 => ?_)
  · try dsimp only
    go_keep
  clear hK K
  try simp only [Act.put, List.setIfInBounds_toArray, List.set_cons_zero, List.set_cons_succ]
  refine wpAnyH_ready (rs := [15]) (by kernel_rfl) (by simp) ?_
  refine AllReadyH.cons (o := { dst := some 61, op := Go.Op.call { callee := Go.Callee.value (Go.Operand.func 13), args := #[Go.Operand.tmp 59, Go.Operand.tmp 60], argTypes := #[23, 23] }, type := 3, pos := "law.go:163", after := #[{ on := 13, ground := Go.Ground.data }, { on := 14, ground := Go.Ground.data }, { on := 11, ground := Go.Ground.chain }, { on := 6, ground := Go.Ground.guard }], guard := some (6, true) }) rfl (fun K hK => ?_) AllReadyH.nil
  go_simp
  refine (KB.out _).mono ?_
  rintro e' w7 ⟨rfl, f7⟩
  obtain ⟨kf70, kf71, kf72, kf73, kf74, kf75, kf76, kf77, kf78, kf79, kf710, kf711⟩ := KT.out _ _ f7 kf60 kf61 kf62 kf63 kf64 kf65 kf66 kf67 kf68 kf69 kf610 kf611
  refine hK.out _ _ ?_ (fun hHeld3 => ?_)
  · try dsimp only
    go_keep
  clear hK K
  try simp only [Act.put, List.setIfInBounds_toArray, List.set_cons_zero, List.set_cons_succ]
  refine wpAnyH_take (i := 16) (oi := { dst := some 62, op := Go.Op.binOp Go.BinOp.leq 3 (Go.Operand.tmp 57) (Go.Operand.tmp 61) 3, type := 4, pos := "law.go:163", after := #[{ on := 11, ground := Go.Ground.data }, { on := 15, ground := Go.Ground.data }, { on := 6, ground := Go.Ground.guard }], guard := some (6, true) }) (v := ?_) rfl (by kernel_rfl) (by kernel_rfl) (by kernel_rfl) (fun _ _ _ h => h) (Or.inl ⟨by rfl, ?hy⟩) (by assumption) ?_
  case hy =>
    intro w_ hSw_
    (try dsimp only at hSw_)
    go_simp
    try with_reducible rfl
  try simp only [Act.put, List.setIfInBounds_toArray, List.set_cons_zero, List.set_cons_succ]
  refine wpAnyH_take (i := 17) (oi := { dst := some 63, op := Go.Op.pick (Go.Operand.tmp 52) (Go.Operand.tmp 62) (Go.Operand.const (Go.Value.bool false)), type := 4, pos := "law.go:163", after := #[{ on := 6, ground := Go.Ground.data }, { on := 16, ground := Go.Ground.data }], guard := none }) (v := ?_) rfl (by kernel_rfl) (by kernel_rfl) (by kernel_rfl) (fun _ _ _ h => h) (Or.inl ⟨by rfl, ?hy⟩) (by assumption) ?_
  case hy =>
    intro w_ hSw_
    (try dsimp only at hSw_)
    go_simp
    try with_reducible rfl
  try simp only [Act.put, List.setIfInBounds_toArray, List.set_cons_zero, List.set_cons_succ]
  refine wpAnyH_take (i := 18) (oi := { dst := some 64, op := Go.Op.move (Go.Operand.tmp 63), type := 4, pos := "law.go:163", after := #[{ on := 17, ground := Go.Ground.data }, { on := 15, ground := Go.Ground.chain }], guard := none }) (v := ?_) rfl (by kernel_rfl) (by kernel_rfl) (by kernel_rfl) (fun _ _ _ h => h) (Or.inl ⟨by rfl, ?hy⟩) (by assumption) ?_
  case hy =>
    intro w_ hSw_
    (try dsimp only at hSw_)
    go_simp
    try with_reducible rfl
  try simp only [Act.put, List.setIfInBounds_toArray, List.set_cons_zero, List.set_cons_succ]
  refine wpAnyH_take (i := 19) (oi := { dst := some 65, op := Go.Op.move (Go.Operand.tmp 9), type := 3, pos := "law.go:163", after := #[{ on := 18, ground := Go.Ground.guard }], guard := some (18, true) }) (v := undef) rfl (by kernel_rfl) (by kernel_rfl) (by kernel_rfl) (fun _ _ _ h => h) (Or.inr ⟨by rfl, rfl⟩) (by assumption) ?_
  try simp only [Act.put, List.setIfInBounds_toArray, List.set_cons_zero, List.set_cons_succ]
  refine wpAnyH_take (i := 20) (oi := { dst := some 66, op := Go.Op.move (Go.Operand.tmp 11), type := 3, pos := "law.go:163", after := #[{ on := 18, ground := Go.Ground.guard }], guard := some (18, true) }) (v := undef) rfl (by kernel_rfl) (by kernel_rfl) (by kernel_rfl) (fun _ _ _ h => h) (Or.inr ⟨by rfl, rfl⟩) (by assumption) ?_
  try simp only [Act.put, List.setIfInBounds_toArray, List.set_cons_zero, List.set_cons_succ]
  refine wpAnyH_take (i := 21) (oi := { dst := some 67, op := Go.Op.binOp Go.BinOp.lss 3 (Go.Operand.tmp 65) (Go.Operand.tmp 66) 3, type := 4, pos := "law.go:163", after := #[{ on := 19, ground := Go.Ground.data }, { on := 20, ground := Go.Ground.data }, { on := 18, ground := Go.Ground.guard }], guard := some (18, true) }) (v := undef) rfl (by kernel_rfl) (by kernel_rfl) (by kernel_rfl) (fun _ _ _ h => h) (Or.inr ⟨by rfl, rfl⟩) (by assumption) ?_
  try simp only [Act.put, List.setIfInBounds_toArray, List.set_cons_zero, List.set_cons_succ]
  refine wpAnyH_take (i := 22) (oi := { dst := some 68, op := Go.Op.pick (Go.Operand.tmp 64) (Go.Operand.tmp 67) (Go.Operand.const (Go.Value.bool false)), type := 4, pos := "law.go:163", after := #[{ on := 18, ground := Go.Ground.data }, { on := 21, ground := Go.Ground.data }], guard := none }) (v := ?_) rfl (by kernel_rfl) (by kernel_rfl) (by kernel_rfl) (fun _ _ _ h => h) (Or.inl ⟨by rfl, ?hy⟩) (by assumption) ?_
  case hy =>
    intro w_ hSw_
    (try dsimp only at hSw_)
    go_simp
    try with_reducible rfl
  try simp only [Act.put, List.setIfInBounds_toArray, List.set_cons_zero, List.set_cons_succ]
  refine wpAnyH_done (by kernel_rfl) ?_ _
  have HF6 := Lib.hid ((HF5.out.drew.noTrans f6).noTrans f7)
  have HB6 := Lib.hid (f7.blk (f6.blk (show y5.drew.heap[w.heap.size]? = _ from HB5.out) (fun h => h)) (fun h => h))
  clear f6 f7
  obtain ⟨⟨b0, b1, b2, b3, b4, b5⟩, -⟩ := six_cells HB6.out
  clear d5_0 d5_1 d5_2 d5_3 d5_4 d5_5 d5_6 d5_7 d5_8 d5_9 d5_10 d5_11 kf60 kf61 kf62 kf63 kf64 kf65 kf66 kf67 kf68 kf69 kf610 kf611
  go_wp2_with fail
  clear b0 b1 b2 b3 b4 b5
  refine (K3.out _ (HP.out.kept HF6.out) (HZ.out.kept HF6.out) (wls_nil _)).mono ?_
  rintro e' y8 ⟨rfl, f8⟩
  obtain ⟨d8_0, d8_1, d8_2, d8_3, d8_4, d8_5, d8_6, d8_7, d8_8, d8_9, d8_10, d8_11⟩ := KT.out _ _ f8 kf70 kf71 kf72 kf73 kf74 kf75 kf76 kf77 kf78 kf79 kf710 kf711
  have HF8 := Lib.hid (HF6.out.noTrans f8)
  clear f8 kf70 kf71 kf72 kf73 kf74 kf75 kf76 kf77 kf78 kf79 kf710 kf711
  by_cases e3 : E3 = 0
  · subst e3
    by_cases hm : m < q
    · go_wp2_with fail
      go_ret
      exact ⟨rfl, HF8.out.belowNone (Nat.le_refl _)⟩
    · have hvv := h3 rfl (by omega)
      clear h3
      have hm' : q ≤ m := by omega
      clear hm
      go_wp2_with fail
      go_ret
      exact ⟨rfl, HF8.out.belowNone (Nat.le_refl _)⟩
  · have hE3 : (E3 == 0) = false := by rw [beq_eq_false_iff_ne]; exact e3
    have hE3n : (E3 != 0) = true := by rw [bne_iff_ne]; exact e3
    clear e3 h3
    go_wp2_with fail
    go_ret
    exact ⟨rfl, HF8.out.belowNone (Nat.le_refl _)⟩
theorem atE_zero {B : Bool} {ax ay bx by_ p : Int} (h : atE B ax ay bx by_ p = 0) : atB B ax ay bx by_ p = true := by
  unfold atE at h
  cases hb : atB B ax ay bx by_ p
  · rw [hb] at h
    split at h <;> simp at h
  · rfl
theorem atV_yes {B : Bool} {e ax ay bx by_ p : Int} {ws : List Wl} (h : atB B ax ay bx by_ p = true) : atV B e ax ay bx by_ p ws = arF e ax ay bx by_ p ws := by unfold atV; rw [h]; rfl
theorem atB_parts {B : Bool} {ax ay bx by_ p : Int} (h : atB B ax ay bx by_ p = true) : ptB ax ay = true ∧ ptB bx by_ = true ∧ isP p = true := by
  simp only [atB, Bool.and_eq_true] at h
  exact ⟨h.2.1, h.2.2.1, h.2.2.2⟩
theorem dist_law (a0 : Option Addr) (l0 k0 : Nat) (a1 : Option Addr) (l1 k1 : Nat) (a2 : Option Addr) (l2 k2 : Nat) (e o t : Int) (ps : List Pt) (zs : List Int) (ws : List Wl) (ax ay bx by_ q na nb x y m : Int) (w : World) (hp : PtsIn w a0 l0 ps) (hz : IntsIn w a1 l1 zs) : Calls Try.prog 9 #[.agg #[.slice a0 l0 k0, .slice a1 l1 k1, .slice a2 l2 k2, .int .i64 e, .int .i64 o, .int .i64 t], .agg #[.int .i64 ax, .int .i64 ay, .int .i64 bx, .int .i64 by_, .int .i64 q, .int .i64 na, .int .i64 nb], .agg #[.int .i64 x, .int .i64 y, .int .i64 m]] w fun e' w' => e' = .returned (.bool true) ∧ Below w.heap.size w w' := by
  have G1 := fun w hp hz hw => at_any a0 l0 k0 a1 l1 k1 none 0 0 e o t ps zs [] ax ay bx by_ q w hp hz hw
  have G2 := fun w hp hz hw => at_any a0 l0 k0 a1 l1 k1 none 0 0 e o t ps zs [] ax ay x y q w hp hz hw
  have G3 := fun w hp hz hw => at_any a0 l0 k0 a1 l1 k1 none 0 0 e o t ps zs [] ax ay bx by_ m w hp hz hw
  cases h1 : atB (ckB l0 l1 0 e o t ps zs []) ax ay bx by_ q
  · obtain ⟨E1, hE1, -, K1⟩ := at_no a0 l0 k0 a1 l1 k1 none 0 0 e o t ps zs [] ax ay bx by_ q h1
    exact dist_1 a0 l0 k0 a1 l1 k1 a2 l2 k2 e o t ps zs ws ax ay bx by_ q na nb x y m w hp hz E1 _ _ 0 _ _ K1 G2 G3 (by omega)
  · have K1 := at_yes a0 l0 k0 a1 l1 k1 none 0 0 e o t ps zs [] ax ay bx by_ q h1
    obtain ⟨p1, p2, p3⟩ := atB_parts h1
    have h3 : atE (ckB l0 l1 0 e o t ps zs []) ax ay bx by_ m = 0 → q ≤ m → arF e ax ay bx by_ q [] ≤ atV (ckB l0 l1 0 e o t ps zs []) e ax ay bx by_ m [] := fun hz0 hqm => by
      rw [atV_yes (atE_zero hz0)]
      exact arB_more e _ q m hqm
    cases h2 : atB (ckB l0 l1 0 e o t ps zs []) ax ay x y q
    · obtain ⟨E2, hE2, -, K2⟩ := at_no a0 l0 k0 a1 l1 k1 none 0 0 e o t ps zs [] ax ay x y q h2
      exact dist_2 a0 l0 k0 a1 l1 k1 a2 l2 k2 e o t ps zs ws ax ay bx by_ q na nb x y m w hp hz 0 E2 _ _ 0 _ K1 K2 G3 (by omega) h3
    · have K2 := at_yes a0 l0 k0 a1 l1 k1 none 0 0 e o t ps zs [] ax ay x y q h2
      obtain ⟨_, p4, _⟩ := atB_parts h2
      obtain ⟨n1, n2⟩ := pt_near p1
      obtain ⟨n3, n4⟩ := pt_near p2
      obtain ⟨n5, n6⟩ := pt_near p4
      by_cases hs : sqF ax ay bx by_ ≤ sqF ax ay x y
      · exact dist_3 a0 l0 k0 a1 l1 k1 a2 l2 k2 e o t ps zs ws ax ay bx by_ q na nb x y m w hp hz 0 0 _ _ _ _ K1 K2 G3 n1 n2 n3 n4 n5 n6 hs (arB_far e _ _ q (isP_t.1 p3).1 hs) h3
      · exact dist_4 a0 l0 k0 a1 l1 k1 a2 l2 k2 e o t ps zs ws ax ay bx by_ q na nb x y m w hp hz 0 0 _ _ _ _ K1 K2 G3 n1 n2 n3 n4 n5 n6 (by omega) h3
end Go.Proofs.Ytljfdoabgbioiaa
