/- The law of walls: a further wall never strengthens a power, and one with the full factor changes nothing. -/
import Derived.Test.YtljfdoabgbioiaaCln
namespace Go.Proofs.Ytljfdoabgbioiaa
open Go.RowKit
set_option linter.unusedVariables false

theorem own_ge {w : World} {B n : Nat} {v : Value} {xs : List Value} (h : w.ownsRow B 25 5 v n xs) (k : Nat) (hk : v.ownBlock = some k) : B ≤ k := by
  rcases h.2 with ⟨rfl, _⟩ | ⟨g, cap', cur, rfl, hB, _⟩
  · simp [Value.ownBlock] at hk
  · simp only [Value.ownBlock, Option.some.injEq] at hk
    omega
theorem WlsIn.other {w w' : World} {g len : Nat} {ws : List Wl} {S : Nat → Prop} (h : WlsIn w (some ⟨g, 0, none⟩) len ws) (hf : Fr S w w') (hn : ¬ S g) : WlsIn w' (some ⟨g, 0, none⟩) len ws := ⟨h.1, fun i hi => by
  obtain ⟨b, off, ha, h0, h1, h2, h3, h4⟩ := h.2 i hi
  cases ha
  exact ⟨g, 0, rfl, hf.keepc0 h0 hn, hf.keepc0 h1 hn, hf.keepc0 h2 hn, hf.keepc0 h3 hn, hf.keepc0 h4 hn⟩⟩
theorem arF_app (e ax ay bx by_ p : Int) (ws : List Wl) (x : Wl) : arF e ax ay bx by_ p (ws ++ [x]) = if crW ax ay bx by_ x = true then scV (arF e ax ay bx by_ p ws) x.f else arF e ax ay bx by_ p ws := by
  unfold arF
  rw [List.filter_append]
  cases h : crW ax ay bx by_ x
  · simp [h]
  · simp only [List.filter_cons, h, List.filter_nil, if_true, foldW_snoc]
theorem scV_full (r : Int) (h : isP r = true) : scV r 1000 = r := by
  unfold scV
  rw [if_pos ⟨h, by decide⟩]
  omega
theorem scV_le (r f : Int) (h0 : 0 ≤ r) : scV r f ≤ r := by
  unfold scV
  split
  · rename_i h
    have h1 := (inR_t.1 h.2).2
    have h2 : r * f ≤ r * 1000 := Int.mul_le_mul_of_nonneg_left h1 h0
    omega
  · exact h0
theorem foldW_le (r : Int) (ws : List Wl) (h0 : 0 ≤ r) : foldW r ws ≤ r := by
  induction ws generalizing r with
  | nil => exact Int.le_refl _
  | cons v l ih => exact Int.le_trans (ih (scV r v.f) (scV_bound r v.f).1) (scV_le r v.f h0)
theorem div_le (a m : Int) (h0 : 0 ≤ a) (h1 : 100 ≤ m) : a * 100 / m ≤ a := (div_bound a m h0 h1).2
theorem arB_le (e q p : Int) (h0 : 0 ≤ p) : arB e q p ≤ p := by
  have h1 : 100 ≤ arM q := by unfold arM; split <;> omega
  have h2 := div_bound p (arM q) h0 h1
  unfold arB
  split
  · exact Int.le_trans (div_le _ _ h2.1 h1) h2.2
  · exact h2.2
theorem arF_le (e ax ay bx by_ p : Int) (ws : List Wl) (hp : isP p = true) : arF e ax ay bx by_ p ws ≤ p :=
  Int.le_trans (foldW_le _ _ (arB_bound e _ p hp).1) (arB_le e _ p (isP_t.1 hp).1)
set_option maxRecDepth 100000 in
set_option maxHeartbeats 8000000 in
theorem walls_A (a0 : Option Addr) (l0 k0 : Nat) (a1 : Option Addr) (l1 k1 : Nat) (a2 : Option Addr) (l2 k2 : Nat) (e o t : Int) (ps : List Pt) (zs : List Int) (ws : List Wl) (cx cy dx dy f ax ay bx by_ q na nb : Int) (w : World) (hp : PtsIn w a0 l0 ps) (hz : IntsIn w a1 l1 zs) (hw : WlsIn w a2 l2 ws) (E1 : Int) (kk1 : ∀ w : World, PtsIn w a0 l0 ps → IntsIn w a1 l1 zs → WlsIn w a2 l2 ws → Calls Try.prog 18 #[.agg #[.slice a0 l0 k0, .slice a1 l1 k1, .slice a2 l2 k2, .int .i64 e, .int .i64 o, .int .i64 t], .agg #[.int .i64 ax, .int .i64 ay], .int .i64 q, .agg #[.int .i64 bx, .int .i64 by_]] w fun e' w' => e' = .returned (.tuple #[.int .i64 0, .int .i64 E1]) ∧ Fr no w w') (h1 : E1 ≠ 0) : Calls Try.prog 8 #[.agg #[.slice a0 l0 k0, .slice a1 l1 k1, .slice a2 l2 k2, .int .i64 e, .int .i64 o, .int .i64 t], .agg #[.int .i64 cx, .int .i64 cy, .int .i64 dx, .int .i64 dy, .int .i64 f], .agg #[.int .i64 ax, .int .i64 ay, .int .i64 bx, .int .i64 by_, .int .i64 q, .int .i64 na, .int .i64 nb]] w fun e' w' => e' = .returned (.bool true) ∧ Below w.heap.size w w' := by
  have hE : (E1 == 0) = false := by rw [beq_eq_false_iff_ne]; exact h1
  have hEn : (E1 != 0) = true := by rw [bne_iff_ne]; exact h1
  clear h1
  have HP := Lib.hid hp
  have HZ := Lib.hid hz
  have HWs := Lib.hid hw
  have K1 := Lib.hid kk1
  clear hp hz hw kk1
  have KS := Lib.hid (show ∀ w0 w' : World, Fr no w0 w' → w0.cell? ⟨w.heap.size + 1, 0, none⟩ = some (.int .i64 cx) → w0.cell? ⟨w.heap.size + 1, 1, none⟩ = some (.int .i64 cy) → w0.cell? ⟨w.heap.size + 1, 2, none⟩ = some (.int .i64 dx) → w0.cell? ⟨w.heap.size + 1, 3, none⟩ = some (.int .i64 dy) → w0.cell? ⟨w.heap.size + 1, 4, none⟩ = some (.int .i64 f) → w0.cell? ⟨w.heap.size + 1 + 1, 0, none⟩ = some (.int .i64 ax) → w0.cell? ⟨w.heap.size + 1 + 1, 1, none⟩ = some (.int .i64 ay) → w0.cell? ⟨w.heap.size + 1 + 1, 2, none⟩ = some (.int .i64 bx) → w0.cell? ⟨w.heap.size + 1 + 1, 3, none⟩ = some (.int .i64 by_) → w0.cell? ⟨w.heap.size + 1 + 1, 4, none⟩ = some (.int .i64 q) → w0.cell? ⟨w.heap.size + 1 + 1, 5, none⟩ = some (.int .i64 na) → w0.cell? ⟨w.heap.size + 1 + 1, 6, none⟩ = some (.int .i64 nb) → (w'.cell? ⟨w.heap.size + 1, 0, none⟩ = some (.int .i64 cx) ∧ w'.cell? ⟨w.heap.size + 1, 1, none⟩ = some (.int .i64 cy) ∧ w'.cell? ⟨w.heap.size + 1, 2, none⟩ = some (.int .i64 dx) ∧ w'.cell? ⟨w.heap.size + 1, 3, none⟩ = some (.int .i64 dy) ∧ w'.cell? ⟨w.heap.size + 1, 4, none⟩ = some (.int .i64 f) ∧ w'.cell? ⟨w.heap.size + 1 + 1, 0, none⟩ = some (.int .i64 ax) ∧ w'.cell? ⟨w.heap.size + 1 + 1, 1, none⟩ = some (.int .i64 ay) ∧ w'.cell? ⟨w.heap.size + 1 + 1, 2, none⟩ = some (.int .i64 bx) ∧ w'.cell? ⟨w.heap.size + 1 + 1, 3, none⟩ = some (.int .i64 by_) ∧ w'.cell? ⟨w.heap.size + 1 + 1, 4, none⟩ = some (.int .i64 q) ∧ w'.cell? ⟨w.heap.size + 1 + 1, 5, none⟩ = some (.int .i64 na) ∧ w'.cell? ⟨w.heap.size + 1 + 1, 6, none⟩ = some (.int .i64 nb)) from fun _ _ h a0 a1 a2 a3 a4 a5 a6 a7 a8 a9 a10 a11 => ⟨h.keepc a0, h.keepc a1, h.keepc a2, h.keepc a3, h.keepc a4, h.keepc a5, h.keepc a6, h.keepc a7, h.keepc a8, h.keepc a9, h.keepc a10, h.keepc a11⟩)
  obtain ⟨W, hW⟩ : ∃ W, W = (((w.alloc (.cells #[.slice a0 l0 k0, .slice a1 l1 k1, .slice a2 l2 k2, .int .i64 e, .int .i64 o, .int .i64 t] 34 (0, 0))).alloc (.cells #[.int .i64 cx, .int .i64 cy, .int .i64 dx, .int .i64 dy, .int .i64 f] 25 (0, 0))).alloc (.cells #[.int .i64 ax, .int .i64 ay, .int .i64 bx, .int .i64 by_, .int .i64 q, .int .i64 na, .int .i64 nb] 36 (0, 0))) := ⟨_, rfl⟩
  have HF := Lib.hid (show Fr no w W by rw [hW]; exact (((Fr.refl no w).alloc _).alloc _).alloc _)
  have c0 : W.cell? ⟨w.heap.size, 0, none⟩ = some (.slice a0 l0 k0) := by rw [hW]; go_simp
  have c1 : W.cell? ⟨w.heap.size, 1, none⟩ = some (.slice a1 l1 k1) := by rw [hW]; go_simp
  have c2 : W.cell? ⟨w.heap.size, 2, none⟩ = some (.slice a2 l2 k2) := by rw [hW]; go_simp
  have c3 : W.cell? ⟨w.heap.size, 3, none⟩ = some (.int .i64 e) := by rw [hW]; go_simp
  have c4 : W.cell? ⟨w.heap.size, 4, none⟩ = some (.int .i64 o) := by rw [hW]; go_simp
  have c5 : W.cell? ⟨w.heap.size, 5, none⟩ = some (.int .i64 t) := by rw [hW]; go_simp
  have c6 : W.cell? ⟨w.heap.size + 1, 0, none⟩ = some (.int .i64 cx) := by rw [hW]; go_simp
  have c7 : W.cell? ⟨w.heap.size + 1, 1, none⟩ = some (.int .i64 cy) := by rw [hW]; go_simp
  have c8 : W.cell? ⟨w.heap.size + 1, 2, none⟩ = some (.int .i64 dx) := by rw [hW]; go_simp
  have c9 : W.cell? ⟨w.heap.size + 1, 3, none⟩ = some (.int .i64 dy) := by rw [hW]; go_simp
  have c10 : W.cell? ⟨w.heap.size + 1, 4, none⟩ = some (.int .i64 f) := by rw [hW]; go_simp
  have c11 : W.cell? ⟨w.heap.size + 1 + 1, 0, none⟩ = some (.int .i64 ax) := by rw [hW]; go_simp
  have c12 : W.cell? ⟨w.heap.size + 1 + 1, 1, none⟩ = some (.int .i64 ay) := by rw [hW]; go_simp
  have c13 : W.cell? ⟨w.heap.size + 1 + 1, 2, none⟩ = some (.int .i64 bx) := by rw [hW]; go_simp
  have c14 : W.cell? ⟨w.heap.size + 1 + 1, 3, none⟩ = some (.int .i64 by_) := by rw [hW]; go_simp
  have c15 : W.cell? ⟨w.heap.size + 1 + 1, 4, none⟩ = some (.int .i64 q) := by rw [hW]; go_simp
  have c16 : W.cell? ⟨w.heap.size + 1 + 1, 5, none⟩ = some (.int .i64 na) := by rw [hW]; go_simp
  have c17 : W.cell? ⟨w.heap.size + 1 + 1, 6, none⟩ = some (.int .i64 nb) := by rw [hW]; go_simp
  have HW := Lib.hid hW
  clear hW
  have hb : W.heap[w.heap.size]? = some (.cells #[.slice a0 l0 k0, .slice a1 l1 k1, .slice a2 l2 k2, .int .i64 e, .int .i64 o, .int .i64 t] 34 (0, 0)) := by rw [HW.out]; exact alloc_keeps (alloc_keeps (heap_alloc_new w _) _) _
  have HB := Lib.hid hb
  clear hb c0 c1 c2 c3 c4 c5
  have g0 := c6
  have g1 := c7
  have g2 := c8
  have g3 := c9
  have g4 := c10
  have g5 := c11
  have g6 := c12
  have g7 := c13
  have g8 := c14
  have g9 := c15
  have g10 := c16
  have g11 := c17
  clear c6 c7 c8 c9 c10 c11 c12 c13 c14 c15 c16 c17
  go_enter Try.func8, Try.ntmps8
  go_wp2_with fail
  rw [← HW.out]
  refine (awake_any _).mono ?_
  rintro e y1 ⟨rfl, f1⟩
  obtain ⟨d1_0, d1_1, d1_2, d1_3, d1_4, d1_5, d1_6, d1_7, d1_8, d1_9, d1_10, d1_11⟩ := KS.out _ _ f1 g0 g1 g2 g3 g4 g5 g6 g7 g8 g9 g10 g11
  have HF1 := Lib.hid (HF.out.noTrans f1)
  clear g0 g1 g2 g3 g4 g5 g6 g7 g8 g9 g10 g11
  have HB1 := Lib.hid (f1.blk HB.out (fun h => h))
  clear f1
  obtain ⟨⟨b0, b1, b2, b3, b4, b5⟩, -⟩ := six_cells HB1.out
  go_wp2_with fail
  clear b0 b1 b2 b3 b4 b5
  refine (few_any a0 l0 k0 a1 l1 k1 a2 l2 k2 e o t _).mono ?_
  rintro e' y3 ⟨rfl, f3⟩
  obtain ⟨d3_0, d3_1, d3_2, d3_3, d3_4, d3_5, d3_6, d3_7, d3_8, d3_9, d3_10, d3_11⟩ := KS.out _ _ f3 d1_0 d1_1 d1_2 d1_3 d1_4 d1_5 d1_6 d1_7 d1_8 d1_9 d1_10 d1_11
  have HB3 := Lib.hid (f3.blk HB1.out (fun h => h))
  have HF3 := Lib.hid (HF1.out.noTrans f3)
  clear f3 d1_0 d1_1 d1_2 d1_3 d1_4 d1_5 d1_6 d1_7 d1_8 d1_9 d1_10 d1_11
  obtain ⟨⟨b0, b1, b2, b3, b4, b5⟩, -⟩ := six_cells HB3.out
  cases hfew : decide (l0 ≤ 40 ∧ l1 ≤ 40 ∧ l2 ≤ 40)
  · clear hfew
    go_wp2_with fail
    go_ret
    exact ⟨rfl, HF3.out.belowNone (Nat.le_refl _)⟩
  clear hfew
  by_cases h31 : (31 : Int) < (l2 : Int)
  · go_wp2_with fail
    go_ret
    exact ⟨rfl, HF3.out.belowNone (Nat.le_refl _)⟩
  have h31' : (l2 : Int) ≤ 31 := by omega
  have HL := Lib.hid (show l2 ≤ 31 by omega)
  clear h31
  go_wp2_with fail
  clear b0 b1 b2 b3 b4 b5 h31'
  refine (K1.out _ (HP.out.kept HF3.out) (HZ.out.kept HF3.out) (HWs.out.kept HF3.out)).mono ?_
  rintro e' y4 ⟨rfl, f4⟩
  obtain ⟨d4_0, d4_1, d4_2, d4_3, d4_4, d4_5, d4_6, d4_7, d4_8, d4_9, d4_10, d4_11⟩ := KS.out _ _ f4 d3_0 d3_1 d3_2 d3_3 d3_4 d3_5 d3_6 d3_7 d3_8 d3_9 d3_10 d3_11
  have HB4 := Lib.hid (f4.blk HB3.out (fun h => h))
  have HF4 := Lib.hid (HF3.out.noTrans f4)
  clear f4 d3_0 d3_1 d3_2 d3_3 d3_4 d3_5 d3_6 d3_7 d3_8 d3_9 d3_10 d3_11
  go_wp2_with fail
  go_ret
  exact ⟨rfl, HF4.out.belowNone (Nat.le_refl _)⟩
set_option maxRecDepth 100000 in
set_option maxHeartbeats 8000000 in
theorem walls_B (a0 : Option Addr) (l0 k0 : Nat) (a1 : Option Addr) (l1 k1 : Nat) (a2 : Option Addr) (l2 k2 : Nat) (e o t : Int) (ps : List Pt) (zs : List Int) (ws : List Wl) (cx cy dx dy f ax ay bx by_ q na nb : Int) (w : World) (hp : PtsIn w a0 l0 ps) (hz : IntsIn w a1 l1 zs) (hw : WlsIn w a2 l2 ws) (V1 V2 : Int) (kk1 : ∀ w : World, PtsIn w a0 l0 ps → IntsIn w a1 l1 zs → WlsIn w a2 l2 ws → Calls Try.prog 18 #[.agg #[.slice a0 l0 k0, .slice a1 l1 k1, .slice a2 l2 k2, .int .i64 e, .int .i64 o, .int .i64 t], .agg #[.int .i64 ax, .int .i64 ay], .int .i64 q, .agg #[.int .i64 bx, .int .i64 by_]] w fun e' w' => e' = .returned (.tuple #[.int .i64 V1, .int .i64 0]) ∧ Fr no w w') (kk2 : ∀ (g cap : Nat) (w : World), PtsIn w a0 l0 ps → IntsIn w a1 l1 zs → WlsIn w (some ⟨g, 0, none⟩) (l2 + 1) (ws ++ [⟨cx, cy, dx, dy, f⟩]) → Calls Try.prog 18 #[.agg #[.slice a0 l0 k0, .slice a1 l1 k1, .slice (some ⟨g, 0, none⟩) (l2 + 1) cap, .int .i64 e, .int .i64 o, .int .i64 t], .agg #[.int .i64 ax, .int .i64 ay], .int .i64 q, .agg #[.int .i64 bx, .int .i64 by_]] w fun e' w' => e' = .returned (.tuple #[.int .i64 V2, .int .i64 1]) ∧ Fr no w w') (v0 : 0 ≤ V1) (v1 : V1 ≤ q) (kk3 : ∀ (g cap : Nat) (w : World), PtsIn w a0 l0 ps → IntsIn w a1 l1 zs → WlsIn w (some ⟨g, 0, none⟩) (l2 + 1) (ws ++ [⟨cx, cy, dx, dy, f⟩]) → Calls Try.prog 24 #[.agg #[.slice a0 l0 k0, .slice a1 l1 k1, .slice (some ⟨g, 0, none⟩) (l2 + 1) cap, .int .i64 e, .int .i64 o, .int .i64 t]] w fun e' w' => e' = .returned (.int .i64 1) ∧ Fr no w w') : Calls Try.prog 8 #[.agg #[.slice a0 l0 k0, .slice a1 l1 k1, .slice a2 l2 k2, .int .i64 e, .int .i64 o, .int .i64 t], .agg #[.int .i64 cx, .int .i64 cy, .int .i64 dx, .int .i64 dy, .int .i64 f], .agg #[.int .i64 ax, .int .i64 ay, .int .i64 bx, .int .i64 by_, .int .i64 q, .int .i64 na, .int .i64 nb]] w fun e' w' => e' = .returned (.bool true) ∧ Below w.heap.size w w' := by
  have HP := Lib.hid hp
  have HZ := Lib.hid hz
  have HWs := Lib.hid hw
  have K1 := Lib.hid kk1
  have K2 := Lib.hid kk2
  have K3 := Lib.hid kk3
  clear hp hz hw kk1 kk2 kk3
  have KS := Lib.hid (show ∀ w0 w' : World, Fr no w0 w' → w0.cell? ⟨w.heap.size + 1, 0, none⟩ = some (.int .i64 cx) → w0.cell? ⟨w.heap.size + 1, 1, none⟩ = some (.int .i64 cy) → w0.cell? ⟨w.heap.size + 1, 2, none⟩ = some (.int .i64 dx) → w0.cell? ⟨w.heap.size + 1, 3, none⟩ = some (.int .i64 dy) → w0.cell? ⟨w.heap.size + 1, 4, none⟩ = some (.int .i64 f) → w0.cell? ⟨w.heap.size + 1 + 1, 0, none⟩ = some (.int .i64 ax) → w0.cell? ⟨w.heap.size + 1 + 1, 1, none⟩ = some (.int .i64 ay) → w0.cell? ⟨w.heap.size + 1 + 1, 2, none⟩ = some (.int .i64 bx) → w0.cell? ⟨w.heap.size + 1 + 1, 3, none⟩ = some (.int .i64 by_) → w0.cell? ⟨w.heap.size + 1 + 1, 4, none⟩ = some (.int .i64 q) → w0.cell? ⟨w.heap.size + 1 + 1, 5, none⟩ = some (.int .i64 na) → w0.cell? ⟨w.heap.size + 1 + 1, 6, none⟩ = some (.int .i64 nb) → (w'.cell? ⟨w.heap.size + 1, 0, none⟩ = some (.int .i64 cx) ∧ w'.cell? ⟨w.heap.size + 1, 1, none⟩ = some (.int .i64 cy) ∧ w'.cell? ⟨w.heap.size + 1, 2, none⟩ = some (.int .i64 dx) ∧ w'.cell? ⟨w.heap.size + 1, 3, none⟩ = some (.int .i64 dy) ∧ w'.cell? ⟨w.heap.size + 1, 4, none⟩ = some (.int .i64 f) ∧ w'.cell? ⟨w.heap.size + 1 + 1, 0, none⟩ = some (.int .i64 ax) ∧ w'.cell? ⟨w.heap.size + 1 + 1, 1, none⟩ = some (.int .i64 ay) ∧ w'.cell? ⟨w.heap.size + 1 + 1, 2, none⟩ = some (.int .i64 bx) ∧ w'.cell? ⟨w.heap.size + 1 + 1, 3, none⟩ = some (.int .i64 by_) ∧ w'.cell? ⟨w.heap.size + 1 + 1, 4, none⟩ = some (.int .i64 q) ∧ w'.cell? ⟨w.heap.size + 1 + 1, 5, none⟩ = some (.int .i64 na) ∧ w'.cell? ⟨w.heap.size + 1 + 1, 6, none⟩ = some (.int .i64 nb)) from fun _ _ h a0 a1 a2 a3 a4 a5 a6 a7 a8 a9 a10 a11 => ⟨h.keepc a0, h.keepc a1, h.keepc a2, h.keepc a3, h.keepc a4, h.keepc a5, h.keepc a6, h.keepc a7, h.keepc a8, h.keepc a9, h.keepc a10, h.keepc a11⟩)
  obtain ⟨W, hW⟩ : ∃ W, W = (((w.alloc (.cells #[.slice a0 l0 k0, .slice a1 l1 k1, .slice a2 l2 k2, .int .i64 e, .int .i64 o, .int .i64 t] 34 (0, 0))).alloc (.cells #[.int .i64 cx, .int .i64 cy, .int .i64 dx, .int .i64 dy, .int .i64 f] 25 (0, 0))).alloc (.cells #[.int .i64 ax, .int .i64 ay, .int .i64 bx, .int .i64 by_, .int .i64 q, .int .i64 na, .int .i64 nb] 36 (0, 0))) := ⟨_, rfl⟩
  have HF := Lib.hid (show Fr no w W by rw [hW]; exact (((Fr.refl no w).alloc _).alloc _).alloc _)
  have c0 : W.cell? ⟨w.heap.size, 0, none⟩ = some (.slice a0 l0 k0) := by rw [hW]; go_simp
  have c1 : W.cell? ⟨w.heap.size, 1, none⟩ = some (.slice a1 l1 k1) := by rw [hW]; go_simp
  have c2 : W.cell? ⟨w.heap.size, 2, none⟩ = some (.slice a2 l2 k2) := by rw [hW]; go_simp
  have c3 : W.cell? ⟨w.heap.size, 3, none⟩ = some (.int .i64 e) := by rw [hW]; go_simp
  have c4 : W.cell? ⟨w.heap.size, 4, none⟩ = some (.int .i64 o) := by rw [hW]; go_simp
  have c5 : W.cell? ⟨w.heap.size, 5, none⟩ = some (.int .i64 t) := by rw [hW]; go_simp
  have c6 : W.cell? ⟨w.heap.size + 1, 0, none⟩ = some (.int .i64 cx) := by rw [hW]; go_simp
  have c7 : W.cell? ⟨w.heap.size + 1, 1, none⟩ = some (.int .i64 cy) := by rw [hW]; go_simp
  have c8 : W.cell? ⟨w.heap.size + 1, 2, none⟩ = some (.int .i64 dx) := by rw [hW]; go_simp
  have c9 : W.cell? ⟨w.heap.size + 1, 3, none⟩ = some (.int .i64 dy) := by rw [hW]; go_simp
  have c10 : W.cell? ⟨w.heap.size + 1, 4, none⟩ = some (.int .i64 f) := by rw [hW]; go_simp
  have c11 : W.cell? ⟨w.heap.size + 1 + 1, 0, none⟩ = some (.int .i64 ax) := by rw [hW]; go_simp
  have c12 : W.cell? ⟨w.heap.size + 1 + 1, 1, none⟩ = some (.int .i64 ay) := by rw [hW]; go_simp
  have c13 : W.cell? ⟨w.heap.size + 1 + 1, 2, none⟩ = some (.int .i64 bx) := by rw [hW]; go_simp
  have c14 : W.cell? ⟨w.heap.size + 1 + 1, 3, none⟩ = some (.int .i64 by_) := by rw [hW]; go_simp
  have c15 : W.cell? ⟨w.heap.size + 1 + 1, 4, none⟩ = some (.int .i64 q) := by rw [hW]; go_simp
  have c16 : W.cell? ⟨w.heap.size + 1 + 1, 5, none⟩ = some (.int .i64 na) := by rw [hW]; go_simp
  have c17 : W.cell? ⟨w.heap.size + 1 + 1, 6, none⟩ = some (.int .i64 nb) := by rw [hW]; go_simp
  have HW := Lib.hid hW
  clear hW
  have hb : W.heap[w.heap.size]? = some (.cells #[.slice a0 l0 k0, .slice a1 l1 k1, .slice a2 l2 k2, .int .i64 e, .int .i64 o, .int .i64 t] 34 (0, 0)) := by rw [HW.out]; exact alloc_keeps (alloc_keeps (heap_alloc_new w _) _) _
  have HB := Lib.hid hb
  clear hb c0 c1 c2 c3 c4 c5
  have g0 := c6
  have g1 := c7
  have g2 := c8
  have g3 := c9
  have g4 := c10
  have g5 := c11
  have g6 := c12
  have g7 := c13
  have g8 := c14
  have g9 := c15
  have g10 := c16
  have g11 := c17
  clear c6 c7 c8 c9 c10 c11 c12 c13 c14 c15 c16 c17
  go_enter Try.func8, Try.ntmps8
  go_wp2_with fail
  rw [← HW.out]
  refine (awake_any _).mono ?_
  rintro e y1 ⟨rfl, f1⟩
  obtain ⟨d1_0, d1_1, d1_2, d1_3, d1_4, d1_5, d1_6, d1_7, d1_8, d1_9, d1_10, d1_11⟩ := KS.out _ _ f1 g0 g1 g2 g3 g4 g5 g6 g7 g8 g9 g10 g11
  have HF1 := Lib.hid (HF.out.noTrans f1)
  clear g0 g1 g2 g3 g4 g5 g6 g7 g8 g9 g10 g11
  have HB1 := Lib.hid (f1.blk HB.out (fun h => h))
  clear f1
  obtain ⟨⟨b0, b1, b2, b3, b4, b5⟩, -⟩ := six_cells HB1.out
  go_wp2_with fail
  clear b0 b1 b2 b3 b4 b5
  refine (few_any a0 l0 k0 a1 l1 k1 a2 l2 k2 e o t _).mono ?_
  rintro e' y3 ⟨rfl, f3⟩
  obtain ⟨d3_0, d3_1, d3_2, d3_3, d3_4, d3_5, d3_6, d3_7, d3_8, d3_9, d3_10, d3_11⟩ := KS.out _ _ f3 d1_0 d1_1 d1_2 d1_3 d1_4 d1_5 d1_6 d1_7 d1_8 d1_9 d1_10 d1_11
  have HB3 := Lib.hid (f3.blk HB1.out (fun h => h))
  have HF3 := Lib.hid (HF1.out.noTrans f3)
  clear f3 d1_0 d1_1 d1_2 d1_3 d1_4 d1_5 d1_6 d1_7 d1_8 d1_9 d1_10 d1_11
  obtain ⟨⟨b0, b1, b2, b3, b4, b5⟩, -⟩ := six_cells HB3.out
  cases hfew : decide (l0 ≤ 40 ∧ l1 ≤ 40 ∧ l2 ≤ 40)
  · clear hfew
    go_wp2_with fail
    go_ret
    exact ⟨rfl, HF3.out.belowNone (Nat.le_refl _)⟩
  clear hfew
  by_cases h31 : (31 : Int) < (l2 : Int)
  · go_wp2_with fail
    go_ret
    exact ⟨rfl, HF3.out.belowNone (Nat.le_refl _)⟩
  have h31' : (l2 : Int) ≤ 31 := by omega
  have HL := Lib.hid (show l2 ≤ 31 by omega)
  clear h31
  go_wp2_with fail
  clear b0 b1 b2 b3 b4 b5 h31'
  refine (K1.out _ (HP.out.kept HF3.out) (HZ.out.kept HF3.out) (HWs.out.kept HF3.out)).mono ?_
  rintro e' y4 ⟨rfl, f4⟩
  obtain ⟨d4_0, d4_1, d4_2, d4_3, d4_4, d4_5, d4_6, d4_7, d4_8, d4_9, d4_10, d4_11⟩ := KS.out _ _ f4 d3_0 d3_1 d3_2 d3_3 d3_4 d3_5 d3_6 d3_7 d3_8 d3_9 d3_10 d3_11
  have HB4 := Lib.hid (f4.blk HB3.out (fun h => h))
  have HF4 := Lib.hid (HF3.out.noTrans f4)
  clear f4 d3_0 d3_1 d3_2 d3_3 d3_4 d3_5 d3_6 d3_7 d3_8 d3_9 d3_10 d3_11
  obtain ⟨⟨b0, b1, b2, b3, b4, b5⟩, -⟩ := six_cells HB4.out
  obtain ⟨YM, hYM⟩ : ∃ Y, Y = y4.alloc (.cells #[.slice a0 l0 k0, .slice a1 l1 k1, .slice a2 l2 k2, .int .i64 e, .int .i64 o, .int .i64 t] 34 (0, 0)) := ⟨_, rfl⟩
  have hbM : YM.heap[y4.heap.size]? = some (.cells #[.slice a0 l0 k0, .slice a1 l1 k1, .slice a2 l2 k2, .int .i64 e, .int .i64 o, .int .i64 t] 34 (0, 0)) := by rw [hYM]; exact heap_alloc_new y4 _
  have hfM : Fr no y4 YM := by rw [hYM]; exact (Fr.refl no y4).alloc _
  have hszM : YM.heap.size = y4.heap.size + 1 := by rw [hYM]; simp
  have m0_ := lt_of_blk HB4.out
  have m1_ := blt d4_0
  have m2_ := blt d4_11
  have HYM := Lib.hid hYM
  have HBM := Lib.hid hbM
  have HSZ := Lib.hid hszM
  have HFM := Lib.hid hfM
  have h2c := hfM.keepc b2
  have p0 := hfM.keepc d4_0
  have p1 := hfM.keepc d4_1
  have p2 := hfM.keepc d4_2
  have p3 := hfM.keepc d4_3
  have p4 := hfM.keepc d4_4
  have p5 := hfM.keepc d4_5
  have p6 := hfM.keepc d4_6
  have p7 := hfM.keepc d4_7
  have p8 := hfM.keepc d4_8
  have p9 := hfM.keepc d4_9
  have p10 := hfM.keepc d4_10
  have p11 := hfM.keepc d4_11
  clear hYM hbM hszM hfM
  go_upto_region 11 with fail
  rw [← HYM.out]
  clear b0 b1 b2 b3 b4 b5
  go_cut [] (fun wx => ∃ g cap : Nat, wx.heap[y4.heap.size]? = some (.cells #[.slice a0 l0 k0, .slice a1 l1 k1, .slice (some ⟨g, 0, none⟩) (l2 + 1) cap, .int .i64 e, .int .i64 o, .int .i64 t] 34 (0, 0)) ∧ WlsIn wx (some ⟨g, 0, none⟩) (l2 + 1) (ws ++ [⟨cx, cy, dx, dy, f⟩]) ∧ Fr no y4 wx)
  case first =>
    obtain ⟨i0, hi, hz0, hz1, hz2⟩ := info_parts info25
    have n0_ : w.heap.size ≠ y4.heap.size := by omega
    have n1_ : w.heap.size + 1 ≠ y4.heap.size := by omega
    have n0s : y4.heap.size ≠ w.heap.size := by omega
    have n1s : y4.heap.size ≠ w.heap.size + 1 := by omega
    go_region_held3 (fun w' => w'.cell? ⟨w.heap.size, 2, none⟩ = some (.slice a2 l2 k2) ∧ w'.cell? ⟨w.heap.size + 1, 0, none⟩ = some (.int .i64 cx) ∧ w'.cell? ⟨w.heap.size + 1, 1, none⟩ = some (.int .i64 cy) ∧ w'.cell? ⟨w.heap.size + 1, 2, none⟩ = some (.int .i64 dx) ∧ w'.cell? ⟨w.heap.size + 1, 3, none⟩ = some (.int .i64 dy) ∧ w'.cell? ⟨w.heap.size + 1, 4, none⟩ = some (.int .i64 f)) (go_keep)
      (first
        | (go_at_call 35; refine (clone_walls a2 l2 k2 ws _ (HWs.out.kept (by first | exact (HF4.out.noTrans HFM.out).drew | exact (HF4.out.noTrans HFM.out).drew.alloc _)) (by have := HL.out; omega)).mono ?_; rintro e' w6 ⟨v6, rfl, ho6, f6⟩; have q0_ := f6.keepc (v := .slice a2 l2 k2) (p := ⟨w.heap.size, 2, none⟩) (by first | exact h2c | exact ((Fr.refl no YM).drew.alloc _).keepc h2c); have q1_ := f6.keepc (p := ⟨w.heap.size + 1, 0, none⟩) (v := .int .i64 cx) (by first | exact p0 | exact ((Fr.refl no YM).drew.alloc _).keepc p0); have q2_ := f6.keepc (p := ⟨w.heap.size + 1, 1, none⟩) (v := .int .i64 cy) (by first | exact p1 | exact ((Fr.refl no YM).drew.alloc _).keepc p1); have q3_ := f6.keepc (p := ⟨w.heap.size + 1, 2, none⟩) (v := .int .i64 dx) (by first | exact p2 | exact ((Fr.refl no YM).drew.alloc _).keepc p2); have q4_ := f6.keepc (p := ⟨w.heap.size + 1, 3, none⟩) (v := .int .i64 dy) (by first | exact p3 | exact ((Fr.refl no YM).drew.alloc _).keepc p3); have q5_ := f6.keepc (p := ⟨w.heap.size + 1, 4, none⟩) (v := .int .i64 f) (by first | exact p4 | exact ((Fr.refl no YM).drew.alloc _).keepc p4))
        | (refine step_append_lies _ (by rfl) (.tmp 49) (.tmp 51) 32 (by rfl) _ 25 i0 _ 5 40 Try.underlying32 hi hz0 hz1 hz2 rfl (by decide) v6 l2 (flatW ws) (by simp [Act.eval]) (ho6.alloc _) ⟨w6.heap.size, 0, none⟩ 1 1 [.int .i64 cx, .int .i64 cy, .int .i64 dx, .int .i64 dy, .int .i64 f] (by simp [Act.eval]) (by rfl) (World.news_of_block (cs := #[.int .i64 cx, .int .i64 cy, .int .i64 dx, .int .i64 dy, .int .i64 f]) (t := 25) (fr := (0, 0)) (heap_alloc_new w6 _)) (by simp [Value.oneCell']) (by decide) (by have := HL.out; unfold maxLen; omega) (by have := HL.out; omega) (by simp; have := f6.size; simp at this; omega) (w6.heap.size + 1) (by simp) ?_; intro g cap w7 hown7 hgrow7 hat7 hlt7; have f7 : Fr no YM w7 := (((Fr.refl no YM).drew.noTrans f6).alloc _).grown hgrow7 (fun k hk => .inr (by have := own_ge ho6 k hk; simpa using this)); have s0_ := f7.keepc h2c; have s1_ := f7.keepc p0; have s2_ := f7.keepc p1; have s3_ := f7.keepc p2; have s4_ := f7.keepc p3; have s5_ := f7.keepc p4; obtain ⟨⟨M0, M1, M2, M3, M4, M5⟩, N0, N1, N2, N3, N4, N5⟩ := six_cells (f7.blk HBM.out (fun h => h)); have hgM : y4.heap.size < g := (by have hs6 := f6.size; have hsz := HSZ.out; rcases hat7 with h | h; (· have := own_ge ho6 g h; simp at this; omega); (· simp at hs6; omega)); have HO7 := Lib.hid hown7; have HF7 := Lib.hid f7; have HG7 := Lib.hid hgM; clear hown7 hgrow7 hat7 hlt7 f7 hgM)
        | (refine step_append_lies _ (by rfl) (.tmp 49) (.tmp 51) 32 (by rfl) _ 25 i0 _ 5 40 Try.underlying32 hi hz0 hz1 hz2 rfl (by decide) v6 l2 (flatW ws) (by simp [Act.eval]) ho6 ⟨YM.heap.size, 0, none⟩ 1 1 [.int .i64 cx, .int .i64 cy, .int .i64 dx, .int .i64 dy, .int .i64 f] (by simp [Act.eval]) (by rfl) (World.news_of_block (cs := #[.int .i64 cx, .int .i64 cy, .int .i64 dx, .int .i64 dy, .int .i64 f]) (t := 25) (fr := (0, 0)) (f6.blk (heap_alloc_new YM.drew _) (fun h => h))) (by simp [Value.oneCell']) (by decide) (by have := HL.out; unfold maxLen; omega) (by have := HL.out; omega) (by have := f6.size; simp at this; simp; omega) w6.heap.size rfl ?_; intro g cap w7 hown7 hgrow7 hat7 hlt7; have f7 : Fr no YM w7 := (((Fr.refl no YM).drew.alloc _).noTrans f6).grown hgrow7 (fun k hk => .inr (by have := own_ge ho6 k hk; simp at this; omega)); have s0_ := f7.keepc h2c; have s1_ := f7.keepc p0; have s2_ := f7.keepc p1; have s3_ := f7.keepc p2; have s4_ := f7.keepc p3; have s5_ := f7.keepc p4; obtain ⟨⟨M0, M1, M2, M3, M4, M5⟩, N0, N1, N2, N3, N4, N5⟩ := six_cells (f7.blk HBM.out (fun h => h)); have hgM : y4.heap.size < g := (by have hs6 := f6.size; have hsz := HSZ.out; rcases hat7 with h | h; (· have := own_ge ho6 g h; simp at this; omega); (· simp at hs6; omega)); have HO7 := Lib.hid hown7; have HF7 := Lib.hid f7; have HG7 := Lib.hid hgM; clear hown7 hgrow7 hat7 hlt7 f7 hgM))
    all_goals
      go_wp2_with fail
      go_meet
      refine ⟨g, cap, by simpa using three_set (HF7.out.blk HBM.out (fun h => h)) 2 (.slice (some ⟨g, 0, none⟩) (l2 + 1) cap), ?_, (HFM.out.noTrans HF7.out).setCell (p := ⟨y4.heap.size, 2, none⟩) (.inr (Nat.le_refl _)) _⟩
      have hh := HO7.out
      rw [show flatW ws ++ [.int .i64 cx, .int .i64 cy, .int .i64 dx, .int .i64 dy, .int .i64 f] = flatW (ws ++ [⟨cx, cy, dx, dy, f⟩]) by simp [flatW, wlVals]] at hh
      exact (own_walls hh (by simp [HWs.out.1])).other ((Fr.refl (only y4.heap.size) w7).setCell (p := ⟨y4.heap.size, 2, none⟩) (.inl rfl) _) (by have := HG7.out; simp only [only]; omega)
  case rest =>
  obtain ⟨g, cap, hbX, hwX, fX⟩ := hcut
  obtain ⟨o0, o1, o2, o3, o4, o5, o6, o7, o8, o9, o10, o11⟩ := KS.out _ _ fX d4_0 d4_1 d4_2 d4_3 d4_4 d4_5 d4_6 d4_7 d4_8 d4_9 d4_10 d4_11
  have HBX := Lib.hid hbX
  have HWX := Lib.hid hwX
  have HFX := Lib.hid (HF4.out.noTrans fX)
  clear hbX hwX fX h2c m0_ m1_ m2_ d4_0 d4_1 d4_2 d4_3 d4_4 d4_5 d4_6 d4_7 d4_8 d4_9 d4_10 d4_11 p0 p1 p2 p3 p4 p5 p6 p7 p8 p9 p10 p11
  obtain ⟨⟨b0, b1, b2, b3, b4, b5⟩, -⟩ := six_cells HBX.out
  go_wp2_with fail
  clear b0 b1 b2 b3 b4 b5
  refine (K2.out g cap _ (HP.out.kept HFX.out) (HZ.out.kept HFX.out) HWX.out).mono ?_
  rintro e' y8 ⟨rfl, f8⟩
  obtain ⟨d8_0, d8_1, d8_2, d8_3, d8_4, d8_5, d8_6, d8_7, d8_8, d8_9, d8_10, d8_11⟩ := KS.out _ _ f8 o0 o1 o2 o3 o4 o5 o6 o7 o8 o9 o10 o11
  have HB8 := Lib.hid (f8.blk HBX.out (fun h => h))
  have HW8 := Lib.hid (HWX.out.kept f8)
  have HF8 := Lib.hid (HFX.out.noTrans f8)
  clear f8 o0 o1 o2 o3 o4 o5 o6 o7 o8 o9 o10 o11
  obtain ⟨⟨b0, b1, b2, b3, b4, b5⟩, -⟩ := six_cells HB8.out
  go_wp2_with fail
  clear b0 b1 b2 b3 b4 b5
  refine (K3.out g cap _ (HP.out.kept HF8.out) (HZ.out.kept HF8.out) HW8.out).mono ?_
  rintro e' y9 ⟨rfl, f9⟩
  have HF9 := Lib.hid (HF8.out.noTrans f9)
  clear f9
  go_wp2_with fail
  go_ret
  exact ⟨rfl, HF9.out.belowNone (Nat.le_refl _)⟩
set_option maxRecDepth 100000 in
set_option maxHeartbeats 8000000 in
theorem walls_C (a0 : Option Addr) (l0 k0 : Nat) (a1 : Option Addr) (l1 k1 : Nat) (a2 : Option Addr) (l2 k2 : Nat) (e o t : Int) (ps : List Pt) (zs : List Int) (ws : List Wl) (cx cy dx dy f ax ay bx by_ q na nb : Int) (w : World) (hp : PtsIn w a0 l0 ps) (hz : IntsIn w a1 l1 zs) (hw : WlsIn w a2 l2 ws) (V1 : Int) (kk1 : ∀ w : World, PtsIn w a0 l0 ps → IntsIn w a1 l1 zs → WlsIn w a2 l2 ws → Calls Try.prog 18 #[.agg #[.slice a0 l0 k0, .slice a1 l1 k1, .slice a2 l2 k2, .int .i64 e, .int .i64 o, .int .i64 t], .agg #[.int .i64 ax, .int .i64 ay], .int .i64 q, .agg #[.int .i64 bx, .int .i64 by_]] w fun e' w' => e' = .returned (.tuple #[.int .i64 V1, .int .i64 0]) ∧ Fr no w w') (kk2 : ∀ (g cap : Nat) (w : World), PtsIn w a0 l0 ps → IntsIn w a1 l1 zs → WlsIn w (some ⟨g, 0, none⟩) (l2 + 1) (ws ++ [⟨cx, cy, dx, dy, f⟩]) → Calls Try.prog 18 #[.agg #[.slice a0 l0 k0, .slice a1 l1 k1, .slice (some ⟨g, 0, none⟩) (l2 + 1) cap, .int .i64 e, .int .i64 o, .int .i64 t], .agg #[.int .i64 ax, .int .i64 ay], .int .i64 q, .agg #[.int .i64 bx, .int .i64 by_]] w fun e' w' => e' = .returned (.tuple #[.int .i64 V1, .int .i64 0]) ∧ Fr no w w') (v0 : 0 ≤ V1) (v1 : V1 ≤ q) (kk4 : ∀ w : World, Calls Try.prog 15 #[.agg #[.int .i64 ax, .int .i64 ay], .agg #[.int .i64 bx, .int .i64 by_], .agg #[.int .i64 cx, .int .i64 cy, .int .i64 dx, .int .i64 dy, .int .i64 f]] w fun e' w' => e' = .returned (.bool false) ∧ Fr no w w') : Calls Try.prog 8 #[.agg #[.slice a0 l0 k0, .slice a1 l1 k1, .slice a2 l2 k2, .int .i64 e, .int .i64 o, .int .i64 t], .agg #[.int .i64 cx, .int .i64 cy, .int .i64 dx, .int .i64 dy, .int .i64 f], .agg #[.int .i64 ax, .int .i64 ay, .int .i64 bx, .int .i64 by_, .int .i64 q, .int .i64 na, .int .i64 nb]] w fun e' w' => e' = .returned (.bool true) ∧ Below w.heap.size w w' := by
  have HP := Lib.hid hp
  have HZ := Lib.hid hz
  have HWs := Lib.hid hw
  have K1 := Lib.hid kk1
  have K2 := Lib.hid kk2
  have K4 := Lib.hid kk4
  clear hp hz hw kk1 kk2 kk4
  have KS := Lib.hid (show ∀ w0 w' : World, Fr no w0 w' → w0.cell? ⟨w.heap.size + 1, 0, none⟩ = some (.int .i64 cx) → w0.cell? ⟨w.heap.size + 1, 1, none⟩ = some (.int .i64 cy) → w0.cell? ⟨w.heap.size + 1, 2, none⟩ = some (.int .i64 dx) → w0.cell? ⟨w.heap.size + 1, 3, none⟩ = some (.int .i64 dy) → w0.cell? ⟨w.heap.size + 1, 4, none⟩ = some (.int .i64 f) → w0.cell? ⟨w.heap.size + 1 + 1, 0, none⟩ = some (.int .i64 ax) → w0.cell? ⟨w.heap.size + 1 + 1, 1, none⟩ = some (.int .i64 ay) → w0.cell? ⟨w.heap.size + 1 + 1, 2, none⟩ = some (.int .i64 bx) → w0.cell? ⟨w.heap.size + 1 + 1, 3, none⟩ = some (.int .i64 by_) → w0.cell? ⟨w.heap.size + 1 + 1, 4, none⟩ = some (.int .i64 q) → w0.cell? ⟨w.heap.size + 1 + 1, 5, none⟩ = some (.int .i64 na) → w0.cell? ⟨w.heap.size + 1 + 1, 6, none⟩ = some (.int .i64 nb) → (w'.cell? ⟨w.heap.size + 1, 0, none⟩ = some (.int .i64 cx) ∧ w'.cell? ⟨w.heap.size + 1, 1, none⟩ = some (.int .i64 cy) ∧ w'.cell? ⟨w.heap.size + 1, 2, none⟩ = some (.int .i64 dx) ∧ w'.cell? ⟨w.heap.size + 1, 3, none⟩ = some (.int .i64 dy) ∧ w'.cell? ⟨w.heap.size + 1, 4, none⟩ = some (.int .i64 f) ∧ w'.cell? ⟨w.heap.size + 1 + 1, 0, none⟩ = some (.int .i64 ax) ∧ w'.cell? ⟨w.heap.size + 1 + 1, 1, none⟩ = some (.int .i64 ay) ∧ w'.cell? ⟨w.heap.size + 1 + 1, 2, none⟩ = some (.int .i64 bx) ∧ w'.cell? ⟨w.heap.size + 1 + 1, 3, none⟩ = some (.int .i64 by_) ∧ w'.cell? ⟨w.heap.size + 1 + 1, 4, none⟩ = some (.int .i64 q) ∧ w'.cell? ⟨w.heap.size + 1 + 1, 5, none⟩ = some (.int .i64 na) ∧ w'.cell? ⟨w.heap.size + 1 + 1, 6, none⟩ = some (.int .i64 nb)) from fun _ _ h a0 a1 a2 a3 a4 a5 a6 a7 a8 a9 a10 a11 => ⟨h.keepc a0, h.keepc a1, h.keepc a2, h.keepc a3, h.keepc a4, h.keepc a5, h.keepc a6, h.keepc a7, h.keepc a8, h.keepc a9, h.keepc a10, h.keepc a11⟩)
  obtain ⟨W, hW⟩ : ∃ W, W = (((w.alloc (.cells #[.slice a0 l0 k0, .slice a1 l1 k1, .slice a2 l2 k2, .int .i64 e, .int .i64 o, .int .i64 t] 34 (0, 0))).alloc (.cells #[.int .i64 cx, .int .i64 cy, .int .i64 dx, .int .i64 dy, .int .i64 f] 25 (0, 0))).alloc (.cells #[.int .i64 ax, .int .i64 ay, .int .i64 bx, .int .i64 by_, .int .i64 q, .int .i64 na, .int .i64 nb] 36 (0, 0))) := ⟨_, rfl⟩
  have HF := Lib.hid (show Fr no w W by rw [hW]; exact (((Fr.refl no w).alloc _).alloc _).alloc _)
  have c0 : W.cell? ⟨w.heap.size, 0, none⟩ = some (.slice a0 l0 k0) := by rw [hW]; go_simp
  have c1 : W.cell? ⟨w.heap.size, 1, none⟩ = some (.slice a1 l1 k1) := by rw [hW]; go_simp
  have c2 : W.cell? ⟨w.heap.size, 2, none⟩ = some (.slice a2 l2 k2) := by rw [hW]; go_simp
  have c3 : W.cell? ⟨w.heap.size, 3, none⟩ = some (.int .i64 e) := by rw [hW]; go_simp
  have c4 : W.cell? ⟨w.heap.size, 4, none⟩ = some (.int .i64 o) := by rw [hW]; go_simp
  have c5 : W.cell? ⟨w.heap.size, 5, none⟩ = some (.int .i64 t) := by rw [hW]; go_simp
  have c6 : W.cell? ⟨w.heap.size + 1, 0, none⟩ = some (.int .i64 cx) := by rw [hW]; go_simp
  have c7 : W.cell? ⟨w.heap.size + 1, 1, none⟩ = some (.int .i64 cy) := by rw [hW]; go_simp
  have c8 : W.cell? ⟨w.heap.size + 1, 2, none⟩ = some (.int .i64 dx) := by rw [hW]; go_simp
  have c9 : W.cell? ⟨w.heap.size + 1, 3, none⟩ = some (.int .i64 dy) := by rw [hW]; go_simp
  have c10 : W.cell? ⟨w.heap.size + 1, 4, none⟩ = some (.int .i64 f) := by rw [hW]; go_simp
  have c11 : W.cell? ⟨w.heap.size + 1 + 1, 0, none⟩ = some (.int .i64 ax) := by rw [hW]; go_simp
  have c12 : W.cell? ⟨w.heap.size + 1 + 1, 1, none⟩ = some (.int .i64 ay) := by rw [hW]; go_simp
  have c13 : W.cell? ⟨w.heap.size + 1 + 1, 2, none⟩ = some (.int .i64 bx) := by rw [hW]; go_simp
  have c14 : W.cell? ⟨w.heap.size + 1 + 1, 3, none⟩ = some (.int .i64 by_) := by rw [hW]; go_simp
  have c15 : W.cell? ⟨w.heap.size + 1 + 1, 4, none⟩ = some (.int .i64 q) := by rw [hW]; go_simp
  have c16 : W.cell? ⟨w.heap.size + 1 + 1, 5, none⟩ = some (.int .i64 na) := by rw [hW]; go_simp
  have c17 : W.cell? ⟨w.heap.size + 1 + 1, 6, none⟩ = some (.int .i64 nb) := by rw [hW]; go_simp
  have HW := Lib.hid hW
  clear hW
  have hb : W.heap[w.heap.size]? = some (.cells #[.slice a0 l0 k0, .slice a1 l1 k1, .slice a2 l2 k2, .int .i64 e, .int .i64 o, .int .i64 t] 34 (0, 0)) := by rw [HW.out]; exact alloc_keeps (alloc_keeps (heap_alloc_new w _) _) _
  have HB := Lib.hid hb
  clear hb c0 c1 c2 c3 c4 c5
  have g0 := c6
  have g1 := c7
  have g2 := c8
  have g3 := c9
  have g4 := c10
  have g5 := c11
  have g6 := c12
  have g7 := c13
  have g8 := c14
  have g9 := c15
  have g10 := c16
  have g11 := c17
  clear c6 c7 c8 c9 c10 c11 c12 c13 c14 c15 c16 c17
  go_enter Try.func8, Try.ntmps8
  go_wp2_with fail
  rw [← HW.out]
  refine (awake_any _).mono ?_
  rintro e y1 ⟨rfl, f1⟩
  obtain ⟨d1_0, d1_1, d1_2, d1_3, d1_4, d1_5, d1_6, d1_7, d1_8, d1_9, d1_10, d1_11⟩ := KS.out _ _ f1 g0 g1 g2 g3 g4 g5 g6 g7 g8 g9 g10 g11
  have HF1 := Lib.hid (HF.out.noTrans f1)
  clear g0 g1 g2 g3 g4 g5 g6 g7 g8 g9 g10 g11
  have HB1 := Lib.hid (f1.blk HB.out (fun h => h))
  clear f1
  obtain ⟨⟨b0, b1, b2, b3, b4, b5⟩, -⟩ := six_cells HB1.out
  go_wp2_with fail
  clear b0 b1 b2 b3 b4 b5
  refine (few_any a0 l0 k0 a1 l1 k1 a2 l2 k2 e o t _).mono ?_
  rintro e' y3 ⟨rfl, f3⟩
  obtain ⟨d3_0, d3_1, d3_2, d3_3, d3_4, d3_5, d3_6, d3_7, d3_8, d3_9, d3_10, d3_11⟩ := KS.out _ _ f3 d1_0 d1_1 d1_2 d1_3 d1_4 d1_5 d1_6 d1_7 d1_8 d1_9 d1_10 d1_11
  have HB3 := Lib.hid (f3.blk HB1.out (fun h => h))
  have HF3 := Lib.hid (HF1.out.noTrans f3)
  clear f3 d1_0 d1_1 d1_2 d1_3 d1_4 d1_5 d1_6 d1_7 d1_8 d1_9 d1_10 d1_11
  obtain ⟨⟨b0, b1, b2, b3, b4, b5⟩, -⟩ := six_cells HB3.out
  cases hfew : decide (l0 ≤ 40 ∧ l1 ≤ 40 ∧ l2 ≤ 40)
  · clear hfew
    go_wp2_with fail
    go_ret
    exact ⟨rfl, HF3.out.belowNone (Nat.le_refl _)⟩
  clear hfew
  by_cases h31 : (31 : Int) < (l2 : Int)
  · go_wp2_with fail
    go_ret
    exact ⟨rfl, HF3.out.belowNone (Nat.le_refl _)⟩
  have h31' : (l2 : Int) ≤ 31 := by omega
  have HL := Lib.hid (show l2 ≤ 31 by omega)
  clear h31
  go_wp2_with fail
  clear b0 b1 b2 b3 b4 b5 h31'
  refine (K1.out _ (HP.out.kept HF3.out) (HZ.out.kept HF3.out) (HWs.out.kept HF3.out)).mono ?_
  rintro e' y4 ⟨rfl, f4⟩
  obtain ⟨d4_0, d4_1, d4_2, d4_3, d4_4, d4_5, d4_6, d4_7, d4_8, d4_9, d4_10, d4_11⟩ := KS.out _ _ f4 d3_0 d3_1 d3_2 d3_3 d3_4 d3_5 d3_6 d3_7 d3_8 d3_9 d3_10 d3_11
  have HB4 := Lib.hid (f4.blk HB3.out (fun h => h))
  have HF4 := Lib.hid (HF3.out.noTrans f4)
  clear f4 d3_0 d3_1 d3_2 d3_3 d3_4 d3_5 d3_6 d3_7 d3_8 d3_9 d3_10 d3_11
  obtain ⟨⟨b0, b1, b2, b3, b4, b5⟩, -⟩ := six_cells HB4.out
  obtain ⟨YM, hYM⟩ : ∃ Y, Y = y4.alloc (.cells #[.slice a0 l0 k0, .slice a1 l1 k1, .slice a2 l2 k2, .int .i64 e, .int .i64 o, .int .i64 t] 34 (0, 0)) := ⟨_, rfl⟩
  have hbM : YM.heap[y4.heap.size]? = some (.cells #[.slice a0 l0 k0, .slice a1 l1 k1, .slice a2 l2 k2, .int .i64 e, .int .i64 o, .int .i64 t] 34 (0, 0)) := by rw [hYM]; exact heap_alloc_new y4 _
  have hfM : Fr no y4 YM := by rw [hYM]; exact (Fr.refl no y4).alloc _
  have hszM : YM.heap.size = y4.heap.size + 1 := by rw [hYM]; simp
  have m0_ := lt_of_blk HB4.out
  have m1_ := blt d4_0
  have m2_ := blt d4_11
  have HYM := Lib.hid hYM
  have HBM := Lib.hid hbM
  have HSZ := Lib.hid hszM
  have HFM := Lib.hid hfM
  have h2c := hfM.keepc b2
  have p0 := hfM.keepc d4_0
  have p1 := hfM.keepc d4_1
  have p2 := hfM.keepc d4_2
  have p3 := hfM.keepc d4_3
  have p4 := hfM.keepc d4_4
  have p5 := hfM.keepc d4_5
  have p6 := hfM.keepc d4_6
  have p7 := hfM.keepc d4_7
  have p8 := hfM.keepc d4_8
  have p9 := hfM.keepc d4_9
  have p10 := hfM.keepc d4_10
  have p11 := hfM.keepc d4_11
  clear hYM hbM hszM hfM
  go_upto_region 11 with fail
  rw [← HYM.out]
  clear b0 b1 b2 b3 b4 b5
  go_cut [] (fun wx => ∃ g cap : Nat, wx.heap[y4.heap.size]? = some (.cells #[.slice a0 l0 k0, .slice a1 l1 k1, .slice (some ⟨g, 0, none⟩) (l2 + 1) cap, .int .i64 e, .int .i64 o, .int .i64 t] 34 (0, 0)) ∧ WlsIn wx (some ⟨g, 0, none⟩) (l2 + 1) (ws ++ [⟨cx, cy, dx, dy, f⟩]) ∧ Fr no y4 wx)
  case first =>
    obtain ⟨i0, hi, hz0, hz1, hz2⟩ := info_parts info25
    have n0_ : w.heap.size ≠ y4.heap.size := by omega
    have n1_ : w.heap.size + 1 ≠ y4.heap.size := by omega
    have n0s : y4.heap.size ≠ w.heap.size := by omega
    have n1s : y4.heap.size ≠ w.heap.size + 1 := by omega
    go_region_held3 (fun w' => w'.cell? ⟨w.heap.size, 2, none⟩ = some (.slice a2 l2 k2) ∧ w'.cell? ⟨w.heap.size + 1, 0, none⟩ = some (.int .i64 cx) ∧ w'.cell? ⟨w.heap.size + 1, 1, none⟩ = some (.int .i64 cy) ∧ w'.cell? ⟨w.heap.size + 1, 2, none⟩ = some (.int .i64 dx) ∧ w'.cell? ⟨w.heap.size + 1, 3, none⟩ = some (.int .i64 dy) ∧ w'.cell? ⟨w.heap.size + 1, 4, none⟩ = some (.int .i64 f)) (go_keep)
      (first
        | (go_at_call 35; refine (clone_walls a2 l2 k2 ws _ (HWs.out.kept (by first | exact (HF4.out.noTrans HFM.out).drew | exact (HF4.out.noTrans HFM.out).drew.alloc _)) (by have := HL.out; omega)).mono ?_; rintro e' w6 ⟨v6, rfl, ho6, f6⟩; have q0_ := f6.keepc (v := .slice a2 l2 k2) (p := ⟨w.heap.size, 2, none⟩) (by first | exact h2c | exact ((Fr.refl no YM).drew.alloc _).keepc h2c); have q1_ := f6.keepc (p := ⟨w.heap.size + 1, 0, none⟩) (v := .int .i64 cx) (by first | exact p0 | exact ((Fr.refl no YM).drew.alloc _).keepc p0); have q2_ := f6.keepc (p := ⟨w.heap.size + 1, 1, none⟩) (v := .int .i64 cy) (by first | exact p1 | exact ((Fr.refl no YM).drew.alloc _).keepc p1); have q3_ := f6.keepc (p := ⟨w.heap.size + 1, 2, none⟩) (v := .int .i64 dx) (by first | exact p2 | exact ((Fr.refl no YM).drew.alloc _).keepc p2); have q4_ := f6.keepc (p := ⟨w.heap.size + 1, 3, none⟩) (v := .int .i64 dy) (by first | exact p3 | exact ((Fr.refl no YM).drew.alloc _).keepc p3); have q5_ := f6.keepc (p := ⟨w.heap.size + 1, 4, none⟩) (v := .int .i64 f) (by first | exact p4 | exact ((Fr.refl no YM).drew.alloc _).keepc p4))
        | (refine step_append_lies _ (by rfl) (.tmp 49) (.tmp 51) 32 (by rfl) _ 25 i0 _ 5 40 Try.underlying32 hi hz0 hz1 hz2 rfl (by decide) v6 l2 (flatW ws) (by simp [Act.eval]) (ho6.alloc _) ⟨w6.heap.size, 0, none⟩ 1 1 [.int .i64 cx, .int .i64 cy, .int .i64 dx, .int .i64 dy, .int .i64 f] (by simp [Act.eval]) (by rfl) (World.news_of_block (cs := #[.int .i64 cx, .int .i64 cy, .int .i64 dx, .int .i64 dy, .int .i64 f]) (t := 25) (fr := (0, 0)) (heap_alloc_new w6 _)) (by simp [Value.oneCell']) (by decide) (by have := HL.out; unfold maxLen; omega) (by have := HL.out; omega) (by simp; have := f6.size; simp at this; omega) (w6.heap.size + 1) (by simp) ?_; intro g cap w7 hown7 hgrow7 hat7 hlt7; have f7 : Fr no YM w7 := (((Fr.refl no YM).drew.noTrans f6).alloc _).grown hgrow7 (fun k hk => .inr (by have := own_ge ho6 k hk; simpa using this)); have s0_ := f7.keepc h2c; have s1_ := f7.keepc p0; have s2_ := f7.keepc p1; have s3_ := f7.keepc p2; have s4_ := f7.keepc p3; have s5_ := f7.keepc p4; obtain ⟨⟨M0, M1, M2, M3, M4, M5⟩, N0, N1, N2, N3, N4, N5⟩ := six_cells (f7.blk HBM.out (fun h => h)); have hgM : y4.heap.size < g := (by have hs6 := f6.size; have hsz := HSZ.out; rcases hat7 with h | h; (· have := own_ge ho6 g h; simp at this; omega); (· simp at hs6; omega)); have HO7 := Lib.hid hown7; have HF7 := Lib.hid f7; have HG7 := Lib.hid hgM; clear hown7 hgrow7 hat7 hlt7 f7 hgM)
        | (refine step_append_lies _ (by rfl) (.tmp 49) (.tmp 51) 32 (by rfl) _ 25 i0 _ 5 40 Try.underlying32 hi hz0 hz1 hz2 rfl (by decide) v6 l2 (flatW ws) (by simp [Act.eval]) ho6 ⟨YM.heap.size, 0, none⟩ 1 1 [.int .i64 cx, .int .i64 cy, .int .i64 dx, .int .i64 dy, .int .i64 f] (by simp [Act.eval]) (by rfl) (World.news_of_block (cs := #[.int .i64 cx, .int .i64 cy, .int .i64 dx, .int .i64 dy, .int .i64 f]) (t := 25) (fr := (0, 0)) (f6.blk (heap_alloc_new YM.drew _) (fun h => h))) (by simp [Value.oneCell']) (by decide) (by have := HL.out; unfold maxLen; omega) (by have := HL.out; omega) (by have := f6.size; simp at this; simp; omega) w6.heap.size rfl ?_; intro g cap w7 hown7 hgrow7 hat7 hlt7; have f7 : Fr no YM w7 := (((Fr.refl no YM).drew.alloc _).noTrans f6).grown hgrow7 (fun k hk => .inr (by have := own_ge ho6 k hk; simp at this; omega)); have s0_ := f7.keepc h2c; have s1_ := f7.keepc p0; have s2_ := f7.keepc p1; have s3_ := f7.keepc p2; have s4_ := f7.keepc p3; have s5_ := f7.keepc p4; obtain ⟨⟨M0, M1, M2, M3, M4, M5⟩, N0, N1, N2, N3, N4, N5⟩ := six_cells (f7.blk HBM.out (fun h => h)); have hgM : y4.heap.size < g := (by have hs6 := f6.size; have hsz := HSZ.out; rcases hat7 with h | h; (· have := own_ge ho6 g h; simp at this; omega); (· simp at hs6; omega)); have HO7 := Lib.hid hown7; have HF7 := Lib.hid f7; have HG7 := Lib.hid hgM; clear hown7 hgrow7 hat7 hlt7 f7 hgM))
    all_goals
      go_wp2_with fail
      go_meet
      refine ⟨g, cap, by simpa using three_set (HF7.out.blk HBM.out (fun h => h)) 2 (.slice (some ⟨g, 0, none⟩) (l2 + 1) cap), ?_, (HFM.out.noTrans HF7.out).setCell (p := ⟨y4.heap.size, 2, none⟩) (.inr (Nat.le_refl _)) _⟩
      have hh := HO7.out
      rw [show flatW ws ++ [.int .i64 cx, .int .i64 cy, .int .i64 dx, .int .i64 dy, .int .i64 f] = flatW (ws ++ [⟨cx, cy, dx, dy, f⟩]) by simp [flatW, wlVals]] at hh
      exact (own_walls hh (by simp [HWs.out.1])).other ((Fr.refl (only y4.heap.size) w7).setCell (p := ⟨y4.heap.size, 2, none⟩) (.inl rfl) _) (by have := HG7.out; simp only [only]; omega)
  case rest =>
  obtain ⟨g, cap, hbX, hwX, fX⟩ := hcut
  obtain ⟨o0, o1, o2, o3, o4, o5, o6, o7, o8, o9, o10, o11⟩ := KS.out _ _ fX d4_0 d4_1 d4_2 d4_3 d4_4 d4_5 d4_6 d4_7 d4_8 d4_9 d4_10 d4_11
  have HBX := Lib.hid hbX
  have HWX := Lib.hid hwX
  have HFX := Lib.hid (HF4.out.noTrans fX)
  clear hbX hwX fX h2c m0_ m1_ m2_ d4_0 d4_1 d4_2 d4_3 d4_4 d4_5 d4_6 d4_7 d4_8 d4_9 d4_10 d4_11 p0 p1 p2 p3 p4 p5 p6 p7 p8 p9 p10 p11
  obtain ⟨⟨b0, b1, b2, b3, b4, b5⟩, -⟩ := six_cells HBX.out
  go_wp2_with fail
  clear b0 b1 b2 b3 b4 b5
  refine (K2.out g cap _ (HP.out.kept HFX.out) (HZ.out.kept HFX.out) HWX.out).mono ?_
  rintro e' y8 ⟨rfl, f8⟩
  obtain ⟨d8_0, d8_1, d8_2, d8_3, d8_4, d8_5, d8_6, d8_7, d8_8, d8_9, d8_10, d8_11⟩ := KS.out _ _ f8 o0 o1 o2 o3 o4 o5 o6 o7 o8 o9 o10 o11
  have HB8 := Lib.hid (f8.blk HBX.out (fun h => h))
  have HW8 := Lib.hid (HWX.out.kept f8)
  have HF8 := Lib.hid (HFX.out.noTrans f8)
  clear f8 o0 o1 o2 o3 o4 o5 o6 o7 o8 o9 o10 o11
  go_wp2_with fail
  refine (K4.out _).mono ?_
  rintro e' y9 ⟨rfl, f9⟩
  obtain ⟨d9_0, d9_1, d9_2, d9_3, d9_4, d9_5, d9_6, d9_7, d9_8, d9_9, d9_10, d9_11⟩ := KS.out _ _ f9 d8_0 d8_1 d8_2 d8_3 d8_4 d8_5 d8_6 d8_7 d8_8 d8_9 d8_10 d8_11
  have HF9 := Lib.hid (HF8.out.noTrans f9)
  clear f9 d8_0 d8_1 d8_2 d8_3 d8_4 d8_5 d8_6 d8_7 d8_8 d8_9 d8_10 d8_11
  go_wp2_with fail
  go_ret
  exact ⟨rfl, HF9.out.belowNone (Nat.le_refl _)⟩
set_option maxRecDepth 100000 in
set_option maxHeartbeats 8000000 in
theorem walls_D (a0 : Option Addr) (l0 k0 : Nat) (a1 : Option Addr) (l1 k1 : Nat) (a2 : Option Addr) (l2 k2 : Nat) (e o t : Int) (ps : List Pt) (zs : List Int) (ws : List Wl) (cx cy dx dy f ax ay bx by_ q na nb : Int) (w : World) (hp : PtsIn w a0 l0 ps) (hz : IntsIn w a1 l1 zs) (hw : WlsIn w a2 l2 ws) (V1 : Int) (kk1 : ∀ w : World, PtsIn w a0 l0 ps → IntsIn w a1 l1 zs → WlsIn w a2 l2 ws → Calls Try.prog 18 #[.agg #[.slice a0 l0 k0, .slice a1 l1 k1, .slice a2 l2 k2, .int .i64 e, .int .i64 o, .int .i64 t], .agg #[.int .i64 ax, .int .i64 ay], .int .i64 q, .agg #[.int .i64 bx, .int .i64 by_]] w fun e' w' => e' = .returned (.tuple #[.int .i64 V1, .int .i64 0]) ∧ Fr no w w') (kk2 : ∀ (g cap : Nat) (w : World), PtsIn w a0 l0 ps → IntsIn w a1 l1 zs → WlsIn w (some ⟨g, 0, none⟩) (l2 + 1) (ws ++ [⟨cx, cy, dx, dy, f⟩]) → Calls Try.prog 18 #[.agg #[.slice a0 l0 k0, .slice a1 l1 k1, .slice (some ⟨g, 0, none⟩) (l2 + 1) cap, .int .i64 e, .int .i64 o, .int .i64 t], .agg #[.int .i64 ax, .int .i64 ay], .int .i64 q, .agg #[.int .i64 bx, .int .i64 by_]] w fun e' w' => e' = .returned (.tuple #[.int .i64 V1, .int .i64 0]) ∧ Fr no w w') (v0 : 0 ≤ V1) (v1 : V1 ≤ q) (kk4 : ∀ w : World, Calls Try.prog 15 #[.agg #[.int .i64 ax, .int .i64 ay], .agg #[.int .i64 bx, .int .i64 by_], .agg #[.int .i64 cx, .int .i64 cy, .int .i64 dx, .int .i64 dy, .int .i64 f]] w fun e' w' => e' = .returned (.bool true) ∧ Fr no w w') (hf : f = 1000) : Calls Try.prog 8 #[.agg #[.slice a0 l0 k0, .slice a1 l1 k1, .slice a2 l2 k2, .int .i64 e, .int .i64 o, .int .i64 t], .agg #[.int .i64 cx, .int .i64 cy, .int .i64 dx, .int .i64 dy, .int .i64 f], .agg #[.int .i64 ax, .int .i64 ay, .int .i64 bx, .int .i64 by_, .int .i64 q, .int .i64 na, .int .i64 nb]] w fun e' w' => e' = .returned (.bool true) ∧ Below w.heap.size w w' := by
  subst hf
  have HP := Lib.hid hp
  have HZ := Lib.hid hz
  have HWs := Lib.hid hw
  have K1 := Lib.hid kk1
  have K2 := Lib.hid kk2
  have K4 := Lib.hid kk4
  clear hp hz hw kk1 kk2 kk4
  have KS := Lib.hid (show ∀ w0 w' : World, Fr no w0 w' → w0.cell? ⟨w.heap.size + 1, 0, none⟩ = some (.int .i64 cx) → w0.cell? ⟨w.heap.size + 1, 1, none⟩ = some (.int .i64 cy) → w0.cell? ⟨w.heap.size + 1, 2, none⟩ = some (.int .i64 dx) → w0.cell? ⟨w.heap.size + 1, 3, none⟩ = some (.int .i64 dy) → w0.cell? ⟨w.heap.size + 1, 4, none⟩ = some (.int .i64 1000) → w0.cell? ⟨w.heap.size + 1 + 1, 0, none⟩ = some (.int .i64 ax) → w0.cell? ⟨w.heap.size + 1 + 1, 1, none⟩ = some (.int .i64 ay) → w0.cell? ⟨w.heap.size + 1 + 1, 2, none⟩ = some (.int .i64 bx) → w0.cell? ⟨w.heap.size + 1 + 1, 3, none⟩ = some (.int .i64 by_) → w0.cell? ⟨w.heap.size + 1 + 1, 4, none⟩ = some (.int .i64 q) → w0.cell? ⟨w.heap.size + 1 + 1, 5, none⟩ = some (.int .i64 na) → w0.cell? ⟨w.heap.size + 1 + 1, 6, none⟩ = some (.int .i64 nb) → (w'.cell? ⟨w.heap.size + 1, 0, none⟩ = some (.int .i64 cx) ∧ w'.cell? ⟨w.heap.size + 1, 1, none⟩ = some (.int .i64 cy) ∧ w'.cell? ⟨w.heap.size + 1, 2, none⟩ = some (.int .i64 dx) ∧ w'.cell? ⟨w.heap.size + 1, 3, none⟩ = some (.int .i64 dy) ∧ w'.cell? ⟨w.heap.size + 1, 4, none⟩ = some (.int .i64 1000) ∧ w'.cell? ⟨w.heap.size + 1 + 1, 0, none⟩ = some (.int .i64 ax) ∧ w'.cell? ⟨w.heap.size + 1 + 1, 1, none⟩ = some (.int .i64 ay) ∧ w'.cell? ⟨w.heap.size + 1 + 1, 2, none⟩ = some (.int .i64 bx) ∧ w'.cell? ⟨w.heap.size + 1 + 1, 3, none⟩ = some (.int .i64 by_) ∧ w'.cell? ⟨w.heap.size + 1 + 1, 4, none⟩ = some (.int .i64 q) ∧ w'.cell? ⟨w.heap.size + 1 + 1, 5, none⟩ = some (.int .i64 na) ∧ w'.cell? ⟨w.heap.size + 1 + 1, 6, none⟩ = some (.int .i64 nb)) from fun _ _ h a0 a1 a2 a3 a4 a5 a6 a7 a8 a9 a10 a11 => ⟨h.keepc a0, h.keepc a1, h.keepc a2, h.keepc a3, h.keepc a4, h.keepc a5, h.keepc a6, h.keepc a7, h.keepc a8, h.keepc a9, h.keepc a10, h.keepc a11⟩)
  obtain ⟨W, hW⟩ : ∃ W, W = (((w.alloc (.cells #[.slice a0 l0 k0, .slice a1 l1 k1, .slice a2 l2 k2, .int .i64 e, .int .i64 o, .int .i64 t] 34 (0, 0))).alloc (.cells #[.int .i64 cx, .int .i64 cy, .int .i64 dx, .int .i64 dy, .int .i64 1000] 25 (0, 0))).alloc (.cells #[.int .i64 ax, .int .i64 ay, .int .i64 bx, .int .i64 by_, .int .i64 q, .int .i64 na, .int .i64 nb] 36 (0, 0))) := ⟨_, rfl⟩
  have HF := Lib.hid (show Fr no w W by rw [hW]; exact (((Fr.refl no w).alloc _).alloc _).alloc _)
  have c0 : W.cell? ⟨w.heap.size, 0, none⟩ = some (.slice a0 l0 k0) := by rw [hW]; go_simp
  have c1 : W.cell? ⟨w.heap.size, 1, none⟩ = some (.slice a1 l1 k1) := by rw [hW]; go_simp
  have c2 : W.cell? ⟨w.heap.size, 2, none⟩ = some (.slice a2 l2 k2) := by rw [hW]; go_simp
  have c3 : W.cell? ⟨w.heap.size, 3, none⟩ = some (.int .i64 e) := by rw [hW]; go_simp
  have c4 : W.cell? ⟨w.heap.size, 4, none⟩ = some (.int .i64 o) := by rw [hW]; go_simp
  have c5 : W.cell? ⟨w.heap.size, 5, none⟩ = some (.int .i64 t) := by rw [hW]; go_simp
  have c6 : W.cell? ⟨w.heap.size + 1, 0, none⟩ = some (.int .i64 cx) := by rw [hW]; go_simp
  have c7 : W.cell? ⟨w.heap.size + 1, 1, none⟩ = some (.int .i64 cy) := by rw [hW]; go_simp
  have c8 : W.cell? ⟨w.heap.size + 1, 2, none⟩ = some (.int .i64 dx) := by rw [hW]; go_simp
  have c9 : W.cell? ⟨w.heap.size + 1, 3, none⟩ = some (.int .i64 dy) := by rw [hW]; go_simp
  have c10 : W.cell? ⟨w.heap.size + 1, 4, none⟩ = some (.int .i64 1000) := by rw [hW]; go_simp
  have c11 : W.cell? ⟨w.heap.size + 1 + 1, 0, none⟩ = some (.int .i64 ax) := by rw [hW]; go_simp
  have c12 : W.cell? ⟨w.heap.size + 1 + 1, 1, none⟩ = some (.int .i64 ay) := by rw [hW]; go_simp
  have c13 : W.cell? ⟨w.heap.size + 1 + 1, 2, none⟩ = some (.int .i64 bx) := by rw [hW]; go_simp
  have c14 : W.cell? ⟨w.heap.size + 1 + 1, 3, none⟩ = some (.int .i64 by_) := by rw [hW]; go_simp
  have c15 : W.cell? ⟨w.heap.size + 1 + 1, 4, none⟩ = some (.int .i64 q) := by rw [hW]; go_simp
  have c16 : W.cell? ⟨w.heap.size + 1 + 1, 5, none⟩ = some (.int .i64 na) := by rw [hW]; go_simp
  have c17 : W.cell? ⟨w.heap.size + 1 + 1, 6, none⟩ = some (.int .i64 nb) := by rw [hW]; go_simp
  have HW := Lib.hid hW
  clear hW
  have hb : W.heap[w.heap.size]? = some (.cells #[.slice a0 l0 k0, .slice a1 l1 k1, .slice a2 l2 k2, .int .i64 e, .int .i64 o, .int .i64 t] 34 (0, 0)) := by rw [HW.out]; exact alloc_keeps (alloc_keeps (heap_alloc_new w _) _) _
  have HB := Lib.hid hb
  clear hb c0 c1 c2 c3 c4 c5
  have g0 := c6
  have g1 := c7
  have g2 := c8
  have g3 := c9
  have g4 := c10
  have g5 := c11
  have g6 := c12
  have g7 := c13
  have g8 := c14
  have g9 := c15
  have g10 := c16
  have g11 := c17
  clear c6 c7 c8 c9 c10 c11 c12 c13 c14 c15 c16 c17
  go_enter Try.func8, Try.ntmps8
  go_wp2_with fail
  rw [← HW.out]
  refine (awake_any _).mono ?_
  rintro e y1 ⟨rfl, f1⟩
  obtain ⟨d1_0, d1_1, d1_2, d1_3, d1_4, d1_5, d1_6, d1_7, d1_8, d1_9, d1_10, d1_11⟩ := KS.out _ _ f1 g0 g1 g2 g3 g4 g5 g6 g7 g8 g9 g10 g11
  have HF1 := Lib.hid (HF.out.noTrans f1)
  clear g0 g1 g2 g3 g4 g5 g6 g7 g8 g9 g10 g11
  have HB1 := Lib.hid (f1.blk HB.out (fun h => h))
  clear f1
  obtain ⟨⟨b0, b1, b2, b3, b4, b5⟩, -⟩ := six_cells HB1.out
  go_wp2_with fail
  clear b0 b1 b2 b3 b4 b5
  refine (few_any a0 l0 k0 a1 l1 k1 a2 l2 k2 e o t _).mono ?_
  rintro e' y3 ⟨rfl, f3⟩
  obtain ⟨d3_0, d3_1, d3_2, d3_3, d3_4, d3_5, d3_6, d3_7, d3_8, d3_9, d3_10, d3_11⟩ := KS.out _ _ f3 d1_0 d1_1 d1_2 d1_3 d1_4 d1_5 d1_6 d1_7 d1_8 d1_9 d1_10 d1_11
  have HB3 := Lib.hid (f3.blk HB1.out (fun h => h))
  have HF3 := Lib.hid (HF1.out.noTrans f3)
  clear f3 d1_0 d1_1 d1_2 d1_3 d1_4 d1_5 d1_6 d1_7 d1_8 d1_9 d1_10 d1_11
  obtain ⟨⟨b0, b1, b2, b3, b4, b5⟩, -⟩ := six_cells HB3.out
  cases hfew : decide (l0 ≤ 40 ∧ l1 ≤ 40 ∧ l2 ≤ 40)
  · clear hfew
    go_wp2_with fail
    go_ret
    exact ⟨rfl, HF3.out.belowNone (Nat.le_refl _)⟩
  clear hfew
  by_cases h31 : (31 : Int) < (l2 : Int)
  · go_wp2_with fail
    go_ret
    exact ⟨rfl, HF3.out.belowNone (Nat.le_refl _)⟩
  have h31' : (l2 : Int) ≤ 31 := by omega
  have HL := Lib.hid (show l2 ≤ 31 by omega)
  clear h31
  go_wp2_with fail
  clear b0 b1 b2 b3 b4 b5 h31'
  refine (K1.out _ (HP.out.kept HF3.out) (HZ.out.kept HF3.out) (HWs.out.kept HF3.out)).mono ?_
  rintro e' y4 ⟨rfl, f4⟩
  obtain ⟨d4_0, d4_1, d4_2, d4_3, d4_4, d4_5, d4_6, d4_7, d4_8, d4_9, d4_10, d4_11⟩ := KS.out _ _ f4 d3_0 d3_1 d3_2 d3_3 d3_4 d3_5 d3_6 d3_7 d3_8 d3_9 d3_10 d3_11
  have HB4 := Lib.hid (f4.blk HB3.out (fun h => h))
  have HF4 := Lib.hid (HF3.out.noTrans f4)
  clear f4 d3_0 d3_1 d3_2 d3_3 d3_4 d3_5 d3_6 d3_7 d3_8 d3_9 d3_10 d3_11
  obtain ⟨⟨b0, b1, b2, b3, b4, b5⟩, -⟩ := six_cells HB4.out
  obtain ⟨YM, hYM⟩ : ∃ Y, Y = y4.alloc (.cells #[.slice a0 l0 k0, .slice a1 l1 k1, .slice a2 l2 k2, .int .i64 e, .int .i64 o, .int .i64 t] 34 (0, 0)) := ⟨_, rfl⟩
  have hbM : YM.heap[y4.heap.size]? = some (.cells #[.slice a0 l0 k0, .slice a1 l1 k1, .slice a2 l2 k2, .int .i64 e, .int .i64 o, .int .i64 t] 34 (0, 0)) := by rw [hYM]; exact heap_alloc_new y4 _
  have hfM : Fr no y4 YM := by rw [hYM]; exact (Fr.refl no y4).alloc _
  have hszM : YM.heap.size = y4.heap.size + 1 := by rw [hYM]; simp
  have m0_ := lt_of_blk HB4.out
  have m1_ := blt d4_0
  have m2_ := blt d4_11
  have HYM := Lib.hid hYM
  have HBM := Lib.hid hbM
  have HSZ := Lib.hid hszM
  have HFM := Lib.hid hfM
  have h2c := hfM.keepc b2
  have p0 := hfM.keepc d4_0
  have p1 := hfM.keepc d4_1
  have p2 := hfM.keepc d4_2
  have p3 := hfM.keepc d4_3
  have p4 := hfM.keepc d4_4
  have p5 := hfM.keepc d4_5
  have p6 := hfM.keepc d4_6
  have p7 := hfM.keepc d4_7
  have p8 := hfM.keepc d4_8
  have p9 := hfM.keepc d4_9
  have p10 := hfM.keepc d4_10
  have p11 := hfM.keepc d4_11
  clear hYM hbM hszM hfM
  go_upto_region 11 with fail
  rw [← HYM.out]
  clear b0 b1 b2 b3 b4 b5
  go_cut [] (fun wx => ∃ g cap : Nat, wx.heap[y4.heap.size]? = some (.cells #[.slice a0 l0 k0, .slice a1 l1 k1, .slice (some ⟨g, 0, none⟩) (l2 + 1) cap, .int .i64 e, .int .i64 o, .int .i64 t] 34 (0, 0)) ∧ WlsIn wx (some ⟨g, 0, none⟩) (l2 + 1) (ws ++ [⟨cx, cy, dx, dy, 1000⟩]) ∧ Fr no y4 wx)
  case first =>
    obtain ⟨i0, hi, hz0, hz1, hz2⟩ := info_parts info25
    have n0_ : w.heap.size ≠ y4.heap.size := by omega
    have n1_ : w.heap.size + 1 ≠ y4.heap.size := by omega
    have n0s : y4.heap.size ≠ w.heap.size := by omega
    have n1s : y4.heap.size ≠ w.heap.size + 1 := by omega
    go_region_held3 (fun w' => w'.cell? ⟨w.heap.size, 2, none⟩ = some (.slice a2 l2 k2) ∧ w'.cell? ⟨w.heap.size + 1, 0, none⟩ = some (.int .i64 cx) ∧ w'.cell? ⟨w.heap.size + 1, 1, none⟩ = some (.int .i64 cy) ∧ w'.cell? ⟨w.heap.size + 1, 2, none⟩ = some (.int .i64 dx) ∧ w'.cell? ⟨w.heap.size + 1, 3, none⟩ = some (.int .i64 dy) ∧ w'.cell? ⟨w.heap.size + 1, 4, none⟩ = some (.int .i64 1000)) (go_keep)
      (first
        | (go_at_call 35; refine (clone_walls a2 l2 k2 ws _ (HWs.out.kept (by first | exact (HF4.out.noTrans HFM.out).drew | exact (HF4.out.noTrans HFM.out).drew.alloc _)) (by have := HL.out; omega)).mono ?_; rintro e' w6 ⟨v6, rfl, ho6, f6⟩; have q0_ := f6.keepc (v := .slice a2 l2 k2) (p := ⟨w.heap.size, 2, none⟩) (by first | exact h2c | exact ((Fr.refl no YM).drew.alloc _).keepc h2c); have q1_ := f6.keepc (p := ⟨w.heap.size + 1, 0, none⟩) (v := .int .i64 cx) (by first | exact p0 | exact ((Fr.refl no YM).drew.alloc _).keepc p0); have q2_ := f6.keepc (p := ⟨w.heap.size + 1, 1, none⟩) (v := .int .i64 cy) (by first | exact p1 | exact ((Fr.refl no YM).drew.alloc _).keepc p1); have q3_ := f6.keepc (p := ⟨w.heap.size + 1, 2, none⟩) (v := .int .i64 dx) (by first | exact p2 | exact ((Fr.refl no YM).drew.alloc _).keepc p2); have q4_ := f6.keepc (p := ⟨w.heap.size + 1, 3, none⟩) (v := .int .i64 dy) (by first | exact p3 | exact ((Fr.refl no YM).drew.alloc _).keepc p3); have q5_ := f6.keepc (p := ⟨w.heap.size + 1, 4, none⟩) (v := .int .i64 1000) (by first | exact p4 | exact ((Fr.refl no YM).drew.alloc _).keepc p4))
        | (refine step_append_lies _ (by rfl) (.tmp 49) (.tmp 51) 32 (by rfl) _ 25 i0 _ 5 40 Try.underlying32 hi hz0 hz1 hz2 rfl (by decide) v6 l2 (flatW ws) (by simp [Act.eval]) (ho6.alloc _) ⟨w6.heap.size, 0, none⟩ 1 1 [.int .i64 cx, .int .i64 cy, .int .i64 dx, .int .i64 dy, .int .i64 1000] (by simp [Act.eval]) (by rfl) (World.news_of_block (cs := #[.int .i64 cx, .int .i64 cy, .int .i64 dx, .int .i64 dy, .int .i64 1000]) (t := 25) (fr := (0, 0)) (heap_alloc_new w6 _)) (by simp [Value.oneCell']) (by decide) (by have := HL.out; unfold maxLen; omega) (by have := HL.out; omega) (by simp; have := f6.size; simp at this; omega) (w6.heap.size + 1) (by simp) ?_; intro g cap w7 hown7 hgrow7 hat7 hlt7; have f7 : Fr no YM w7 := (((Fr.refl no YM).drew.noTrans f6).alloc _).grown hgrow7 (fun k hk => .inr (by have := own_ge ho6 k hk; simpa using this)); have s0_ := f7.keepc h2c; have s1_ := f7.keepc p0; have s2_ := f7.keepc p1; have s3_ := f7.keepc p2; have s4_ := f7.keepc p3; have s5_ := f7.keepc p4; obtain ⟨⟨M0, M1, M2, M3, M4, M5⟩, N0, N1, N2, N3, N4, N5⟩ := six_cells (f7.blk HBM.out (fun h => h)); have hgM : y4.heap.size < g := (by have hs6 := f6.size; have hsz := HSZ.out; rcases hat7 with h | h; (· have := own_ge ho6 g h; simp at this; omega); (· simp at hs6; omega)); have HO7 := Lib.hid hown7; have HF7 := Lib.hid f7; have HG7 := Lib.hid hgM; clear hown7 hgrow7 hat7 hlt7 f7 hgM)
        | (refine step_append_lies _ (by rfl) (.tmp 49) (.tmp 51) 32 (by rfl) _ 25 i0 _ 5 40 Try.underlying32 hi hz0 hz1 hz2 rfl (by decide) v6 l2 (flatW ws) (by simp [Act.eval]) ho6 ⟨YM.heap.size, 0, none⟩ 1 1 [.int .i64 cx, .int .i64 cy, .int .i64 dx, .int .i64 dy, .int .i64 1000] (by simp [Act.eval]) (by rfl) (World.news_of_block (cs := #[.int .i64 cx, .int .i64 cy, .int .i64 dx, .int .i64 dy, .int .i64 1000]) (t := 25) (fr := (0, 0)) (f6.blk (heap_alloc_new YM.drew _) (fun h => h))) (by simp [Value.oneCell']) (by decide) (by have := HL.out; unfold maxLen; omega) (by have := HL.out; omega) (by have := f6.size; simp at this; simp; omega) w6.heap.size rfl ?_; intro g cap w7 hown7 hgrow7 hat7 hlt7; have f7 : Fr no YM w7 := (((Fr.refl no YM).drew.alloc _).noTrans f6).grown hgrow7 (fun k hk => .inr (by have := own_ge ho6 k hk; simp at this; omega)); have s0_ := f7.keepc h2c; have s1_ := f7.keepc p0; have s2_ := f7.keepc p1; have s3_ := f7.keepc p2; have s4_ := f7.keepc p3; have s5_ := f7.keepc p4; obtain ⟨⟨M0, M1, M2, M3, M4, M5⟩, N0, N1, N2, N3, N4, N5⟩ := six_cells (f7.blk HBM.out (fun h => h)); have hgM : y4.heap.size < g := (by have hs6 := f6.size; have hsz := HSZ.out; rcases hat7 with h | h; (· have := own_ge ho6 g h; simp at this; omega); (· simp at hs6; omega)); have HO7 := Lib.hid hown7; have HF7 := Lib.hid f7; have HG7 := Lib.hid hgM; clear hown7 hgrow7 hat7 hlt7 f7 hgM))
    all_goals
      go_wp2_with fail
      go_meet
      refine ⟨g, cap, by simpa using three_set (HF7.out.blk HBM.out (fun h => h)) 2 (.slice (some ⟨g, 0, none⟩) (l2 + 1) cap), ?_, (HFM.out.noTrans HF7.out).setCell (p := ⟨y4.heap.size, 2, none⟩) (.inr (Nat.le_refl _)) _⟩
      have hh := HO7.out
      rw [show flatW ws ++ [.int .i64 cx, .int .i64 cy, .int .i64 dx, .int .i64 dy, .int .i64 1000] = flatW (ws ++ [⟨cx, cy, dx, dy, 1000⟩]) by simp [flatW, wlVals]] at hh
      exact (own_walls hh (by simp [HWs.out.1])).other ((Fr.refl (only y4.heap.size) w7).setCell (p := ⟨y4.heap.size, 2, none⟩) (.inl rfl) _) (by have := HG7.out; simp only [only]; omega)
  case rest =>
  obtain ⟨g, cap, hbX, hwX, fX⟩ := hcut
  obtain ⟨o0, o1, o2, o3, o4, o5, o6, o7, o8, o9, o10, o11⟩ := KS.out _ _ fX d4_0 d4_1 d4_2 d4_3 d4_4 d4_5 d4_6 d4_7 d4_8 d4_9 d4_10 d4_11
  have HBX := Lib.hid hbX
  have HWX := Lib.hid hwX
  have HFX := Lib.hid (HF4.out.noTrans fX)
  clear hbX hwX fX h2c m0_ m1_ m2_ d4_0 d4_1 d4_2 d4_3 d4_4 d4_5 d4_6 d4_7 d4_8 d4_9 d4_10 d4_11 p0 p1 p2 p3 p4 p5 p6 p7 p8 p9 p10 p11
  obtain ⟨⟨b0, b1, b2, b3, b4, b5⟩, -⟩ := six_cells HBX.out
  go_wp2_with fail
  clear b0 b1 b2 b3 b4 b5
  refine (K2.out g cap _ (HP.out.kept HFX.out) (HZ.out.kept HFX.out) HWX.out).mono ?_
  rintro e' y8 ⟨rfl, f8⟩
  obtain ⟨d8_0, d8_1, d8_2, d8_3, d8_4, d8_5, d8_6, d8_7, d8_8, d8_9, d8_10, d8_11⟩ := KS.out _ _ f8 o0 o1 o2 o3 o4 o5 o6 o7 o8 o9 o10 o11
  have HB8 := Lib.hid (f8.blk HBX.out (fun h => h))
  have HW8 := Lib.hid (HWX.out.kept f8)
  have HF8 := Lib.hid (HFX.out.noTrans f8)
  clear f8 o0 o1 o2 o3 o4 o5 o6 o7 o8 o9 o10 o11
  go_wp2_with fail
  refine (K4.out _).mono ?_
  rintro e' y9 ⟨rfl, f9⟩
  obtain ⟨d9_0, d9_1, d9_2, d9_3, d9_4, d9_5, d9_6, d9_7, d9_8, d9_9, d9_10, d9_11⟩ := KS.out _ _ f9 d8_0 d8_1 d8_2 d8_3 d8_4 d8_5 d8_6 d8_7 d8_8 d8_9 d8_10 d8_11
  have HF9 := Lib.hid (HF8.out.noTrans f9)
  clear f9 d8_0 d8_1 d8_2 d8_3 d8_4 d8_5 d8_6 d8_7 d8_8 d8_9 d8_10 d8_11
  go_wp2_with fail
  go_ret
  exact ⟨rfl, HF9.out.belowNone (Nat.le_refl _)⟩
set_option maxRecDepth 100000 in
set_option maxHeartbeats 8000000 in
theorem walls_E (a0 : Option Addr) (l0 k0 : Nat) (a1 : Option Addr) (l1 k1 : Nat) (a2 : Option Addr) (l2 k2 : Nat) (e o t : Int) (ps : List Pt) (zs : List Int) (ws : List Wl) (cx cy dx dy f ax ay bx by_ q na nb : Int) (w : World) (hp : PtsIn w a0 l0 ps) (hz : IntsIn w a1 l1 zs) (hw : WlsIn w a2 l2 ws) (V1 V2 : Int) (kk1 : ∀ w : World, PtsIn w a0 l0 ps → IntsIn w a1 l1 zs → WlsIn w a2 l2 ws → Calls Try.prog 18 #[.agg #[.slice a0 l0 k0, .slice a1 l1 k1, .slice a2 l2 k2, .int .i64 e, .int .i64 o, .int .i64 t], .agg #[.int .i64 ax, .int .i64 ay], .int .i64 q, .agg #[.int .i64 bx, .int .i64 by_]] w fun e' w' => e' = .returned (.tuple #[.int .i64 V1, .int .i64 0]) ∧ Fr no w w') (kk2 : ∀ (g cap : Nat) (w : World), PtsIn w a0 l0 ps → IntsIn w a1 l1 zs → WlsIn w (some ⟨g, 0, none⟩) (l2 + 1) (ws ++ [⟨cx, cy, dx, dy, f⟩]) → Calls Try.prog 18 #[.agg #[.slice a0 l0 k0, .slice a1 l1 k1, .slice (some ⟨g, 0, none⟩) (l2 + 1) cap, .int .i64 e, .int .i64 o, .int .i64 t], .agg #[.int .i64 ax, .int .i64 ay], .int .i64 q, .agg #[.int .i64 bx, .int .i64 by_]] w fun e' w' => e' = .returned (.tuple #[.int .i64 V2, .int .i64 0]) ∧ Fr no w w') (v0 : 0 ≤ V1) (v1 : V1 ≤ q) (kk4 : ∀ w : World, Calls Try.prog 15 #[.agg #[.int .i64 ax, .int .i64 ay], .agg #[.int .i64 bx, .int .i64 by_], .agg #[.int .i64 cx, .int .i64 cy, .int .i64 dx, .int .i64 dy, .int .i64 f]] w fun e' w' => e' = .returned (.bool true) ∧ Fr no w w') (hf : f ≠ 1000) (hv : V2 ≤ V1) : Calls Try.prog 8 #[.agg #[.slice a0 l0 k0, .slice a1 l1 k1, .slice a2 l2 k2, .int .i64 e, .int .i64 o, .int .i64 t], .agg #[.int .i64 cx, .int .i64 cy, .int .i64 dx, .int .i64 dy, .int .i64 f], .agg #[.int .i64 ax, .int .i64 ay, .int .i64 bx, .int .i64 by_, .int .i64 q, .int .i64 na, .int .i64 nb]] w fun e' w' => e' = .returned (.bool true) ∧ Below w.heap.size w w' := by
  have hF : (f == 1000) = false := by rw [beq_eq_false_iff_ne]; exact hf
  clear hf
  have HP := Lib.hid hp
  have HZ := Lib.hid hz
  have HWs := Lib.hid hw
  have K1 := Lib.hid kk1
  have K2 := Lib.hid kk2
  have K4 := Lib.hid kk4
  clear hp hz hw kk1 kk2 kk4
  have KS := Lib.hid (show ∀ w0 w' : World, Fr no w0 w' → w0.cell? ⟨w.heap.size + 1, 0, none⟩ = some (.int .i64 cx) → w0.cell? ⟨w.heap.size + 1, 1, none⟩ = some (.int .i64 cy) → w0.cell? ⟨w.heap.size + 1, 2, none⟩ = some (.int .i64 dx) → w0.cell? ⟨w.heap.size + 1, 3, none⟩ = some (.int .i64 dy) → w0.cell? ⟨w.heap.size + 1, 4, none⟩ = some (.int .i64 f) → w0.cell? ⟨w.heap.size + 1 + 1, 0, none⟩ = some (.int .i64 ax) → w0.cell? ⟨w.heap.size + 1 + 1, 1, none⟩ = some (.int .i64 ay) → w0.cell? ⟨w.heap.size + 1 + 1, 2, none⟩ = some (.int .i64 bx) → w0.cell? ⟨w.heap.size + 1 + 1, 3, none⟩ = some (.int .i64 by_) → w0.cell? ⟨w.heap.size + 1 + 1, 4, none⟩ = some (.int .i64 q) → w0.cell? ⟨w.heap.size + 1 + 1, 5, none⟩ = some (.int .i64 na) → w0.cell? ⟨w.heap.size + 1 + 1, 6, none⟩ = some (.int .i64 nb) → (w'.cell? ⟨w.heap.size + 1, 0, none⟩ = some (.int .i64 cx) ∧ w'.cell? ⟨w.heap.size + 1, 1, none⟩ = some (.int .i64 cy) ∧ w'.cell? ⟨w.heap.size + 1, 2, none⟩ = some (.int .i64 dx) ∧ w'.cell? ⟨w.heap.size + 1, 3, none⟩ = some (.int .i64 dy) ∧ w'.cell? ⟨w.heap.size + 1, 4, none⟩ = some (.int .i64 f) ∧ w'.cell? ⟨w.heap.size + 1 + 1, 0, none⟩ = some (.int .i64 ax) ∧ w'.cell? ⟨w.heap.size + 1 + 1, 1, none⟩ = some (.int .i64 ay) ∧ w'.cell? ⟨w.heap.size + 1 + 1, 2, none⟩ = some (.int .i64 bx) ∧ w'.cell? ⟨w.heap.size + 1 + 1, 3, none⟩ = some (.int .i64 by_) ∧ w'.cell? ⟨w.heap.size + 1 + 1, 4, none⟩ = some (.int .i64 q) ∧ w'.cell? ⟨w.heap.size + 1 + 1, 5, none⟩ = some (.int .i64 na) ∧ w'.cell? ⟨w.heap.size + 1 + 1, 6, none⟩ = some (.int .i64 nb)) from fun _ _ h a0 a1 a2 a3 a4 a5 a6 a7 a8 a9 a10 a11 => ⟨h.keepc a0, h.keepc a1, h.keepc a2, h.keepc a3, h.keepc a4, h.keepc a5, h.keepc a6, h.keepc a7, h.keepc a8, h.keepc a9, h.keepc a10, h.keepc a11⟩)
  obtain ⟨W, hW⟩ : ∃ W, W = (((w.alloc (.cells #[.slice a0 l0 k0, .slice a1 l1 k1, .slice a2 l2 k2, .int .i64 e, .int .i64 o, .int .i64 t] 34 (0, 0))).alloc (.cells #[.int .i64 cx, .int .i64 cy, .int .i64 dx, .int .i64 dy, .int .i64 f] 25 (0, 0))).alloc (.cells #[.int .i64 ax, .int .i64 ay, .int .i64 bx, .int .i64 by_, .int .i64 q, .int .i64 na, .int .i64 nb] 36 (0, 0))) := ⟨_, rfl⟩
  have HF := Lib.hid (show Fr no w W by rw [hW]; exact (((Fr.refl no w).alloc _).alloc _).alloc _)
  have c0 : W.cell? ⟨w.heap.size, 0, none⟩ = some (.slice a0 l0 k0) := by rw [hW]; go_simp
  have c1 : W.cell? ⟨w.heap.size, 1, none⟩ = some (.slice a1 l1 k1) := by rw [hW]; go_simp
  have c2 : W.cell? ⟨w.heap.size, 2, none⟩ = some (.slice a2 l2 k2) := by rw [hW]; go_simp
  have c3 : W.cell? ⟨w.heap.size, 3, none⟩ = some (.int .i64 e) := by rw [hW]; go_simp
  have c4 : W.cell? ⟨w.heap.size, 4, none⟩ = some (.int .i64 o) := by rw [hW]; go_simp
  have c5 : W.cell? ⟨w.heap.size, 5, none⟩ = some (.int .i64 t) := by rw [hW]; go_simp
  have c6 : W.cell? ⟨w.heap.size + 1, 0, none⟩ = some (.int .i64 cx) := by rw [hW]; go_simp
  have c7 : W.cell? ⟨w.heap.size + 1, 1, none⟩ = some (.int .i64 cy) := by rw [hW]; go_simp
  have c8 : W.cell? ⟨w.heap.size + 1, 2, none⟩ = some (.int .i64 dx) := by rw [hW]; go_simp
  have c9 : W.cell? ⟨w.heap.size + 1, 3, none⟩ = some (.int .i64 dy) := by rw [hW]; go_simp
  have c10 : W.cell? ⟨w.heap.size + 1, 4, none⟩ = some (.int .i64 f) := by rw [hW]; go_simp
  have c11 : W.cell? ⟨w.heap.size + 1 + 1, 0, none⟩ = some (.int .i64 ax) := by rw [hW]; go_simp
  have c12 : W.cell? ⟨w.heap.size + 1 + 1, 1, none⟩ = some (.int .i64 ay) := by rw [hW]; go_simp
  have c13 : W.cell? ⟨w.heap.size + 1 + 1, 2, none⟩ = some (.int .i64 bx) := by rw [hW]; go_simp
  have c14 : W.cell? ⟨w.heap.size + 1 + 1, 3, none⟩ = some (.int .i64 by_) := by rw [hW]; go_simp
  have c15 : W.cell? ⟨w.heap.size + 1 + 1, 4, none⟩ = some (.int .i64 q) := by rw [hW]; go_simp
  have c16 : W.cell? ⟨w.heap.size + 1 + 1, 5, none⟩ = some (.int .i64 na) := by rw [hW]; go_simp
  have c17 : W.cell? ⟨w.heap.size + 1 + 1, 6, none⟩ = some (.int .i64 nb) := by rw [hW]; go_simp
  have HW := Lib.hid hW
  clear hW
  have hb : W.heap[w.heap.size]? = some (.cells #[.slice a0 l0 k0, .slice a1 l1 k1, .slice a2 l2 k2, .int .i64 e, .int .i64 o, .int .i64 t] 34 (0, 0)) := by rw [HW.out]; exact alloc_keeps (alloc_keeps (heap_alloc_new w _) _) _
  have HB := Lib.hid hb
  clear hb c0 c1 c2 c3 c4 c5
  have g0 := c6
  have g1 := c7
  have g2 := c8
  have g3 := c9
  have g4 := c10
  have g5 := c11
  have g6 := c12
  have g7 := c13
  have g8 := c14
  have g9 := c15
  have g10 := c16
  have g11 := c17
  clear c6 c7 c8 c9 c10 c11 c12 c13 c14 c15 c16 c17
  go_enter Try.func8, Try.ntmps8
  go_wp2_with fail
  rw [← HW.out]
  refine (awake_any _).mono ?_
  rintro e y1 ⟨rfl, f1⟩
  obtain ⟨d1_0, d1_1, d1_2, d1_3, d1_4, d1_5, d1_6, d1_7, d1_8, d1_9, d1_10, d1_11⟩ := KS.out _ _ f1 g0 g1 g2 g3 g4 g5 g6 g7 g8 g9 g10 g11
  have HF1 := Lib.hid (HF.out.noTrans f1)
  clear g0 g1 g2 g3 g4 g5 g6 g7 g8 g9 g10 g11
  have HB1 := Lib.hid (f1.blk HB.out (fun h => h))
  clear f1
  obtain ⟨⟨b0, b1, b2, b3, b4, b5⟩, -⟩ := six_cells HB1.out
  go_wp2_with fail
  clear b0 b1 b2 b3 b4 b5
  refine (few_any a0 l0 k0 a1 l1 k1 a2 l2 k2 e o t _).mono ?_
  rintro e' y3 ⟨rfl, f3⟩
  obtain ⟨d3_0, d3_1, d3_2, d3_3, d3_4, d3_5, d3_6, d3_7, d3_8, d3_9, d3_10, d3_11⟩ := KS.out _ _ f3 d1_0 d1_1 d1_2 d1_3 d1_4 d1_5 d1_6 d1_7 d1_8 d1_9 d1_10 d1_11
  have HB3 := Lib.hid (f3.blk HB1.out (fun h => h))
  have HF3 := Lib.hid (HF1.out.noTrans f3)
  clear f3 d1_0 d1_1 d1_2 d1_3 d1_4 d1_5 d1_6 d1_7 d1_8 d1_9 d1_10 d1_11
  obtain ⟨⟨b0, b1, b2, b3, b4, b5⟩, -⟩ := six_cells HB3.out
  cases hfew : decide (l0 ≤ 40 ∧ l1 ≤ 40 ∧ l2 ≤ 40)
  · clear hfew
    go_wp2_with fail
    go_ret
    exact ⟨rfl, HF3.out.belowNone (Nat.le_refl _)⟩
  clear hfew
  by_cases h31 : (31 : Int) < (l2 : Int)
  · go_wp2_with fail
    go_ret
    exact ⟨rfl, HF3.out.belowNone (Nat.le_refl _)⟩
  have h31' : (l2 : Int) ≤ 31 := by omega
  have HL := Lib.hid (show l2 ≤ 31 by omega)
  clear h31
  go_wp2_with fail
  clear b0 b1 b2 b3 b4 b5 h31'
  refine (K1.out _ (HP.out.kept HF3.out) (HZ.out.kept HF3.out) (HWs.out.kept HF3.out)).mono ?_
  rintro e' y4 ⟨rfl, f4⟩
  obtain ⟨d4_0, d4_1, d4_2, d4_3, d4_4, d4_5, d4_6, d4_7, d4_8, d4_9, d4_10, d4_11⟩ := KS.out _ _ f4 d3_0 d3_1 d3_2 d3_3 d3_4 d3_5 d3_6 d3_7 d3_8 d3_9 d3_10 d3_11
  have HB4 := Lib.hid (f4.blk HB3.out (fun h => h))
  have HF4 := Lib.hid (HF3.out.noTrans f4)
  clear f4 d3_0 d3_1 d3_2 d3_3 d3_4 d3_5 d3_6 d3_7 d3_8 d3_9 d3_10 d3_11
  obtain ⟨⟨b0, b1, b2, b3, b4, b5⟩, -⟩ := six_cells HB4.out
  obtain ⟨YM, hYM⟩ : ∃ Y, Y = y4.alloc (.cells #[.slice a0 l0 k0, .slice a1 l1 k1, .slice a2 l2 k2, .int .i64 e, .int .i64 o, .int .i64 t] 34 (0, 0)) := ⟨_, rfl⟩
  have hbM : YM.heap[y4.heap.size]? = some (.cells #[.slice a0 l0 k0, .slice a1 l1 k1, .slice a2 l2 k2, .int .i64 e, .int .i64 o, .int .i64 t] 34 (0, 0)) := by rw [hYM]; exact heap_alloc_new y4 _
  have hfM : Fr no y4 YM := by rw [hYM]; exact (Fr.refl no y4).alloc _
  have hszM : YM.heap.size = y4.heap.size + 1 := by rw [hYM]; simp
  have m0_ := lt_of_blk HB4.out
  have m1_ := blt d4_0
  have m2_ := blt d4_11
  have HYM := Lib.hid hYM
  have HBM := Lib.hid hbM
  have HSZ := Lib.hid hszM
  have HFM := Lib.hid hfM
  have h2c := hfM.keepc b2
  have p0 := hfM.keepc d4_0
  have p1 := hfM.keepc d4_1
  have p2 := hfM.keepc d4_2
  have p3 := hfM.keepc d4_3
  have p4 := hfM.keepc d4_4
  have p5 := hfM.keepc d4_5
  have p6 := hfM.keepc d4_6
  have p7 := hfM.keepc d4_7
  have p8 := hfM.keepc d4_8
  have p9 := hfM.keepc d4_9
  have p10 := hfM.keepc d4_10
  have p11 := hfM.keepc d4_11
  clear hYM hbM hszM hfM
  go_upto_region 11 with fail
  rw [← HYM.out]
  clear b0 b1 b2 b3 b4 b5
  go_cut [] (fun wx => ∃ g cap : Nat, wx.heap[y4.heap.size]? = some (.cells #[.slice a0 l0 k0, .slice a1 l1 k1, .slice (some ⟨g, 0, none⟩) (l2 + 1) cap, .int .i64 e, .int .i64 o, .int .i64 t] 34 (0, 0)) ∧ WlsIn wx (some ⟨g, 0, none⟩) (l2 + 1) (ws ++ [⟨cx, cy, dx, dy, f⟩]) ∧ Fr no y4 wx)
  case first =>
    obtain ⟨i0, hi, hz0, hz1, hz2⟩ := info_parts info25
    have n0_ : w.heap.size ≠ y4.heap.size := by omega
    have n1_ : w.heap.size + 1 ≠ y4.heap.size := by omega
    have n0s : y4.heap.size ≠ w.heap.size := by omega
    have n1s : y4.heap.size ≠ w.heap.size + 1 := by omega
    go_region_held3 (fun w' => w'.cell? ⟨w.heap.size, 2, none⟩ = some (.slice a2 l2 k2) ∧ w'.cell? ⟨w.heap.size + 1, 0, none⟩ = some (.int .i64 cx) ∧ w'.cell? ⟨w.heap.size + 1, 1, none⟩ = some (.int .i64 cy) ∧ w'.cell? ⟨w.heap.size + 1, 2, none⟩ = some (.int .i64 dx) ∧ w'.cell? ⟨w.heap.size + 1, 3, none⟩ = some (.int .i64 dy) ∧ w'.cell? ⟨w.heap.size + 1, 4, none⟩ = some (.int .i64 f)) (go_keep)
      (first
        | (go_at_call 35; refine (clone_walls a2 l2 k2 ws _ (HWs.out.kept (by first | exact (HF4.out.noTrans HFM.out).drew | exact (HF4.out.noTrans HFM.out).drew.alloc _)) (by have := HL.out; omega)).mono ?_; rintro e' w6 ⟨v6, rfl, ho6, f6⟩; have q0_ := f6.keepc (v := .slice a2 l2 k2) (p := ⟨w.heap.size, 2, none⟩) (by first | exact h2c | exact ((Fr.refl no YM).drew.alloc _).keepc h2c); have q1_ := f6.keepc (p := ⟨w.heap.size + 1, 0, none⟩) (v := .int .i64 cx) (by first | exact p0 | exact ((Fr.refl no YM).drew.alloc _).keepc p0); have q2_ := f6.keepc (p := ⟨w.heap.size + 1, 1, none⟩) (v := .int .i64 cy) (by first | exact p1 | exact ((Fr.refl no YM).drew.alloc _).keepc p1); have q3_ := f6.keepc (p := ⟨w.heap.size + 1, 2, none⟩) (v := .int .i64 dx) (by first | exact p2 | exact ((Fr.refl no YM).drew.alloc _).keepc p2); have q4_ := f6.keepc (p := ⟨w.heap.size + 1, 3, none⟩) (v := .int .i64 dy) (by first | exact p3 | exact ((Fr.refl no YM).drew.alloc _).keepc p3); have q5_ := f6.keepc (p := ⟨w.heap.size + 1, 4, none⟩) (v := .int .i64 f) (by first | exact p4 | exact ((Fr.refl no YM).drew.alloc _).keepc p4))
        | (refine step_append_lies _ (by rfl) (.tmp 49) (.tmp 51) 32 (by rfl) _ 25 i0 _ 5 40 Try.underlying32 hi hz0 hz1 hz2 rfl (by decide) v6 l2 (flatW ws) (by simp [Act.eval]) (ho6.alloc _) ⟨w6.heap.size, 0, none⟩ 1 1 [.int .i64 cx, .int .i64 cy, .int .i64 dx, .int .i64 dy, .int .i64 f] (by simp [Act.eval]) (by rfl) (World.news_of_block (cs := #[.int .i64 cx, .int .i64 cy, .int .i64 dx, .int .i64 dy, .int .i64 f]) (t := 25) (fr := (0, 0)) (heap_alloc_new w6 _)) (by simp [Value.oneCell']) (by decide) (by have := HL.out; unfold maxLen; omega) (by have := HL.out; omega) (by simp; have := f6.size; simp at this; omega) (w6.heap.size + 1) (by simp) ?_; intro g cap w7 hown7 hgrow7 hat7 hlt7; have f7 : Fr no YM w7 := (((Fr.refl no YM).drew.noTrans f6).alloc _).grown hgrow7 (fun k hk => .inr (by have := own_ge ho6 k hk; simpa using this)); have s0_ := f7.keepc h2c; have s1_ := f7.keepc p0; have s2_ := f7.keepc p1; have s3_ := f7.keepc p2; have s4_ := f7.keepc p3; have s5_ := f7.keepc p4; obtain ⟨⟨M0, M1, M2, M3, M4, M5⟩, N0, N1, N2, N3, N4, N5⟩ := six_cells (f7.blk HBM.out (fun h => h)); have hgM : y4.heap.size < g := (by have hs6 := f6.size; have hsz := HSZ.out; rcases hat7 with h | h; (· have := own_ge ho6 g h; simp at this; omega); (· simp at hs6; omega)); have HO7 := Lib.hid hown7; have HF7 := Lib.hid f7; have HG7 := Lib.hid hgM; clear hown7 hgrow7 hat7 hlt7 f7 hgM)
        | (refine step_append_lies _ (by rfl) (.tmp 49) (.tmp 51) 32 (by rfl) _ 25 i0 _ 5 40 Try.underlying32 hi hz0 hz1 hz2 rfl (by decide) v6 l2 (flatW ws) (by simp [Act.eval]) ho6 ⟨YM.heap.size, 0, none⟩ 1 1 [.int .i64 cx, .int .i64 cy, .int .i64 dx, .int .i64 dy, .int .i64 f] (by simp [Act.eval]) (by rfl) (World.news_of_block (cs := #[.int .i64 cx, .int .i64 cy, .int .i64 dx, .int .i64 dy, .int .i64 f]) (t := 25) (fr := (0, 0)) (f6.blk (heap_alloc_new YM.drew _) (fun h => h))) (by simp [Value.oneCell']) (by decide) (by have := HL.out; unfold maxLen; omega) (by have := HL.out; omega) (by have := f6.size; simp at this; simp; omega) w6.heap.size rfl ?_; intro g cap w7 hown7 hgrow7 hat7 hlt7; have f7 : Fr no YM w7 := (((Fr.refl no YM).drew.alloc _).noTrans f6).grown hgrow7 (fun k hk => .inr (by have := own_ge ho6 k hk; simp at this; omega)); have s0_ := f7.keepc h2c; have s1_ := f7.keepc p0; have s2_ := f7.keepc p1; have s3_ := f7.keepc p2; have s4_ := f7.keepc p3; have s5_ := f7.keepc p4; obtain ⟨⟨M0, M1, M2, M3, M4, M5⟩, N0, N1, N2, N3, N4, N5⟩ := six_cells (f7.blk HBM.out (fun h => h)); have hgM : y4.heap.size < g := (by have hs6 := f6.size; have hsz := HSZ.out; rcases hat7 with h | h; (· have := own_ge ho6 g h; simp at this; omega); (· simp at hs6; omega)); have HO7 := Lib.hid hown7; have HF7 := Lib.hid f7; have HG7 := Lib.hid hgM; clear hown7 hgrow7 hat7 hlt7 f7 hgM))
    all_goals
      go_wp2_with fail
      go_meet
      refine ⟨g, cap, by simpa using three_set (HF7.out.blk HBM.out (fun h => h)) 2 (.slice (some ⟨g, 0, none⟩) (l2 + 1) cap), ?_, (HFM.out.noTrans HF7.out).setCell (p := ⟨y4.heap.size, 2, none⟩) (.inr (Nat.le_refl _)) _⟩
      have hh := HO7.out
      rw [show flatW ws ++ [.int .i64 cx, .int .i64 cy, .int .i64 dx, .int .i64 dy, .int .i64 f] = flatW (ws ++ [⟨cx, cy, dx, dy, f⟩]) by simp [flatW, wlVals]] at hh
      exact (own_walls hh (by simp [HWs.out.1])).other ((Fr.refl (only y4.heap.size) w7).setCell (p := ⟨y4.heap.size, 2, none⟩) (.inl rfl) _) (by have := HG7.out; simp only [only]; omega)
  case rest =>
  obtain ⟨g, cap, hbX, hwX, fX⟩ := hcut
  obtain ⟨o0, o1, o2, o3, o4, o5, o6, o7, o8, o9, o10, o11⟩ := KS.out _ _ fX d4_0 d4_1 d4_2 d4_3 d4_4 d4_5 d4_6 d4_7 d4_8 d4_9 d4_10 d4_11
  have HBX := Lib.hid hbX
  have HWX := Lib.hid hwX
  have HFX := Lib.hid (HF4.out.noTrans fX)
  clear hbX hwX fX h2c m0_ m1_ m2_ d4_0 d4_1 d4_2 d4_3 d4_4 d4_5 d4_6 d4_7 d4_8 d4_9 d4_10 d4_11 p0 p1 p2 p3 p4 p5 p6 p7 p8 p9 p10 p11
  obtain ⟨⟨b0, b1, b2, b3, b4, b5⟩, -⟩ := six_cells HBX.out
  go_wp2_with fail
  clear b0 b1 b2 b3 b4 b5
  refine (K2.out g cap _ (HP.out.kept HFX.out) (HZ.out.kept HFX.out) HWX.out).mono ?_
  rintro e' y8 ⟨rfl, f8⟩
  obtain ⟨d8_0, d8_1, d8_2, d8_3, d8_4, d8_5, d8_6, d8_7, d8_8, d8_9, d8_10, d8_11⟩ := KS.out _ _ f8 o0 o1 o2 o3 o4 o5 o6 o7 o8 o9 o10 o11
  have HB8 := Lib.hid (f8.blk HBX.out (fun h => h))
  have HW8 := Lib.hid (HWX.out.kept f8)
  have HF8 := Lib.hid (HFX.out.noTrans f8)
  clear f8 o0 o1 o2 o3 o4 o5 o6 o7 o8 o9 o10 o11
  go_wp2_with fail
  refine (K4.out _).mono ?_
  rintro e' y9 ⟨rfl, f9⟩
  obtain ⟨d9_0, d9_1, d9_2, d9_3, d9_4, d9_5, d9_6, d9_7, d9_8, d9_9, d9_10, d9_11⟩ := KS.out _ _ f9 d8_0 d8_1 d8_2 d8_3 d8_4 d8_5 d8_6 d8_7 d8_8 d8_9 d8_10 d8_11
  have HF9 := Lib.hid (HF8.out.noTrans f9)
  clear f9 d8_0 d8_1 d8_2 d8_3 d8_4 d8_5 d8_6 d8_7 d8_8 d8_9 d8_10 d8_11
  go_wp2_with fail
  go_ret
  exact ⟨rfl, HF9.out.belowNone (Nat.le_refl _)⟩
theorem bad_at (a0 : Option Addr) (l0 k0 : Nat) (a1 : Option Addr) (l1 k1 : Nat) (l2 : Nat) (e o t : Int) (ps : List Pt) (zs : List Int) (wx : List Wl) (ax ay bx by_ q : Int) (hc : ckB l0 l1 (l2 + 1) e o t ps zs wx = false) (g cap : Nat) (w : World) (hp : PtsIn w a0 l0 ps) (hz : IntsIn w a1 l1 zs) (hw : WlsIn w (some ⟨g, 0, none⟩) (l2 + 1) wx) :
    Calls Try.prog 18 #[.agg #[.slice a0 l0 k0, .slice a1 l1 k1, .slice (some ⟨g, 0, none⟩) (l2 + 1) cap, .int .i64 e, .int .i64 o, .int .i64 t], .agg #[.int .i64 ax, .int .i64 ay], .int .i64 q, .agg #[.int .i64 bx, .int .i64 by_]] w fun e' w' => e' = .returned (.tuple #[.int .i64 0, .int .i64 1]) ∧ Fr no w w' :=
  at_0 a0 l0 k0 a1 l1 k1 (some ⟨g, 0, none⟩) (l2 + 1) cap e o t ps zs wx ax ay bx by_ q w hp hz hw hc
theorem bad_ck (a0 : Option Addr) (l0 k0 : Nat) (a1 : Option Addr) (l1 k1 : Nat) (l2 : Nat) (e o t : Int) (ps : List Pt) (zs : List Int) (wx : List Wl) (ax ay bx by_ q : Int) (hc : ckB l0 l1 (l2 + 1) e o t ps zs wx = false) (g cap : Nat) (w : World) (hp : PtsIn w a0 l0 ps) (hz : IntsIn w a1 l1 zs) (hw : WlsIn w (some ⟨g, 0, none⟩) (l2 + 1) wx) :
    Calls Try.prog 24 #[.agg #[.slice a0 l0 k0, .slice a1 l1 k1, .slice (some ⟨g, 0, none⟩) (l2 + 1) cap, .int .i64 e, .int .i64 o, .int .i64 t]] w fun e' w' => e' = .returned (.int .i64 1) ∧ Fr no w w' := by
  have := check_any a0 l0 k0 a1 l1 k1 (some ⟨g, 0, none⟩) (l2 + 1) cap e o t ps zs wx w hp hz hw
  rw [hc, show ckE false = 1 from rfl] at this
  exact this
theorem good_at (a0 : Option Addr) (l0 k0 : Nat) (a1 : Option Addr) (l1 k1 : Nat) (l2 : Nat) (e o t : Int) (ps : List Pt) (zs : List Int) (wx : List Wl) (ax ay bx by_ q : Int) (p1 : ptB ax ay = true) (p2 : ptB bx by_ = true) (p3 : isP q = true) (hc : ckB l0 l1 (l2 + 1) e o t ps zs wx = true) (v : Int) (hv : arF e ax ay bx by_ q wx = v) (g cap : Nat) (w : World) (hp : PtsIn w a0 l0 ps) (hz : IntsIn w a1 l1 zs) (hw : WlsIn w (some ⟨g, 0, none⟩) (l2 + 1) wx) :
    Calls Try.prog 18 #[.agg #[.slice a0 l0 k0, .slice a1 l1 k1, .slice (some ⟨g, 0, none⟩) (l2 + 1) cap, .int .i64 e, .int .i64 o, .int .i64 t], .agg #[.int .i64 ax, .int .i64 ay], .int .i64 q, .agg #[.int .i64 bx, .int .i64 by_]] w fun e' w' => e' = .returned (.tuple #[.int .i64 v, .int .i64 0]) ∧ Fr no w w' := by
  have h2 : atB (ckB l0 l1 (l2 + 1) e o t ps zs wx) ax ay bx by_ q = true := by rw [hc, atB, p1, p2, p3]; rfl
  have := at_yes a0 l0 k0 a1 l1 k1 (some ⟨g, 0, none⟩) (l2 + 1) cap e o t ps zs wx ax ay bx by_ q h2 w hp hz hw
  rw [hv] at this
  exact this
set_option maxHeartbeats 4000000 in
theorem walls_law (a0 : Option Addr) (l0 k0 : Nat) (a1 : Option Addr) (l1 k1 : Nat) (a2 : Option Addr) (l2 k2 : Nat) (e o t : Int) (ps : List Pt) (zs : List Int) (ws : List Wl) (cx cy dx dy f ax ay bx by_ q na nb : Int) (w : World) (hp : PtsIn w a0 l0 ps) (hz : IntsIn w a1 l1 zs) (hw : WlsIn w a2 l2 ws) : Calls Try.prog 8 #[.agg #[.slice a0 l0 k0, .slice a1 l1 k1, .slice a2 l2 k2, .int .i64 e, .int .i64 o, .int .i64 t], .agg #[.int .i64 cx, .int .i64 cy, .int .i64 dx, .int .i64 dy, .int .i64 f], .agg #[.int .i64 ax, .int .i64 ay, .int .i64 bx, .int .i64 by_, .int .i64 q, .int .i64 na, .int .i64 nb]] w fun e' w' => e' = .returned (.bool true) ∧ Below w.heap.size w w' := by
  cases h1 : atB (ckB l0 l1 l2 e o t ps zs ws) ax ay bx by_ q
  · obtain ⟨E1, hE1, -, K1⟩ := at_no a0 l0 k0 a1 l1 k1 a2 l2 k2 e o t ps zs ws ax ay bx by_ q h1
    exact walls_A a0 l0 k0 a1 l1 k1 a2 l2 k2 e o t ps zs ws cx cy dx dy f ax ay bx by_ q na nb w hp hz hw E1 K1 (by omega)
  · have K1 := at_yes a0 l0 k0 a1 l1 k1 a2 l2 k2 e o t ps zs ws ax ay bx by_ q h1
    obtain ⟨p1, p2, p3⟩ := atB_parts h1
    have hb := arF_bound e ax ay bx by_ q ws p3
    have hle := arF_le e ax ay bx by_ q ws p3
    have ha := arF_app e ax ay bx by_ q ws ⟨cx, cy, dx, dy, f⟩
    obtain ⟨wx, hwx⟩ : ∃ wx : List Wl, ws ++ [⟨cx, cy, dx, dy, f⟩] = wx := ⟨_, rfl⟩
    have B := fun V1 V2 k1' => walls_B a0 l0 k0 a1 l1 k1 a2 l2 k2 e o t ps zs ws cx cy dx dy f ax ay bx by_ q na nb w hp hz hw V1 V2 k1'
    have C := fun V1 k1' => walls_C a0 l0 k0 a1 l1 k1 a2 l2 k2 e o t ps zs ws cx cy dx dy f ax ay bx by_ q na nb w hp hz hw V1 k1'
    have D := fun V1 k1' => walls_D a0 l0 k0 a1 l1 k1 a2 l2 k2 e o t ps zs ws cx cy dx dy f ax ay bx by_ q na nb w hp hz hw V1 k1'
    have E := fun V1 V2 k1' => walls_E a0 l0 k0 a1 l1 k1 a2 l2 k2 e o t ps zs ws cx cy dx dy f ax ay bx by_ q na nb w hp hz hw V1 V2 k1'
    rw [hwx] at B C D E ha
    cases hc : ckB l0 l1 (l2 + 1) e o t ps zs wx
    · exact B _ 0 K1 (bad_at a0 l0 k0 a1 l1 k1 l2 e o t ps zs wx ax ay bx by_ q hc) hb.1 hle (bad_ck a0 l0 k0 a1 l1 k1 l2 e o t ps zs wx ax ay bx by_ q hc)
    · have hwl : wlOk ⟨cx, cy, dx, dy, f⟩ = true := by
        have := (ckB_t hc).ws
        rw [← hwx, List.all_append, Bool.and_eq_true] at this
        simpa using this.2
      obtain ⟨m5, m6, m7, m8⟩ := wl_near hwl
      obtain ⟨m1, m2⟩ := pt_near p1
      obtain ⟨m3, m4⟩ := pt_near p2
      have K4 := fun w => crosses_any ax ay bx by_ cx cy dx dy f w m1 m2 m3 m4 m5 m6 m7 m8
      cases hcr : crB ax ay bx by_ cx cy dx dy
      · rw [hcr] at K4
        have hcw : crW ax ay bx by_ ⟨cx, cy, dx, dy, f⟩ = false := hcr
        rw [if_neg (by rw [hcw]; decide)] at ha
        exact C _ K1 (good_at a0 l0 k0 a1 l1 k1 l2 e o t ps zs wx ax ay bx by_ q p1 p2 p3 hc _ ha) hb.1 hle K4
      · rw [hcr] at K4
        have hcw : crW ax ay bx by_ ⟨cx, cy, dx, dy, f⟩ = true := hcr
        rw [if_pos hcw] at ha
        by_cases hf : f = 1000
        · have hs := scV_full _ (isP_t.2 hb)
          rw [show scV (arF e ax ay bx by_ q ws) f = arF e ax ay bx by_ q ws by rw [hf]; exact hs] at ha
          exact D _ K1 (good_at a0 l0 k0 a1 l1 k1 l2 e o t ps zs wx ax ay bx by_ q p1 p2 p3 hc _ ha) hb.1 hle K4 hf
        · exact E _ _ K1 (good_at a0 l0 k0 a1 l1 k1 l2 e o t ps zs wx ax ay bx by_ q p1 p2 p3 hc _ ha) hb.1 hle K4 hf (scV_le _ _ hb.1)
end Go.Proofs.Ytljfdoabgbioiaa
