/- The law of crossings: walls that contain an end or the middle of a path, and walls on one side of it. -/
import Derived.Test.YtljfdoabgbioiaaLawA
import Derived.Test.YtljfdoabgbioiaaMth
import Derived.BigRegion
import Derived.Deep.DeepCutAuto
namespace Go.Proofs.Ytljfdoabgbioiaa
open Go.RowKit

theorem cr_a (ax ay bx by_ dx dy : Int) : crB ax ay bx by_ ax ay dx dy = true :=
  (crB_iff ..).2 (cr_of_in _ _ _ _ _ _ _ _ (by unfold tnP; grind) (by unfold In; omega))
theorem cr_b (ax ay bx by_ cx cy : Int) : crB ax ay bx by_ cx cy bx by_ = true :=
  (crB_iff ..).2 (cr_of_in _ _ _ _ _ _ _ _ (by unfold tnP; grind) (by unfold In; omega)).wall
theorem cr_m (ax ay bx by_ dx dy : Int) : crB (2 * ax) (2 * ay) (2 * bx) (2 * by_) (ax + bx) (ay + by_) dx dy = true :=
  (crB_iff ..).2 (cr_of_in _ _ _ _ _ _ _ _ (by unfold tnP; grind) (by unfold In; omega))
theorem cr_w (ax ay bx by_ cx cy : Int) : crB (2 * ax) (2 * ay) (2 * bx) (2 * by_) cx cy (ax + bx) (ay + by_) = true :=
  (crB_iff ..).2 (cr_of_in _ _ _ _ _ _ _ _ (by unfold tnP; grind) (by unfold In; omega)).wall
theorem cr_near {ax ay bx by_ cx cy dx dy : Int} (h : crB ax ay bx by_ cx cy dx dy = true) : (ax ≤ cx ∨ ax ≤ dx ∨ bx ≤ cx ∨ bx ≤ dx) ∧ (cx ≤ ax ∨ cx ≤ bx ∨ dx ≤ ax ∨ dx ≤ bx) ∧ (ay ≤ cy ∨ ay ≤ dy ∨ by_ ≤ cy ∨ by_ ≤ dy) ∧ (cy ≤ ay ∨ cy ≤ by_ ∨ dy ≤ ay ∨ dy ≤ by_) := by
  obtain ⟨h1, h2, _⟩ := (crB_iff ..).1 h
  unfold Ov at h1 h2
  exact ⟨h1.1, h1.2, h2.1, h2.2⟩
theorem ptB_n {x y : Int} (h : ptB x y = true) : nr x ∧ nr y := by
  have := ptB_t.1 h
  unfold nr
  omega
theorem mm (a b c d M N : Int) (hM : (if a < b then b else a) = M) (hN : (if d < c then d else c) = N) (h : c ≤ a ∨ c ≤ b ∨ d ≤ a ∨ d ≤ b) : N ≤ M := by
  subst hM hN
  split <;> split <;> omega
theorem ne_new {w : World} {b o : Nat} {v : Value} (h : w.cell? ⟨b, o, none⟩ = some v) : b < w.heap.size := by
  have := World.block_lt_of_cell? w _ h
  simpa using this
set_option maxRecDepth 100000 in
set_option maxHeartbeats 8000000 in
theorem crossings_out (ax ay bx by_ cx cy dx dy f : Int) (w : World) (g : ([⟨ax, ay⟩, ⟨bx, by_⟩, ⟨cx, cy⟩, ⟨dx, dy⟩] : List Pt).all ptOk = false) : Calls Try.prog 7 #[.agg #[.int .i64 ax, .int .i64 ay], .agg #[.int .i64 bx, .int .i64 by_], .agg #[.int .i64 cx, .int .i64 cy, .int .i64 dx, .int .i64 dy, .int .i64 f]] w fun e w' => e = .returned (.bool true) ∧ Below w.heap.size w w' := by
  have KS := Lib.hid (show ∀ w0 w' : World, Fr no w0 w' → w0.cell? ⟨w.heap.size, 0, none⟩ = some (.int .i64 ax) → w0.cell? ⟨w.heap.size, 1, none⟩ = some (.int .i64 ay) → w0.cell? ⟨w.heap.size + 1, 0, none⟩ = some (.int .i64 bx) → w0.cell? ⟨w.heap.size + 1, 1, none⟩ = some (.int .i64 by_) → w0.cell? ⟨w.heap.size + 1 + 1, 0, none⟩ = some (.int .i64 cx) → w0.cell? ⟨w.heap.size + 1 + 1, 1, none⟩ = some (.int .i64 cy) → w0.cell? ⟨w.heap.size + 1 + 1, 2, none⟩ = some (.int .i64 dx) → w0.cell? ⟨w.heap.size + 1 + 1, 3, none⟩ = some (.int .i64 dy) → w0.cell? ⟨w.heap.size + 1 + 1, 4, none⟩ = some (.int .i64 f) → (w'.cell? ⟨w.heap.size, 0, none⟩ = some (.int .i64 ax) ∧ w'.cell? ⟨w.heap.size, 1, none⟩ = some (.int .i64 ay) ∧ w'.cell? ⟨w.heap.size + 1, 0, none⟩ = some (.int .i64 bx) ∧ w'.cell? ⟨w.heap.size + 1, 1, none⟩ = some (.int .i64 by_) ∧ w'.cell? ⟨w.heap.size + 1 + 1, 0, none⟩ = some (.int .i64 cx) ∧ w'.cell? ⟨w.heap.size + 1 + 1, 1, none⟩ = some (.int .i64 cy) ∧ w'.cell? ⟨w.heap.size + 1 + 1, 2, none⟩ = some (.int .i64 dx) ∧ w'.cell? ⟨w.heap.size + 1 + 1, 3, none⟩ = some (.int .i64 dy) ∧ w'.cell? ⟨w.heap.size + 1 + 1, 4, none⟩ = some (.int .i64 f)) from fun _ _ h a0 a1 a2 a3 a4 a5 a6 a7 a8 => ⟨h.keepc a0, h.keepc a1, h.keepc a2, h.keepc a3, h.keepc a4, h.keepc a5, h.keepc a6, h.keepc a7, h.keepc a8⟩)
  obtain ⟨W, hW⟩ : ∃ W, W = (((w.alloc (.cells #[.int .i64 ax, .int .i64 ay] 23 (0, 0))).alloc (.cells #[.int .i64 bx, .int .i64 by_] 23 (0, 0))).alloc (.cells #[.int .i64 cx, .int .i64 cy, .int .i64 dx, .int .i64 dy, .int .i64 f] 25 (0, 0))) := ⟨_, rfl⟩
  have HF := Lib.hid (show Fr no w W by rw [hW]; exact (((Fr.refl no w).alloc _).alloc _).alloc _)
  have c0 : W.cell? ⟨w.heap.size, 0, none⟩ = some (.int .i64 ax) := by rw [hW]; go_simp
  have c1 : W.cell? ⟨w.heap.size, 1, none⟩ = some (.int .i64 ay) := by rw [hW]; go_simp
  have c2 : W.cell? ⟨w.heap.size + 1, 0, none⟩ = some (.int .i64 bx) := by rw [hW]; go_simp
  have c3 : W.cell? ⟨w.heap.size + 1, 1, none⟩ = some (.int .i64 by_) := by rw [hW]; go_simp
  have c4 : W.cell? ⟨w.heap.size + 1 + 1, 0, none⟩ = some (.int .i64 cx) := by rw [hW]; go_simp
  have c5 : W.cell? ⟨w.heap.size + 1 + 1, 1, none⟩ = some (.int .i64 cy) := by rw [hW]; go_simp
  have c6 : W.cell? ⟨w.heap.size + 1 + 1, 2, none⟩ = some (.int .i64 dx) := by rw [hW]; go_simp
  have c7 : W.cell? ⟨w.heap.size + 1 + 1, 3, none⟩ = some (.int .i64 dy) := by rw [hW]; go_simp
  have c8 : W.cell? ⟨w.heap.size + 1 + 1, 4, none⟩ = some (.int .i64 f) := by rw [hW]; go_simp
  have HW := Lib.hid hW
  clear hW
  have HG := Lib.hid g
  clear g
  go_enter Try.func7, Try.ntmps7
  go_wp2_with fail
  rw [← HW.out]
  refine (awake_any _).mono ?_
  rintro e y1 ⟨rfl, f1⟩
  obtain ⟨d1_0, d1_1, d1_2, d1_3, d1_4, d1_5, d1_6, d1_7, d1_8⟩ := KS.out _ _ f1 c0 c1 c2 c3 c4 c5 c6 c7 c8
  have HF1 := Lib.hid (HF.out.noTrans f1)
  clear c0 c1 c2 c3 c4 c5 c6 c7 c8
  go_wp2_with fail
  obtain ⟨WN, hWN⟩ : ∃ WN, WN = y1.alloc (.cells #[.int .i64 ax, .int .i64 ay, .int .i64 bx, .int .i64 by_, .int .i64 cx, .int .i64 cy, .int .i64 dx, .int .i64 dy] 23 (0, 0)) := ⟨_, rfl⟩
  have hbN : WN.heap[y1.heap.size]? = some (.cells #[.int .i64 ax, .int .i64 ay, .int .i64 bx, .int .i64 by_, .int .i64 cx, .int .i64 cy, .int .i64 dx, .int .i64 dy] 23 (0, 0)) := by rw [hWN]; exact heap_alloc_new y1 _
  have HZ := Lib.hid (pts4 (w := WN) (b := y1.heap.size) (by simp [World.cell?, hbN]) (by simp [World.cell?, hbN]) (by simp [World.cell?, hbN]) (by simp [World.cell?, hbN]) (by simp [World.cell?, hbN]) (by simp [World.cell?, hbN]) (by simp [World.cell?, hbN]) (by simp [World.cell?, hbN]) : PtsIn WN (some ⟨y1.heap.size, 0, none⟩) 4 [⟨ax, ay⟩, ⟨bx, by_⟩, ⟨cx, cy⟩, ⟨dx, dy⟩])
  have HFN := Lib.hid (show Fr no y1 WN by rw [hWN]; exact (Fr.refl no y1).alloc _)
  have n0 := HFN.out.keepc d1_0
  have n1 := HFN.out.keepc d1_1
  have n2 := HFN.out.keepc d1_2
  have n3 := HFN.out.keepc d1_3
  have n4 := HFN.out.keepc d1_4
  have n5 := HFN.out.keepc d1_5
  have n6 := HFN.out.keepc d1_6
  have n7 := HFN.out.keepc d1_7
  have n8 := HFN.out.keepc d1_8
  have HWN := Lib.hid hWN
  clear hWN hbN d1_0 d1_1 d1_2 d1_3 d1_4 d1_5 d1_6 d1_7 d1_8
  rw [← HWN.out]
  have HF1N := Lib.hid (HF1.out.noTrans HFN.out)
  obtain ⟨ps, hps⟩ : ∃ ps : List Pt, ps = [⟨ax, ay⟩, ⟨bx, by_⟩, ⟨cx, cy⟩, ⟨dx, dy⟩] := ⟨_, rfl⟩
  have HP := Lib.hid hps
  rw [← hps] at HZ HG
  clear hps
  go_loopw [8, 23] (fun _ i wr => ∃ k : Nat, k ≤ 4 ∧ i = .int .i64 k ∧ (ps.take k).all ptOk = true ∧ Fr no WN wr) (fun _ i _ => 4 - (intOf i).toNat)
  case atStart => exact ⟨0, by omega, rfl, by simp, Fr.refl _ _⟩
  case round =>
    obtain ⟨k, hk, rfl, ha, hf⟩ := hrel
    have HA := Lib.hid ha
    have HFr := Lib.hid hf
    clear ha hf
    by_cases hlt : k < 4
    · obtain ⟨b, off, hao, hc0, hc1⟩ := (HZ.out.kept HFr.out).2 k hlt
      obtain ⟨rfl, rfl⟩ : y1.heap.size = b ∧ 0 = off := by simpa using hao
      clear hao
      have HT := Lib.hid (all_take ptOk ⟨0, 0⟩ ps k (by have := HZ.out.1; omega))
      have HN := Lib.hid (all_no ptOk ⟨0, 0⟩ ps k (by have := HZ.out.1; omega))
      rw [show ps.getD k ⟨0, 0⟩ = ptAt ps k from rfl] at HT HN
      rw [Nat.zero_add] at hc0 hc1
      generalize ptAt ps k = p at *
      obtain ⟨x, y⟩ := p
      simp only at hc0 hc1
      cases hp : ptOk ⟨x, y⟩
      · have HV := Lib.hid hp
        clear hp
        go_wp2_with fail
        all_goals first
          | (go_ret; exact ⟨rfl, ((((HF1N.out.noTrans HFr.out)).alloc _)).belowNone (Nat.le_refl _)⟩)
          | (exfalso; have h0 := HV.out; rw [← Bool.not_eq_true] at h0; apply h0; exact (ptB_t (x := x) (y := y)).2 (by omega))
      · rw [HA.out, hp] at HT
        have hp' : ptB x y = true := hp
        obtain ⟨⟨p1, p2⟩, p3, p4⟩ := ptB_t.1 hp'
        clear hp hp'
        go_wp2_with fail
        exact ⟨⟨k + 1, by omega, by go_num, HT.out, HFr.out.alloc _⟩, by simp [intOf]; omega⟩
    · exact absurd (show ps.all ptOk = true by have := HA.out; rwa [List.take_of_length_le (by have := HZ.out.1; omega)] at this) (by rw [HG.out]; decide)
set_option maxRecDepth 100000 in
set_option maxHeartbeats 8000000 in
theorem crossings_in (ax ay bx by_ cx cy dx dy f : Int) (w : World) (g : ([⟨ax, ay⟩, ⟨bx, by_⟩, ⟨cx, cy⟩, ⟨dx, dy⟩] : List Pt).all ptOk = true) : Calls Try.prog 7 #[.agg #[.int .i64 ax, .int .i64 ay], .agg #[.int .i64 bx, .int .i64 by_], .agg #[.int .i64 cx, .int .i64 cy, .int .i64 dx, .int .i64 dy, .int .i64 f]] w fun e w' => e = .returned (.bool true) ∧ Below w.heap.size w w' := by
  have KS := Lib.hid (show ∀ w0 w' : World, Fr no w0 w' → w0.cell? ⟨w.heap.size, 0, none⟩ = some (.int .i64 ax) → w0.cell? ⟨w.heap.size, 1, none⟩ = some (.int .i64 ay) → w0.cell? ⟨w.heap.size + 1, 0, none⟩ = some (.int .i64 bx) → w0.cell? ⟨w.heap.size + 1, 1, none⟩ = some (.int .i64 by_) → w0.cell? ⟨w.heap.size + 1 + 1, 0, none⟩ = some (.int .i64 cx) → w0.cell? ⟨w.heap.size + 1 + 1, 1, none⟩ = some (.int .i64 cy) → w0.cell? ⟨w.heap.size + 1 + 1, 2, none⟩ = some (.int .i64 dx) → w0.cell? ⟨w.heap.size + 1 + 1, 3, none⟩ = some (.int .i64 dy) → w0.cell? ⟨w.heap.size + 1 + 1, 4, none⟩ = some (.int .i64 f) → (w'.cell? ⟨w.heap.size, 0, none⟩ = some (.int .i64 ax) ∧ w'.cell? ⟨w.heap.size, 1, none⟩ = some (.int .i64 ay) ∧ w'.cell? ⟨w.heap.size + 1, 0, none⟩ = some (.int .i64 bx) ∧ w'.cell? ⟨w.heap.size + 1, 1, none⟩ = some (.int .i64 by_) ∧ w'.cell? ⟨w.heap.size + 1 + 1, 0, none⟩ = some (.int .i64 cx) ∧ w'.cell? ⟨w.heap.size + 1 + 1, 1, none⟩ = some (.int .i64 cy) ∧ w'.cell? ⟨w.heap.size + 1 + 1, 2, none⟩ = some (.int .i64 dx) ∧ w'.cell? ⟨w.heap.size + 1 + 1, 3, none⟩ = some (.int .i64 dy) ∧ w'.cell? ⟨w.heap.size + 1 + 1, 4, none⟩ = some (.int .i64 f)) from fun _ _ h a0 a1 a2 a3 a4 a5 a6 a7 a8 => ⟨h.keepc a0, h.keepc a1, h.keepc a2, h.keepc a3, h.keepc a4, h.keepc a5, h.keepc a6, h.keepc a7, h.keepc a8⟩)
  obtain ⟨W, hW⟩ : ∃ W, W = (((w.alloc (.cells #[.int .i64 ax, .int .i64 ay] 23 (0, 0))).alloc (.cells #[.int .i64 bx, .int .i64 by_] 23 (0, 0))).alloc (.cells #[.int .i64 cx, .int .i64 cy, .int .i64 dx, .int .i64 dy, .int .i64 f] 25 (0, 0))) := ⟨_, rfl⟩
  have HF := Lib.hid (show Fr no w W by rw [hW]; exact (((Fr.refl no w).alloc _).alloc _).alloc _)
  have c0 : W.cell? ⟨w.heap.size, 0, none⟩ = some (.int .i64 ax) := by rw [hW]; go_simp
  have c1 : W.cell? ⟨w.heap.size, 1, none⟩ = some (.int .i64 ay) := by rw [hW]; go_simp
  have c2 : W.cell? ⟨w.heap.size + 1, 0, none⟩ = some (.int .i64 bx) := by rw [hW]; go_simp
  have c3 : W.cell? ⟨w.heap.size + 1, 1, none⟩ = some (.int .i64 by_) := by rw [hW]; go_simp
  have c4 : W.cell? ⟨w.heap.size + 1 + 1, 0, none⟩ = some (.int .i64 cx) := by rw [hW]; go_simp
  have c5 : W.cell? ⟨w.heap.size + 1 + 1, 1, none⟩ = some (.int .i64 cy) := by rw [hW]; go_simp
  have c6 : W.cell? ⟨w.heap.size + 1 + 1, 2, none⟩ = some (.int .i64 dx) := by rw [hW]; go_simp
  have c7 : W.cell? ⟨w.heap.size + 1 + 1, 3, none⟩ = some (.int .i64 dy) := by rw [hW]; go_simp
  have c8 : W.cell? ⟨w.heap.size + 1 + 1, 4, none⟩ = some (.int .i64 f) := by rw [hW]; go_simp
  have HW := Lib.hid hW
  clear hW
  have HG := Lib.hid g
  clear g
  go_enter Try.func7, Try.ntmps7
  go_wp2_with fail
  rw [← HW.out]
  refine (awake_any _).mono ?_
  rintro e y1 ⟨rfl, f1⟩
  obtain ⟨d1_0, d1_1, d1_2, d1_3, d1_4, d1_5, d1_6, d1_7, d1_8⟩ := KS.out _ _ f1 c0 c1 c2 c3 c4 c5 c6 c7 c8
  have HF1 := Lib.hid (HF.out.noTrans f1)
  clear c0 c1 c2 c3 c4 c5 c6 c7 c8
  go_wp2_with fail
  obtain ⟨WN, hWN⟩ : ∃ WN, WN = y1.alloc (.cells #[.int .i64 ax, .int .i64 ay, .int .i64 bx, .int .i64 by_, .int .i64 cx, .int .i64 cy, .int .i64 dx, .int .i64 dy] 23 (0, 0)) := ⟨_, rfl⟩
  have hbN : WN.heap[y1.heap.size]? = some (.cells #[.int .i64 ax, .int .i64 ay, .int .i64 bx, .int .i64 by_, .int .i64 cx, .int .i64 cy, .int .i64 dx, .int .i64 dy] 23 (0, 0)) := by rw [hWN]; exact heap_alloc_new y1 _
  have HZ := Lib.hid (pts4 (w := WN) (b := y1.heap.size) (by simp [World.cell?, hbN]) (by simp [World.cell?, hbN]) (by simp [World.cell?, hbN]) (by simp [World.cell?, hbN]) (by simp [World.cell?, hbN]) (by simp [World.cell?, hbN]) (by simp [World.cell?, hbN]) (by simp [World.cell?, hbN]) : PtsIn WN (some ⟨y1.heap.size, 0, none⟩) 4 [⟨ax, ay⟩, ⟨bx, by_⟩, ⟨cx, cy⟩, ⟨dx, dy⟩])
  have HFN := Lib.hid (show Fr no y1 WN by rw [hWN]; exact (Fr.refl no y1).alloc _)
  have n0 := HFN.out.keepc d1_0
  have n1 := HFN.out.keepc d1_1
  have n2 := HFN.out.keepc d1_2
  have n3 := HFN.out.keepc d1_3
  have n4 := HFN.out.keepc d1_4
  have n5 := HFN.out.keepc d1_5
  have n6 := HFN.out.keepc d1_6
  have n7 := HFN.out.keepc d1_7
  have n8 := HFN.out.keepc d1_8
  have HWN := Lib.hid hWN
  clear hWN hbN d1_0 d1_1 d1_2 d1_3 d1_4 d1_5 d1_6 d1_7 d1_8
  rw [← HWN.out]
  have HF1N := Lib.hid (HF1.out.noTrans HFN.out)
  obtain ⟨ps, hps⟩ : ∃ ps : List Pt, ps = [⟨ax, ay⟩, ⟨bx, by_⟩, ⟨cx, cy⟩, ⟨dx, dy⟩] := ⟨_, rfl⟩
  have HP := Lib.hid hps
  rw [← hps] at HZ HG
  clear hps
  go_loopw [8, 23] (fun _ i wr => ∃ k : Nat, k ≤ 4 ∧ i = .int .i64 k ∧ (ps.take k).all ptOk = true ∧ Fr no WN wr) (fun _ i _ => 4 - (intOf i).toNat)
  case atStart => exact ⟨0, by omega, rfl, by simp, Fr.refl _ _⟩
  case round =>
    obtain ⟨k, hk, rfl, ha, hf⟩ := hrel
    have HA := Lib.hid ha
    have HFr := Lib.hid hf
    clear ha hf
    by_cases hlt : k < 4
    · obtain ⟨b, off, hao, hc0, hc1⟩ := (HZ.out.kept HFr.out).2 k hlt
      obtain ⟨rfl, rfl⟩ : y1.heap.size = b ∧ 0 = off := by simpa using hao
      clear hao
      have HT := Lib.hid (all_take ptOk ⟨0, 0⟩ ps k (by have := HZ.out.1; omega))
      have HN := Lib.hid (all_no ptOk ⟨0, 0⟩ ps k (by have := HZ.out.1; omega))
      rw [show ps.getD k ⟨0, 0⟩ = ptAt ps k from rfl] at HT HN
      rw [Nat.zero_add] at hc0 hc1
      generalize ptAt ps k = p at *
      obtain ⟨x, y⟩ := p
      simp only at hc0 hc1
      cases hp : ptOk ⟨x, y⟩
      · exact absurd (HN.out hp) (by rw [HG.out]; decide)
      · rw [HA.out, hp] at HT
        have hp' : ptB x y = true := hp
        obtain ⟨⟨p1, p2⟩, p3, p4⟩ := ptB_t.1 hp'
        clear hp hp'
        go_wp2_with fail
        exact ⟨⟨k + 1, by omega, by go_num, HT.out, HFr.out.alloc _⟩, by simp [intOf]; omega⟩
    · obtain rfl : k = 4 := by omega
      clear hk hlt
      have hh := HG.out
      rw [HP.out] at hh
      simp only [List.all_cons, List.all_nil, Bool.and_true, Bool.and_eq_true] at hh
      obtain ⟨g1, g2, g3, g4⟩ := hh
      obtain ⟨q1, q2⟩ := ptB_n g1
      obtain ⟨q3, q4⟩ := ptB_n g2
      obtain ⟨q5, q6⟩ := ptB_n g3
      obtain ⟨q7, q8⟩ := ptB_n g4
      have b1 := (ptB_t (x := ax) (y := ay)).1 g1
      have b2 := (ptB_t (x := bx) (y := by_)).1 g2
      have m1 : nr (2 * ax) := by unfold nr; omega
      have m2 : nr (2 * ay) := by unfold nr; omega
      have m3 : nr (2 * bx) := by unfold nr; omega
      have m4 : nr (2 * by_) := by unfold nr; omega
      have m5 : nr (ax + bx) := by unfold nr; omega
      have m6 : nr (ay + by_) := by unfold nr; omega
      have K1 := fun w => crosses_any (2 * ax) (2 * ay) (2 * bx) (2 * by_) (ax + bx) (ay + by_) cx cy 0 w m1 m2 m3 m4 m5 m6 q5 q6
      have K2 := fun w => crosses_any (2 * ax) (2 * ay) (2 * bx) (2 * by_) dx dy (ax + bx) (ay + by_) 0 w m1 m2 m3 m4 q7 q8 m5 m6
      have K3 := fun w => crosses_any ax ay bx by_ ax ay cx cy 0 w q1 q2 q3 q4 q1 q2 q5 q6
      have K4 := fun w => crosses_any ax ay bx by_ dx dy bx by_ 0 w q1 q2 q3 q4 q7 q8 q3 q4
      have K5 := Lib.hid (fun w => crosses_any ax ay bx by_ cx cy dx dy f w q1 q2 q3 q4 q5 q6 q7 q8)
      rw [cr_m] at K1
      rw [cr_w] at K2
      rw [cr_a] at K3
      rw [cr_b] at K4
      have K1 := Lib.hid K1
      have K2 := Lib.hid K2
      have K3 := Lib.hid K3
      have K4 := Lib.hid K4
      obtain ⟨⟨v1, v2⟩, v3, v4⟩ := b1
      obtain ⟨⟨v5, v6⟩, v7, v8⟩ := b2
      clear m1 m2 m3 m4 m5 m6 q1 q2 q3 q4 q5 q6 q7 q8 g1 g2 g3 g4
      obtain ⟨e0, e1, e2, e3, e4, e5, e6, e7, e8⟩ := KS.out _ _ HFr.out n0 n1 n2 n3 n4 n5 n6 n7 n8
      have HF2 := Lib.hid (HF1N.out.noTrans HFr.out)
      clear n0 n1 n2 n3 n4 n5 n6 n7 n8
      have HFx := Lib.hid (f1.trans (HFN.out.noTrans HFr.out) (fun _ _ h => h))
      clear HFN HWN HFr HA HZ
      have w1 : IntKind.i64.wrap (2 * ax) = 2 * ax := IntWalk.i64_in _ (by omega)
      have w2 : IntKind.i64.wrap (2 * ay) = 2 * ay := IntWalk.i64_in _ (by omega)
      have w3 : IntKind.i64.wrap (2 * bx) = 2 * bx := IntWalk.i64_in _ (by omega)
      have w4 : IntKind.i64.wrap (2 * by_) = 2 * by_ := IntWalk.i64_in _ (by omega)
      have ea := World.new_ne wr _ e0
      have eb := World.new_ne wr _ e2
      go_upto_region 9 with fail
      go_cut [9, 10] (fun s9 s10 wx => ∃ c d : Nat, s9 = .pointer (some ⟨c, 0, none⟩) ∧ s10 = .pointer (some ⟨d, 0, none⟩) ∧ wx.cell? ⟨c, 0, none⟩ = some (.int .i64 (2 * ax)) ∧ wx.cell? ⟨c, 1, none⟩ = some (.int .i64 (2 * ay)) ∧ wx.cell? ⟨d, 0, none⟩ = some (.int .i64 (2 * bx)) ∧ wx.cell? ⟨d, 1, none⟩ = some (.int .i64 (2 * by_)) ∧ Fr no wr wx)
      case first =>
        go_region_held3 (fun w' => w'.cell? ⟨w.heap.size, 0, none⟩ = some (.int .i64 ax) ∧ w'.cell? ⟨w.heap.size, 1, none⟩ = some (.int .i64 ay) ∧ w'.cell? ⟨w.heap.size + 1, 0, none⟩ = some (.int .i64 bx) ∧ w'.cell? ⟨w.heap.size + 1, 1, none⟩ = some (.int .i64 by_)) (go_keep) (fail)
        all_goals go_wp2_with fail
        all_goals go_meet
        all_goals (refine ⟨_, _, rfl, rfl, ?_, ?_, ?_, ?_, (((Fr.refl no wr).alloc _).alloc _).drew⟩ <;> go_simp)
      case rest =>
        obtain ⟨c, d, rfl, rfl, h0, h1, h2, h3, hfr⟩ := hcut
        obtain ⟨o0, o1, o2, o3, o4, o5, o6, o7, o8⟩ := KS.out _ _ hfr e0 e1 e2 e3 e4 e5 e6 e7 e8
        have HF3 := Lib.hid (HF2.out.noTrans hfr)
        clear hfr e0 e1 e2 e3 e4 e5 e6 e7 e8 ea eb
        have r0 := ne_new o0
        have r1 := ne_new o2
        have r2 := ne_new o4
        have r3 := ne_new h0
        have r4 := ne_new h2
        obtain ⟨WM, hWM⟩ : ∃ WM, WM = wc.alloc (.cells #[.int .i64 (ax + bx), .int .i64 (ay + by_)] 23) := ⟨_, rfl⟩
        have hfm : Fr no wc WM := by rw [hWM]; exact (Fr.refl no wc).alloc _
        have m0 : WM.cell? ⟨wc.heap.size, 0, none⟩ = some (.int .i64 (ax + bx)) := by rw [hWM]; go_simp
        have m1 : WM.cell? ⟨wc.heap.size, 1, none⟩ = some (.int .i64 (ay + by_)) := by rw [hWM]; go_simp
        have KM := Lib.hid (show ∀ w0 w' : World, Fr no w0 w' → w0.cell? ⟨c, 0, none⟩ = some (.int .i64 (2 * ax)) → w0.cell? ⟨c, 1, none⟩ = some (.int .i64 (2 * ay)) → w0.cell? ⟨d, 0, none⟩ = some (.int .i64 (2 * bx)) → w0.cell? ⟨d, 1, none⟩ = some (.int .i64 (2 * by_)) → w0.cell? ⟨wc.heap.size, 0, none⟩ = some (.int .i64 (ax + bx)) → w0.cell? ⟨wc.heap.size, 1, none⟩ = some (.int .i64 (ay + by_)) → (w'.cell? ⟨c, 0, none⟩ = some (.int .i64 (2 * ax)) ∧ w'.cell? ⟨c, 1, none⟩ = some (.int .i64 (2 * ay)) ∧ w'.cell? ⟨d, 0, none⟩ = some (.int .i64 (2 * bx)) ∧ w'.cell? ⟨d, 1, none⟩ = some (.int .i64 (2 * by_)) ∧ w'.cell? ⟨wc.heap.size, 0, none⟩ = some (.int .i64 (ax + bx)) ∧ w'.cell? ⟨wc.heap.size, 1, none⟩ = some (.int .i64 (ay + by_))) from fun _ _ h a0 a1 a2 a3 a4 a5 => ⟨h.keepc a0, h.keepc a1, h.keepc a2, h.keepc a3, h.keepc a4, h.keepc a5⟩)
        obtain ⟨p0, p1, p2, p3, p4, p5, p6, p7, p8⟩ := KS.out _ _ hfm o0 o1 o2 o3 o4 o5 o6 o7 o8
        obtain ⟨pm0, pm1, pm2, pm3, pm4, pm5⟩ : WM.cell? ⟨c, 0, none⟩ = some (.int .i64 (2 * ax)) ∧ WM.cell? ⟨c, 1, none⟩ = some (.int .i64 (2 * ay)) ∧ WM.cell? ⟨d, 0, none⟩ = some (.int .i64 (2 * bx)) ∧ WM.cell? ⟨d, 1, none⟩ = some (.int .i64 (2 * by_)) ∧ WM.cell? ⟨wc.heap.size, 0, none⟩ = some (.int .i64 (ax + bx)) ∧ WM.cell? ⟨wc.heap.size, 1, none⟩ = some (.int .i64 (ay + by_)) := ⟨hfm.keepc h0, hfm.keepc h1, hfm.keepc h2, hfm.keepc h3, m0, m1⟩
        have HF4 := Lib.hid (HF3.out.noTrans hfm)
        have HWM := Lib.hid hWM
        clear hWM hfm m0 m1
        go_wp2_with fail
        rw [← HWM.out]
        clear h0 h1 h2 h3 o0 o1 o2 o3 o4 o5 o6 o7 o8
        clear r0 r1 r2 r3 r4
        refine (K1.out _).mono ?_
        rintro e x1 ⟨rfl, j1⟩
        obtain ⟨q0, q1, q2, q3, q4, q5, q6, q7, q8⟩ := KS.out _ _ j1 p0 p1 p2 p3 p4 p5 p6 p7 p8
        obtain ⟨qm0, qm1, qm2, qm3, qm4, qm5⟩ := KM.out _ _ j1 pm0 pm1 pm2 pm3 pm4 pm5
        have HG1 := Lib.hid (HF4.out.noTrans j1)
        clear j1 p0 p1 p2 p3 p4 p5 p6 p7 p8 pm0 pm1 pm2 pm3 pm4 pm5
        go_wp2_with fail
        refine (K2.out _).mono ?_
        rintro e x2 ⟨rfl, j2⟩
        obtain ⟨r0, r1, r2, r3, r4, r5, r6, r7, r8⟩ := KS.out _ _ j2 q0 q1 q2 q3 q4 q5 q6 q7 q8
        obtain ⟨rm0, rm1, rm2, rm3, rm4, rm5⟩ := KM.out _ _ j2 qm0 qm1 qm2 qm3 qm4 qm5
        have HG2 := Lib.hid (HG1.out.noTrans j2)
        clear j2 q0 q1 q2 q3 q4 q5 q6 q7 q8 qm0 qm1 qm2 qm3 qm4 qm5
        go_wp2_with fail
        refine (K3.out _).mono ?_
        rintro e x3 ⟨rfl, j3⟩
        obtain ⟨s0, s1, s2, s3, s4, s5, s6, s7, s8⟩ := KS.out _ _ j3 r0 r1 r2 r3 r4 r5 r6 r7 r8
        obtain ⟨sm0, sm1, sm2, sm3, sm4, sm5⟩ := KM.out _ _ j3 rm0 rm1 rm2 rm3 rm4 rm5
        have HG3 := Lib.hid (HG2.out.noTrans j3)
        clear j3 r0 r1 r2 r3 r4 r5 r6 r7 r8 rm0 rm1 rm2 rm3 rm4 rm5
        go_wp2_with fail
        refine (K4.out _).mono ?_
        rintro e x4 ⟨rfl, j4⟩
        obtain ⟨t0, t1, t2, t3, t4, t5, t6, t7, t8⟩ := KS.out _ _ j4 s0 s1 s2 s3 s4 s5 s6 s7 s8
        obtain ⟨tm0, tm1, tm2, tm3, tm4, tm5⟩ := KM.out _ _ j4 sm0 sm1 sm2 sm3 sm4 sm5
        have HG4 := Lib.hid (HG3.out.noTrans j4)
        clear j4 s0 s1 s2 s3 s4 s5 s6 s7 s8 sm0 sm1 sm2 sm3 sm4 sm5
        clear tm0 tm1 tm2 tm3 tm4 tm5
        obtain ⟨M1, hM1⟩ : ∃ M, (if ax < bx then bx else ax) = M := ⟨_, rfl⟩
        obtain ⟨M2, hM2⟩ : ∃ M, (if cx < dx then dx else cx) = M := ⟨_, rfl⟩
        obtain ⟨M3, hM3⟩ : ∃ M, (if ay < by_ then by_ else ay) = M := ⟨_, rfl⟩
        obtain ⟨M4, hM4⟩ : ∃ M, (if cy < dy then dy else cy) = M := ⟨_, rfl⟩
        obtain ⟨N1, hN1⟩ : ∃ M, (if bx < ax then bx else ax) = M := ⟨_, rfl⟩
        obtain ⟨N2, hN2⟩ : ∃ M, (if dx < cx then dx else cx) = M := ⟨_, rfl⟩
        obtain ⟨N3, hN3⟩ : ∃ M, (if by_ < ay then by_ else ay) = M := ⟨_, rfl⟩
        obtain ⟨N4, hN4⟩ : ∃ M, (if dy < cy then dy else cy) = M := ⟨_, rfl⟩
        cases hcr : crB ax ay bx by_ cx cy dx dy
        · have K6 := K5.out
          rw [hcr] at K6
          have K6 := Lib.hid K6
          clear hcr K5
          go_wp2_with fail
          all_goals first
            | (go_ret; exact ⟨rfl, HG4.out.belowNone (Nat.le_refl _)⟩)
            | ((with_reducible refine (K6.out _).mono ?_); rintro e x5 ⟨rfl, j5⟩; go_wp2_with fail; go_ret; exact ⟨rfl, (HG4.out.noTrans j5).belowNone (Nat.le_refl _)⟩)
        · have hn := cr_near hcr
          clear hcr K5
          have i1 := mm ax bx cx dx M1 N2 hM1 hN2 hn.2.1
          have i2 := mm cx dx ax bx M2 N1 hM2 hN1 hn.1
          have i3 := mm ay by_ cy dy M3 N4 hM3 hN4 hn.2.2.2
          have i4 := mm cy dy ay by_ M4 N3 hM4 hN3 hn.2.2.1
          clear hn
          go_wp2_with fail
          go_ret
          exact ⟨rfl, HG4.out.belowNone (Nat.le_refl _)⟩
theorem crossings_law (ax ay bx by_ cx cy dx dy f : Int) (w : World) : Calls Try.prog 7 #[.agg #[.int .i64 ax, .int .i64 ay], .agg #[.int .i64 bx, .int .i64 by_], .agg #[.int .i64 cx, .int .i64 cy, .int .i64 dx, .int .i64 dy, .int .i64 f]] w fun e w' => e = .returned (.bool true) ∧ Below w.heap.size w w' := by
  cases g : ([⟨ax, ay⟩, ⟨bx, by_⟩, ⟨cx, cy⟩, ⟨dx, dy⟩] : List Pt).all ptOk
  · exact crossings_out ax ay bx by_ cx cy dx dy f w g
  · exact crossings_in ax ay bx by_ cx cy dx dy f w g
end Go.Proofs.Ytljfdoabgbioiaa
