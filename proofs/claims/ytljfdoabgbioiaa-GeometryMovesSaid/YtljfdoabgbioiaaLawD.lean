/- The law of moves: what is crossed, and how far it is, does not hang on directions, places and axes. -/
import Derived.Test.YtljfdoabgbioiaaLawB
namespace Go.Proofs.Ytljfdoabgbioiaa
open Go.RowKit
set_option linter.unusedVariables false

theorem sqF_0 (ax ay : Int) : sqF ax ay ax ay = 0 := by unfold sqF; simp
theorem mul_self_pos (a : Int) (h : a ≠ 0) : 0 < a * a := by
  rcases Int.lt_or_gt_of_ne h with h | h
  · exact Int.mul_pos_of_neg_of_neg h h
  · exact Int.mul_pos h h
theorem sqF_x (ax ay bx by_ : Int) (h : ax ≠ bx) : sqF ax ay bx by_ ≠ 0 := by
  have h1 := mul_self_pos (bx - ax) (by omega)
  have h2 : 0 ≤ (by_ - ay) * (by_ - ay) := by
    by_cases h : by_ - ay = 0
    · rw [h]; decide
    · exact Int.le_of_lt (mul_self_pos _ h)
  unfold sqF
  omega
theorem sqF_t (ax ay bx by_ : Int) : sqF ay ax by_ bx = sqF ax ay bx by_ := by unfold sqF; omega
theorem sqF_y (ax ay bx by_ : Int) (h : ay ≠ by_) : sqF ax ay bx by_ ≠ 0 := by rw [← sqF_t]; exact sqF_x ay ax by_ bx h
theorem sqF_r (ax ay bx by_ : Int) : sqF bx by_ ax ay = sqF ax ay bx by_ := by rw [← sq_comm]; unfold sqF; rfl
theorem sqF_m (ax ay bx by_ x y : Int) : sqF (ax - x) (ay + y) (bx - x) (by_ + y) = sqF ax ay bx by_ := by
  unfold sqF
  rw [show bx - x - (ax - x) = bx - ax by omega, show by_ + y - (ay + y) = by_ - ay by omega]
theorem tnP_m (ax ay bx by_ px py x y : Int) : tnP (ax - x) (ay + y) (bx - x) (by_ + y) (px - x) (py + y) = tnP ax ay bx by_ px py := by
  unfold tnP
  rw [show bx - x - (ax - x) = bx - ax by omega, show by_ + y - (ay + y) = by_ - ay by omega, show py + y - (ay + y) = py - ay by omega, show px - x - (ax - x) = px - ax by omega]
theorem tnP_t (ax ay bx by_ px py : Int) : tnP ay ax by_ bx py px = - tnP ax ay bx by_ px py := by unfold tnP; grind
theorem Cr.moved {ax ay bx by_ cx cy dx dy : Int} (x y : Int) : Cr (ax - x) (ay + y) (bx - x) (by_ + y) (cx - x) (cy + y) (dx - x) (dy + y) ↔ Cr ax ay bx by_ cx cy dx dy := by
  unfold Cr
  rw [tnP_m, tnP_m, tnP_m, tnP_m]
  unfold Ov
  constructor
  · rintro ⟨h1, h2, h3⟩
    exact ⟨by omega, by omega, h3⟩
  · rintro ⟨h1, h2, h3⟩
    exact ⟨by omega, by omega, h3⟩
theorem Cr.turned {ax ay bx by_ cx cy dx dy : Int} (h : Cr ax ay bx by_ cx cy dx dy) : Cr ay ax by_ bx cy cx dy dx := by
  obtain ⟨h1, h2, h3, h4⟩ := h
  refine ⟨h2, h1, ?_, ?_⟩
  · rw [tnP_t ax ay bx by_ cx cy, tnP_t ax ay bx by_ dx dy]
    exact fun k => h3 (Same.neg.1 k)
  · rw [tnP_t cx cy dx dy ax ay, tnP_t cx cy dx dy bx by_]
    exact fun k => h4 (Same.neg.1 k)
theorem crB_path (ax ay bx by_ cx cy dx dy : Int) : crB bx by_ ax ay cx cy dx dy = crB ax ay bx by_ cx cy dx dy := by
  rw [Bool.eq_iff_iff, crB_iff, crB_iff]; exact ⟨Cr.path, Cr.path⟩
theorem crB_wall (ax ay bx by_ cx cy dx dy : Int) : crB ax ay bx by_ dx dy cx cy = crB ax ay bx by_ cx cy dx dy := by
  rw [Bool.eq_iff_iff, crB_iff, crB_iff]; exact ⟨Cr.wall, Cr.wall⟩
theorem crB_roles (ax ay bx by_ cx cy dx dy : Int) : crB cx cy dx dy ax ay bx by_ = crB ax ay bx by_ cx cy dx dy := by
  rw [Bool.eq_iff_iff, crB_iff, crB_iff]; exact ⟨Cr.roles, Cr.roles⟩
theorem crB_moved (ax ay bx by_ cx cy dx dy x y : Int) : crB (ax - x) (ay + y) (bx - x) (by_ + y) (cx - x) (cy + y) (dx - x) (dy + y) = crB ax ay bx by_ cx cy dx dy := by
  rw [Bool.eq_iff_iff, crB_iff, crB_iff]; exact Cr.moved x y
theorem crB_turned (ax ay bx by_ cx cy dx dy : Int) : crB ay ax by_ bx cy cx dy dx = crB ax ay bx by_ cx cy dx dy := by
  rw [Bool.eq_iff_iff, crB_iff, crB_iff]; exact ⟨Cr.turned, Cr.turned⟩
/-- A coordinate of a point. -/
def cd (x : Int) : Prop := 0 ≤ x ∧ x ≤ 10000
set_option maxHeartbeats 1000000 in
theorem moved_any (x y sx sy : Int) (b : Nat) (w : World) (h0 : w.cell? ⟨b, 0, none⟩ = some (.int .i64 sx)) (h1 : w.cell? ⟨b, 1, none⟩ = some (.int .i64 sy)) (g1 : cd x) (g2 : cd y) (g3 : cd sx) (g4 : cd sy) :
    Calls Try.prog 32 #[.agg #[.int .i64 x, .int .i64 y], .pointer (some ⟨b, 0, none⟩)] w fun e w' => e = .returned (.agg #[.int .i64 (x - sx), .int .i64 (y + sy)]) ∧ Fr no w w' := by
  obtain ⟨a0, a1⟩ := g1
  obtain ⟨b0, b1⟩ := g2
  obtain ⟨c0, c1⟩ := g3
  obtain ⟨d0, d1⟩ := g4
  have w1 : IntKind.i64.wrap (x - sx) = x - sx := IntWalk.i64_in _ (by omega)
  have w2 : IntKind.i64.wrap (y + sy) = y + sy := IntWalk.i64_in _ (by omega)
  have r := ne_new h0
  have r' : b < w.heap.size + 1 := by omega
  go_enter Try.func32, Try.ntmps32
  go_wp2_with fail
  exact bodyPost_ret (v := .agg #[.int .i64 (x - sx), .int .i64 (y + sy)]) (by simp [results, Try.results32, go_sem]) rfl ⟨rfl, ((Fr.refl no w).alloc _).alloc _⟩
set_option maxHeartbeats 1000000 in
theorem turned_any (x y : Int) (w : World) :
    Calls Try.prog 33 #[.agg #[.int .i64 x, .int .i64 y]] w fun e w' => e = .returned (.agg #[.int .i64 y, .int .i64 x]) ∧ Fr no w w' := by
  go_enter Try.func33, Try.ntmps33
  go_wp2_with fail
  exact bodyPost_ret (v := .agg #[.int .i64 y, .int .i64 x]) (by simp [results, Try.results33, go_sem]) rfl ⟨rfl, ((Fr.refl no w).alloc _).alloc _⟩
set_option maxHeartbeats 1000000 in
theorem wall_any (ax ay bx by_ f : Int) (b : Nat) (w : World) (h0 : w.cell? ⟨b, 4, none⟩ = some (.int .i64 f)) :
    Calls Try.prog 34 #[.agg #[.int .i64 ax, .int .i64 ay], .agg #[.int .i64 bx, .int .i64 by_], .pointer (some ⟨b, 0, none⟩)] w fun e w' => e = .returned (.agg #[.int .i64 ax, .int .i64 ay, .int .i64 bx, .int .i64 by_, .int .i64 f]) ∧ Fr no w w' := by
  have r := ne_new h0
  have r' : b < w.heap.size + 1 := by omega
  have r2 : b < w.heap.size + 1 + 1 := by omega
  go_enter Try.func34, Try.ntmps34
  go_wp2_with fail
  exact bodyPost_ret (v := .agg #[.int .i64 ax, .int .i64 ay, .int .i64 bx, .int .i64 by_, .int .i64 f]) (by simp [results, Try.results34, go_sem]) rfl ⟨rfl, (((Fr.refl no w).alloc _).alloc _).alloc _⟩
theorem pts5 {w : World} {b : Nat} {ax ay bx by_ cx cy dx dy ex ey : Int} (h0 : w.cell? ⟨b, 0, none⟩ = some (.int .i64 ax)) (h1 : w.cell? ⟨b, 1, none⟩ = some (.int .i64 ay)) (h2 : w.cell? ⟨b, 2, none⟩ = some (.int .i64 bx)) (h3 : w.cell? ⟨b, 3, none⟩ = some (.int .i64 by_))
    (h4 : w.cell? ⟨b, 4, none⟩ = some (.int .i64 cx)) (h5 : w.cell? ⟨b, 5, none⟩ = some (.int .i64 cy)) (h6 : w.cell? ⟨b, 6, none⟩ = some (.int .i64 dx)) (h7 : w.cell? ⟨b, 7, none⟩ = some (.int .i64 dy)) (h8 : w.cell? ⟨b, 8, none⟩ = some (.int .i64 ex)) (h9 : w.cell? ⟨b, 9, none⟩ = some (.int .i64 ey)) : PtsIn w (some ⟨b, 0, none⟩) 5 [⟨ax, ay⟩, ⟨bx, by_⟩, ⟨cx, cy⟩, ⟨dx, dy⟩, ⟨ex, ey⟩] :=
  ⟨rfl, fun i hi => ⟨b, 0, rfl, by
    match i, hi with
    | 0, _ => exact ⟨h0, h1⟩
    | 1, _ => exact ⟨h2, h3⟩
    | 2, _ => exact ⟨h4, h5⟩
    | 3, _ => exact ⟨h6, h7⟩
    | 4, _ => exact ⟨h8, h9⟩⟩⟩
set_option maxRecDepth 100000 in
set_option maxHeartbeats 8000000 in
theorem moves_out (ax ay bx by_ cx cy dx dy f sx sy : Int) (w : World) (g : ([⟨ax, ay⟩, ⟨bx, by_⟩, ⟨cx, cy⟩, ⟨dx, dy⟩, ⟨sx, sy⟩] : List Pt).all ptOk = false) : Calls Try.prog 6 #[.agg #[.int .i64 ax, .int .i64 ay, .int .i64 bx, .int .i64 by_], .agg #[.int .i64 cx, .int .i64 cy, .int .i64 dx, .int .i64 dy, .int .i64 f], .agg #[.int .i64 sx, .int .i64 sy]] w fun e w' => e = .returned (.bool true) ∧ Below w.heap.size w w' := by
  have KS := Lib.hid (show ∀ w0 w' : World, Fr no w0 w' → w0.cell? ⟨w.heap.size, 0, none⟩ = some (.int .i64 ax) → w0.cell? ⟨w.heap.size, 1, none⟩ = some (.int .i64 ay) → w0.cell? ⟨w.heap.size, 2, none⟩ = some (.int .i64 bx) → w0.cell? ⟨w.heap.size, 3, none⟩ = some (.int .i64 by_) → w0.cell? ⟨w.heap.size + 1, 0, none⟩ = some (.int .i64 cx) → w0.cell? ⟨w.heap.size + 1, 1, none⟩ = some (.int .i64 cy) → w0.cell? ⟨w.heap.size + 1, 2, none⟩ = some (.int .i64 dx) → w0.cell? ⟨w.heap.size + 1, 3, none⟩ = some (.int .i64 dy) → w0.cell? ⟨w.heap.size + 1, 4, none⟩ = some (.int .i64 f) → w0.cell? ⟨w.heap.size + 1 + 1, 0, none⟩ = some (.int .i64 sx) → w0.cell? ⟨w.heap.size + 1 + 1, 1, none⟩ = some (.int .i64 sy) → (w'.cell? ⟨w.heap.size, 0, none⟩ = some (.int .i64 ax) ∧ w'.cell? ⟨w.heap.size, 1, none⟩ = some (.int .i64 ay) ∧ w'.cell? ⟨w.heap.size, 2, none⟩ = some (.int .i64 bx) ∧ w'.cell? ⟨w.heap.size, 3, none⟩ = some (.int .i64 by_) ∧ w'.cell? ⟨w.heap.size + 1, 0, none⟩ = some (.int .i64 cx) ∧ w'.cell? ⟨w.heap.size + 1, 1, none⟩ = some (.int .i64 cy) ∧ w'.cell? ⟨w.heap.size + 1, 2, none⟩ = some (.int .i64 dx) ∧ w'.cell? ⟨w.heap.size + 1, 3, none⟩ = some (.int .i64 dy) ∧ w'.cell? ⟨w.heap.size + 1, 4, none⟩ = some (.int .i64 f) ∧ w'.cell? ⟨w.heap.size + 1 + 1, 0, none⟩ = some (.int .i64 sx) ∧ w'.cell? ⟨w.heap.size + 1 + 1, 1, none⟩ = some (.int .i64 sy)) from fun _ _ h a0 a1 a2 a3 a4 a5 a6 a7 a8 a9 a10 => ⟨h.keepc a0, h.keepc a1, h.keepc a2, h.keepc a3, h.keepc a4, h.keepc a5, h.keepc a6, h.keepc a7, h.keepc a8, h.keepc a9, h.keepc a10⟩)
  obtain ⟨W, hW⟩ : ∃ W, W = (((w.alloc (.cells #[.int .i64 ax, .int .i64 ay, .int .i64 bx, .int .i64 by_] 53 (0, 0))).alloc (.cells #[.int .i64 cx, .int .i64 cy, .int .i64 dx, .int .i64 dy, .int .i64 f] 25 (0, 0))).alloc (.cells #[.int .i64 sx, .int .i64 sy] 23 (0, 0))) := ⟨_, rfl⟩
  have HF := Lib.hid (show Fr no w W by rw [hW]; exact (((Fr.refl no w).alloc _).alloc _).alloc _)
  have c0 : W.cell? ⟨w.heap.size, 0, none⟩ = some (.int .i64 ax) := by rw [hW]; go_simp
  have c1 : W.cell? ⟨w.heap.size, 1, none⟩ = some (.int .i64 ay) := by rw [hW]; go_simp
  have c2 : W.cell? ⟨w.heap.size, 2, none⟩ = some (.int .i64 bx) := by rw [hW]; go_simp
  have c3 : W.cell? ⟨w.heap.size, 3, none⟩ = some (.int .i64 by_) := by rw [hW]; go_simp
  have c4 : W.cell? ⟨w.heap.size + 1, 0, none⟩ = some (.int .i64 cx) := by rw [hW]; go_simp
  have c5 : W.cell? ⟨w.heap.size + 1, 1, none⟩ = some (.int .i64 cy) := by rw [hW]; go_simp
  have c6 : W.cell? ⟨w.heap.size + 1, 2, none⟩ = some (.int .i64 dx) := by rw [hW]; go_simp
  have c7 : W.cell? ⟨w.heap.size + 1, 3, none⟩ = some (.int .i64 dy) := by rw [hW]; go_simp
  have c8 : W.cell? ⟨w.heap.size + 1, 4, none⟩ = some (.int .i64 f) := by rw [hW]; go_simp
  have c9 : W.cell? ⟨w.heap.size + 1 + 1, 0, none⟩ = some (.int .i64 sx) := by rw [hW]; go_simp
  have c10 : W.cell? ⟨w.heap.size + 1 + 1, 1, none⟩ = some (.int .i64 sy) := by rw [hW]; go_simp
  have HW := Lib.hid hW
  clear hW
  have HG := Lib.hid g
  clear g
  go_enter Try.func6, Try.ntmps6
  go_wp2_with fail
  rw [← HW.out]
  refine (awake_any _).mono ?_
  rintro e y1 ⟨rfl, f1⟩
  obtain ⟨d1_0, d1_1, d1_2, d1_3, d1_4, d1_5, d1_6, d1_7, d1_8, d1_9, d1_10⟩ := KS.out _ _ f1 c0 c1 c2 c3 c4 c5 c6 c7 c8 c9 c10
  have HF1 := Lib.hid (HF.out.noTrans f1)
  clear f1 c0 c1 c2 c3 c4 c5 c6 c7 c8 c9 c10
  have r0 := ne_new d1_0
  go_upto_region 3 with fail
  go_cut [7, 8] (fun s7 s8 wx => ∃ c d : Nat, s7 = .pointer (some ⟨c, 0, none⟩) ∧ s8 = .pointer (some ⟨d, 0, none⟩) ∧ wx.cell? ⟨c, 0, none⟩ = some (.int .i64 ax) ∧ wx.cell? ⟨c, 1, none⟩ = some (.int .i64 ay) ∧ wx.cell? ⟨d, 0, none⟩ = some (.int .i64 bx) ∧ wx.cell? ⟨d, 1, none⟩ = some (.int .i64 by_) ∧ Fr no y1 wx)
  case first =>
    go_region_held3 (fun w' => w'.cell? ⟨w.heap.size, 0, none⟩ = some (.int .i64 ax) ∧ w'.cell? ⟨w.heap.size, 1, none⟩ = some (.int .i64 ay) ∧ w'.cell? ⟨w.heap.size, 2, none⟩ = some (.int .i64 bx) ∧ w'.cell? ⟨w.heap.size, 3, none⟩ = some (.int .i64 by_)) (go_keep) (fail)
    all_goals go_wp2_with fail
    all_goals go_meet
    all_goals (refine ⟨_, _, rfl, rfl, ?_, ?_, ?_, ?_, (((Fr.refl no y1).alloc _).alloc _).drew⟩ <;> go_simp)
  case rest =>
  obtain ⟨c, d, rfl, rfl, h0, h1, h2, h3, hfr⟩ := hcut
  obtain ⟨o0, o1, o2, o3, o4, o5, o6, o7, o8, o9, o10⟩ := KS.out _ _ hfr d1_0 d1_1 d1_2 d1_3 d1_4 d1_5 d1_6 d1_7 d1_8 d1_9 d1_10
  have HF2 := Lib.hid (HF1.out.noTrans hfr)
  clear hfr r0 d1_0 d1_1 d1_2 d1_3 d1_4 d1_5 d1_6 d1_7 d1_8 d1_9 d1_10
  have KT := Lib.hid (show ∀ w0 w' : World, Fr no w0 w' → w0.cell? ⟨c, 0, none⟩ = some (.int .i64 ax) → w0.cell? ⟨c, 1, none⟩ = some (.int .i64 ay) → w0.cell? ⟨d, 0, none⟩ = some (.int .i64 bx) → w0.cell? ⟨d, 1, none⟩ = some (.int .i64 by_) → w0.cell? ⟨w.heap.size + 1, 0, none⟩ = some (.int .i64 cx) → w0.cell? ⟨w.heap.size + 1, 1, none⟩ = some (.int .i64 cy) → w0.cell? ⟨w.heap.size + 1, 2, none⟩ = some (.int .i64 dx) → w0.cell? ⟨w.heap.size + 1, 3, none⟩ = some (.int .i64 dy) → w0.cell? ⟨w.heap.size + 1, 4, none⟩ = some (.int .i64 f) → w0.cell? ⟨w.heap.size + 1 + 1, 0, none⟩ = some (.int .i64 sx) → w0.cell? ⟨w.heap.size + 1 + 1, 1, none⟩ = some (.int .i64 sy) → (w'.cell? ⟨c, 0, none⟩ = some (.int .i64 ax) ∧ w'.cell? ⟨c, 1, none⟩ = some (.int .i64 ay) ∧ w'.cell? ⟨d, 0, none⟩ = some (.int .i64 bx) ∧ w'.cell? ⟨d, 1, none⟩ = some (.int .i64 by_) ∧ w'.cell? ⟨w.heap.size + 1, 0, none⟩ = some (.int .i64 cx) ∧ w'.cell? ⟨w.heap.size + 1, 1, none⟩ = some (.int .i64 cy) ∧ w'.cell? ⟨w.heap.size + 1, 2, none⟩ = some (.int .i64 dx) ∧ w'.cell? ⟨w.heap.size + 1, 3, none⟩ = some (.int .i64 dy) ∧ w'.cell? ⟨w.heap.size + 1, 4, none⟩ = some (.int .i64 f) ∧ w'.cell? ⟨w.heap.size + 1 + 1, 0, none⟩ = some (.int .i64 sx) ∧ w'.cell? ⟨w.heap.size + 1 + 1, 1, none⟩ = some (.int .i64 sy)) from fun _ _ h a0 a1 a2 a3 a4 a5 a6 a7 a8 a9 a10 => ⟨h.keepc a0, h.keepc a1, h.keepc a2, h.keepc a3, h.keepc a4, h.keepc a5, h.keepc a6, h.keepc a7, h.keepc a8, h.keepc a9, h.keepc a10⟩)
  go_wp2_with fail
  obtain ⟨WN, hWN⟩ : ∃ WN, WN = wc.alloc (.cells #[.int .i64 ax, .int .i64 ay, .int .i64 bx, .int .i64 by_, .int .i64 cx, .int .i64 cy, .int .i64 dx, .int .i64 dy, .int .i64 sx, .int .i64 sy] 23 (0, 0)) := ⟨_, rfl⟩
  have hbN : WN.heap[wc.heap.size]? = some (.cells #[.int .i64 ax, .int .i64 ay, .int .i64 bx, .int .i64 by_, .int .i64 cx, .int .i64 cy, .int .i64 dx, .int .i64 dy, .int .i64 sx, .int .i64 sy] 23 (0, 0)) := by rw [hWN]; exact heap_alloc_new wc _
  have HZ := Lib.hid (pts5 (w := WN) (b := wc.heap.size) (by simp [World.cell?, hbN]) (by simp [World.cell?, hbN]) (by simp [World.cell?, hbN]) (by simp [World.cell?, hbN]) (by simp [World.cell?, hbN]) (by simp [World.cell?, hbN]) (by simp [World.cell?, hbN]) (by simp [World.cell?, hbN]) (by simp [World.cell?, hbN]) (by simp [World.cell?, hbN]) : PtsIn WN (some ⟨wc.heap.size, 0, none⟩) 5 [⟨ax, ay⟩, ⟨bx, by_⟩, ⟨cx, cy⟩, ⟨dx, dy⟩, ⟨sx, sy⟩])
  have hfn : Fr no wc WN := by rw [hWN]; exact (Fr.refl no wc).alloc _
  obtain ⟨n0, n1, n2, n3, n4, n5, n6, n7, n8, n9, n10⟩ := KT.out _ _ hfn h0 h1 h2 h3 o4 o5 o6 o7 o8 o9 o10
  have HFN := Lib.hid (HF2.out.noTrans hfn)
  have HWN := Lib.hid hWN
  clear hWN hbN hfn h0 h1 h2 h3 o0 o1 o2 o3 o4 o5 o6 o7 o8 o9 o10
  rw [← HWN.out]
  obtain ⟨ps, hps⟩ : ∃ ps : List Pt, ps = [⟨ax, ay⟩, ⟨bx, by_⟩, ⟨cx, cy⟩, ⟨dx, dy⟩, ⟨sx, sy⟩] := ⟨_, rfl⟩
  have HP := Lib.hid hps
  rw [← hps] at HZ HG
  clear hps
  go_loopw [10, 31] (fun _ i wr => ∃ k : Nat, k ≤ 5 ∧ i = .int .i64 k ∧ (ps.take k).all ptOk = true ∧ Fr no WN wr) (fun _ i _ => 5 - (intOf i).toNat)
  case atStart => exact ⟨0, by omega, rfl, by simp, Fr.refl _ _⟩
  case round =>
    obtain ⟨k, hk, rfl, ha, hf⟩ := hrel
    have HA := Lib.hid ha
    have HFr := Lib.hid hf
    clear ha hf
    by_cases hlt : k < 5
    · obtain ⟨b, off, hao, hc0, hc1⟩ := (HZ.out.kept HFr.out).2 k hlt
      obtain ⟨rfl, rfl⟩ : wc.heap.size = b ∧ 0 = off := by simpa using hao
      clear hao
      have HT := Lib.hid (all_take ptOk ⟨0, 0⟩ ps k (by have := HZ.out.1; omega))
      have HN := Lib.hid (all_no ptOk ⟨0, 0⟩ ps k (by have := HZ.out.1; omega))
      rw [show ps.getD k ⟨0, 0⟩ = ptAt ps k from rfl] at HT HN
      rw [Nat.zero_add] at hc0 hc1
      generalize ptAt ps k = p at *
      obtain ⟨x, y⟩ := p
      simp only at hc0 hc1
      cases hp : ptOk ⟨x, y⟩
      · have HV := Lib.hid hp
        clear hp
        go_wp2_with fail
        all_goals first
          | (go_ret; exact ⟨rfl, ((((HFN.out.noTrans HFr.out)).alloc _)).belowNone (Nat.le_refl _)⟩)
          | (exfalso; have h0 := HV.out; rw [← Bool.not_eq_true] at h0; apply h0; exact (ptB_t (x := x) (y := y)).2 (by omega))
      · rw [HA.out, hp] at HT
        have hp' : ptB x y = true := hp
        obtain ⟨⟨p1, p2⟩, p3, p4⟩ := ptB_t.1 hp'
        clear hp hp'
        go_wp2_with fail
        exact ⟨⟨k + 1, by omega, by go_num, HT.out, HFr.out.alloc _⟩, by simp [intOf]; omega⟩
    · exact absurd (show ps.all ptOk = true by have := HA.out; rwa [List.take_of_length_le (by have := HZ.out.1; omega)] at this) (by rw [HG.out]; decide)
set_option maxRecDepth 100000 in
set_option maxHeartbeats 8000000 in
theorem moves_in (ax ay bx by_ cx cy dx dy f sx sy : Int) (w : World) (g : ([⟨ax, ay⟩, ⟨bx, by_⟩, ⟨cx, cy⟩, ⟨dx, dy⟩, ⟨sx, sy⟩] : List Pt).all ptOk = true) (is e1 e2 : Bool) (q : Int) (hi : crB ax ay bx by_ cx cy dx dy = is) (hq : sqF ax ay bx by_ = q) (q0 : 0 ≤ q) (j1 : (ax == bx) = e1) (j2 : (ay == by_) = e2) (j3 : (q == 0) = (e1 && e2)) : Calls Try.prog 6 #[.agg #[.int .i64 ax, .int .i64 ay, .int .i64 bx, .int .i64 by_], .agg #[.int .i64 cx, .int .i64 cy, .int .i64 dx, .int .i64 dy, .int .i64 f], .agg #[.int .i64 sx, .int .i64 sy]] w fun e w' => e = .returned (.bool true) ∧ Below w.heap.size w w' := by
  have KS := Lib.hid (show ∀ w0 w' : World, Fr no w0 w' → w0.cell? ⟨w.heap.size, 0, none⟩ = some (.int .i64 ax) → w0.cell? ⟨w.heap.size, 1, none⟩ = some (.int .i64 ay) → w0.cell? ⟨w.heap.size, 2, none⟩ = some (.int .i64 bx) → w0.cell? ⟨w.heap.size, 3, none⟩ = some (.int .i64 by_) → w0.cell? ⟨w.heap.size + 1, 0, none⟩ = some (.int .i64 cx) → w0.cell? ⟨w.heap.size + 1, 1, none⟩ = some (.int .i64 cy) → w0.cell? ⟨w.heap.size + 1, 2, none⟩ = some (.int .i64 dx) → w0.cell? ⟨w.heap.size + 1, 3, none⟩ = some (.int .i64 dy) → w0.cell? ⟨w.heap.size + 1, 4, none⟩ = some (.int .i64 f) → w0.cell? ⟨w.heap.size + 1 + 1, 0, none⟩ = some (.int .i64 sx) → w0.cell? ⟨w.heap.size + 1 + 1, 1, none⟩ = some (.int .i64 sy) → (w'.cell? ⟨w.heap.size, 0, none⟩ = some (.int .i64 ax) ∧ w'.cell? ⟨w.heap.size, 1, none⟩ = some (.int .i64 ay) ∧ w'.cell? ⟨w.heap.size, 2, none⟩ = some (.int .i64 bx) ∧ w'.cell? ⟨w.heap.size, 3, none⟩ = some (.int .i64 by_) ∧ w'.cell? ⟨w.heap.size + 1, 0, none⟩ = some (.int .i64 cx) ∧ w'.cell? ⟨w.heap.size + 1, 1, none⟩ = some (.int .i64 cy) ∧ w'.cell? ⟨w.heap.size + 1, 2, none⟩ = some (.int .i64 dx) ∧ w'.cell? ⟨w.heap.size + 1, 3, none⟩ = some (.int .i64 dy) ∧ w'.cell? ⟨w.heap.size + 1, 4, none⟩ = some (.int .i64 f) ∧ w'.cell? ⟨w.heap.size + 1 + 1, 0, none⟩ = some (.int .i64 sx) ∧ w'.cell? ⟨w.heap.size + 1 + 1, 1, none⟩ = some (.int .i64 sy)) from fun _ _ h a0 a1 a2 a3 a4 a5 a6 a7 a8 a9 a10 => ⟨h.keepc a0, h.keepc a1, h.keepc a2, h.keepc a3, h.keepc a4, h.keepc a5, h.keepc a6, h.keepc a7, h.keepc a8, h.keepc a9, h.keepc a10⟩)
  obtain ⟨W, hW⟩ : ∃ W, W = (((w.alloc (.cells #[.int .i64 ax, .int .i64 ay, .int .i64 bx, .int .i64 by_] 53 (0, 0))).alloc (.cells #[.int .i64 cx, .int .i64 cy, .int .i64 dx, .int .i64 dy, .int .i64 f] 25 (0, 0))).alloc (.cells #[.int .i64 sx, .int .i64 sy] 23 (0, 0))) := ⟨_, rfl⟩
  have HF := Lib.hid (show Fr no w W by rw [hW]; exact (((Fr.refl no w).alloc _).alloc _).alloc _)
  have c0 : W.cell? ⟨w.heap.size, 0, none⟩ = some (.int .i64 ax) := by rw [hW]; go_simp
  have c1 : W.cell? ⟨w.heap.size, 1, none⟩ = some (.int .i64 ay) := by rw [hW]; go_simp
  have c2 : W.cell? ⟨w.heap.size, 2, none⟩ = some (.int .i64 bx) := by rw [hW]; go_simp
  have c3 : W.cell? ⟨w.heap.size, 3, none⟩ = some (.int .i64 by_) := by rw [hW]; go_simp
  have c4 : W.cell? ⟨w.heap.size + 1, 0, none⟩ = some (.int .i64 cx) := by rw [hW]; go_simp
  have c5 : W.cell? ⟨w.heap.size + 1, 1, none⟩ = some (.int .i64 cy) := by rw [hW]; go_simp
  have c6 : W.cell? ⟨w.heap.size + 1, 2, none⟩ = some (.int .i64 dx) := by rw [hW]; go_simp
  have c7 : W.cell? ⟨w.heap.size + 1, 3, none⟩ = some (.int .i64 dy) := by rw [hW]; go_simp
  have c8 : W.cell? ⟨w.heap.size + 1, 4, none⟩ = some (.int .i64 f) := by rw [hW]; go_simp
  have c9 : W.cell? ⟨w.heap.size + 1 + 1, 0, none⟩ = some (.int .i64 sx) := by rw [hW]; go_simp
  have c10 : W.cell? ⟨w.heap.size + 1 + 1, 1, none⟩ = some (.int .i64 sy) := by rw [hW]; go_simp
  have HW := Lib.hid hW
  clear hW
  have HI := Lib.hid hi
  have HQ := Lib.hid hq
  have J1 := Lib.hid j1
  have J2 := Lib.hid j2
  have J3 := Lib.hid j3
  clear hi hq j1 j2 j3
  have HG := Lib.hid g
  clear g
  go_enter Try.func6, Try.ntmps6
  go_wp2_with fail
  rw [← HW.out]
  refine (awake_any _).mono ?_
  rintro e y1 ⟨rfl, f1⟩
  obtain ⟨d1_0, d1_1, d1_2, d1_3, d1_4, d1_5, d1_6, d1_7, d1_8, d1_9, d1_10⟩ := KS.out _ _ f1 c0 c1 c2 c3 c4 c5 c6 c7 c8 c9 c10
  have HF1 := Lib.hid (HF.out.noTrans f1)
  clear f1 c0 c1 c2 c3 c4 c5 c6 c7 c8 c9 c10
  have r0 := ne_new d1_0
  go_upto_region 3 with fail
  go_cut [7, 8] (fun s7 s8 wx => ∃ c d : Nat, s7 = .pointer (some ⟨c, 0, none⟩) ∧ s8 = .pointer (some ⟨d, 0, none⟩) ∧ wx.cell? ⟨c, 0, none⟩ = some (.int .i64 ax) ∧ wx.cell? ⟨c, 1, none⟩ = some (.int .i64 ay) ∧ wx.cell? ⟨d, 0, none⟩ = some (.int .i64 bx) ∧ wx.cell? ⟨d, 1, none⟩ = some (.int .i64 by_) ∧ Fr no y1 wx)
  case first =>
    go_region_held3 (fun w' => w'.cell? ⟨w.heap.size, 0, none⟩ = some (.int .i64 ax) ∧ w'.cell? ⟨w.heap.size, 1, none⟩ = some (.int .i64 ay) ∧ w'.cell? ⟨w.heap.size, 2, none⟩ = some (.int .i64 bx) ∧ w'.cell? ⟨w.heap.size, 3, none⟩ = some (.int .i64 by_)) (go_keep) (fail)
    all_goals go_wp2_with fail
    all_goals go_meet
    all_goals (refine ⟨_, _, rfl, rfl, ?_, ?_, ?_, ?_, (((Fr.refl no y1).alloc _).alloc _).drew⟩ <;> go_simp)
  case rest =>
  obtain ⟨c, d, rfl, rfl, h0, h1, h2, h3, hfr⟩ := hcut
  obtain ⟨o0, o1, o2, o3, o4, o5, o6, o7, o8, o9, o10⟩ := KS.out _ _ hfr d1_0 d1_1 d1_2 d1_3 d1_4 d1_5 d1_6 d1_7 d1_8 d1_9 d1_10
  have HF2 := Lib.hid (HF1.out.noTrans hfr)
  clear hfr r0 d1_0 d1_1 d1_2 d1_3 d1_4 d1_5 d1_6 d1_7 d1_8 d1_9 d1_10
  have KT := Lib.hid (show ∀ w0 w' : World, Fr no w0 w' → w0.cell? ⟨c, 0, none⟩ = some (.int .i64 ax) → w0.cell? ⟨c, 1, none⟩ = some (.int .i64 ay) → w0.cell? ⟨d, 0, none⟩ = some (.int .i64 bx) → w0.cell? ⟨d, 1, none⟩ = some (.int .i64 by_) → w0.cell? ⟨w.heap.size + 1, 0, none⟩ = some (.int .i64 cx) → w0.cell? ⟨w.heap.size + 1, 1, none⟩ = some (.int .i64 cy) → w0.cell? ⟨w.heap.size + 1, 2, none⟩ = some (.int .i64 dx) → w0.cell? ⟨w.heap.size + 1, 3, none⟩ = some (.int .i64 dy) → w0.cell? ⟨w.heap.size + 1, 4, none⟩ = some (.int .i64 f) → w0.cell? ⟨w.heap.size + 1 + 1, 0, none⟩ = some (.int .i64 sx) → w0.cell? ⟨w.heap.size + 1 + 1, 1, none⟩ = some (.int .i64 sy) → (w'.cell? ⟨c, 0, none⟩ = some (.int .i64 ax) ∧ w'.cell? ⟨c, 1, none⟩ = some (.int .i64 ay) ∧ w'.cell? ⟨d, 0, none⟩ = some (.int .i64 bx) ∧ w'.cell? ⟨d, 1, none⟩ = some (.int .i64 by_) ∧ w'.cell? ⟨w.heap.size + 1, 0, none⟩ = some (.int .i64 cx) ∧ w'.cell? ⟨w.heap.size + 1, 1, none⟩ = some (.int .i64 cy) ∧ w'.cell? ⟨w.heap.size + 1, 2, none⟩ = some (.int .i64 dx) ∧ w'.cell? ⟨w.heap.size + 1, 3, none⟩ = some (.int .i64 dy) ∧ w'.cell? ⟨w.heap.size + 1, 4, none⟩ = some (.int .i64 f) ∧ w'.cell? ⟨w.heap.size + 1 + 1, 0, none⟩ = some (.int .i64 sx) ∧ w'.cell? ⟨w.heap.size + 1 + 1, 1, none⟩ = some (.int .i64 sy)) from fun _ _ h a0 a1 a2 a3 a4 a5 a6 a7 a8 a9 a10 => ⟨h.keepc a0, h.keepc a1, h.keepc a2, h.keepc a3, h.keepc a4, h.keepc a5, h.keepc a6, h.keepc a7, h.keepc a8, h.keepc a9, h.keepc a10⟩)
  go_wp2_with fail
  obtain ⟨WN, hWN⟩ : ∃ WN, WN = wc.alloc (.cells #[.int .i64 ax, .int .i64 ay, .int .i64 bx, .int .i64 by_, .int .i64 cx, .int .i64 cy, .int .i64 dx, .int .i64 dy, .int .i64 sx, .int .i64 sy] 23 (0, 0)) := ⟨_, rfl⟩
  have hbN : WN.heap[wc.heap.size]? = some (.cells #[.int .i64 ax, .int .i64 ay, .int .i64 bx, .int .i64 by_, .int .i64 cx, .int .i64 cy, .int .i64 dx, .int .i64 dy, .int .i64 sx, .int .i64 sy] 23 (0, 0)) := by rw [hWN]; exact heap_alloc_new wc _
  have HZ := Lib.hid (pts5 (w := WN) (b := wc.heap.size) (by simp [World.cell?, hbN]) (by simp [World.cell?, hbN]) (by simp [World.cell?, hbN]) (by simp [World.cell?, hbN]) (by simp [World.cell?, hbN]) (by simp [World.cell?, hbN]) (by simp [World.cell?, hbN]) (by simp [World.cell?, hbN]) (by simp [World.cell?, hbN]) (by simp [World.cell?, hbN]) : PtsIn WN (some ⟨wc.heap.size, 0, none⟩) 5 [⟨ax, ay⟩, ⟨bx, by_⟩, ⟨cx, cy⟩, ⟨dx, dy⟩, ⟨sx, sy⟩])
  have hfn : Fr no wc WN := by rw [hWN]; exact (Fr.refl no wc).alloc _
  obtain ⟨n0, n1, n2, n3, n4, n5, n6, n7, n8, n9, n10⟩ := KT.out _ _ hfn h0 h1 h2 h3 o4 o5 o6 o7 o8 o9 o10
  have HFN := Lib.hid (HF2.out.noTrans hfn)
  have HWN := Lib.hid hWN
  clear hWN hbN hfn h0 h1 h2 h3 o0 o1 o2 o3 o4 o5 o6 o7 o8 o9 o10
  rw [← HWN.out]
  obtain ⟨ps, hps⟩ : ∃ ps : List Pt, ps = [⟨ax, ay⟩, ⟨bx, by_⟩, ⟨cx, cy⟩, ⟨dx, dy⟩, ⟨sx, sy⟩] := ⟨_, rfl⟩
  have HP := Lib.hid hps
  rw [← hps] at HZ HG
  clear hps
  go_loopw [10, 31] (fun _ i wr => ∃ k : Nat, k ≤ 5 ∧ i = .int .i64 k ∧ (ps.take k).all ptOk = true ∧ Fr no WN wr) (fun _ i _ => 5 - (intOf i).toNat)
  case atStart => exact ⟨0, by omega, rfl, by simp, Fr.refl _ _⟩
  case round =>
    obtain ⟨k, hk, rfl, ha, hf⟩ := hrel
    have HA := Lib.hid ha
    have HFr := Lib.hid hf
    clear ha hf
    by_cases hlt : k < 5
    · obtain ⟨b, off, hao, hc0, hc1⟩ := (HZ.out.kept HFr.out).2 k hlt
      obtain ⟨rfl, rfl⟩ : wc.heap.size = b ∧ 0 = off := by simpa using hao
      clear hao
      have HT := Lib.hid (all_take ptOk ⟨0, 0⟩ ps k (by have := HZ.out.1; omega))
      have HN := Lib.hid (all_no ptOk ⟨0, 0⟩ ps k (by have := HZ.out.1; omega))
      rw [show ps.getD k ⟨0, 0⟩ = ptAt ps k from rfl] at HT HN
      rw [Nat.zero_add] at hc0 hc1
      generalize ptAt ps k = p at *
      obtain ⟨x, y⟩ := p
      simp only at hc0 hc1
      cases hp : ptOk ⟨x, y⟩
      · exact absurd (HN.out hp) (by rw [HG.out]; decide)
      · rw [HA.out, hp] at HT
        have hp' : ptB x y = true := hp
        obtain ⟨⟨p1, p2⟩, p3, p4⟩ := ptB_t.1 hp'
        clear hp hp'
        go_wp2_with fail
        exact ⟨⟨k + 1, by omega, by go_num, HT.out, HFr.out.alloc _⟩, by simp [intOf]; omega⟩
    · obtain rfl : k = 5 := by omega
      clear hk hlt
      have hh := HG.out
      rw [HP.out] at hh
      simp only [List.all_cons, List.all_nil, Bool.and_true, Bool.and_eq_true] at hh
      obtain ⟨g1, g2, g3, g4, g5⟩ := hh
      obtain ⟨u1, u2⟩ : cd ax ∧ cd ay := (ptB_t (x := ax) (y := ay)).1 g1
      obtain ⟨u3, u4⟩ : cd bx ∧ cd by_ := (ptB_t (x := bx) (y := by_)).1 g2
      obtain ⟨u5, u6⟩ : cd cx ∧ cd cy := (ptB_t (x := cx) (y := cy)).1 g3
      obtain ⟨u7, u8⟩ : cd dx ∧ cd dy := (ptB_t (x := dx) (y := dy)).1 g4
      obtain ⟨u9, u10⟩ : cd sx ∧ cd sy := (ptB_t (x := sx) (y := sy)).1 g5
      clear g1 g2 g3 g4 g5
      have cn : ∀ {x : Int}, cd x → nr x := fun h => by unfold cd at h; unfold nr; omega
      have cm : ∀ {x y : Int}, cd x → cd y → nr (x - y) := fun h k => by unfold cd at h k; unfold nr; omega
      have ca : ∀ {x y : Int}, cd x → cd y → nr (x + y) := fun h k => by unfold cd at h k; unfold nr; omega
      have K1 := fun w => crosses_any ax ay bx by_ cx cy dx dy f w (cn u1) (cn u2) (cn u3) (cn u4) (cn u5) (cn u6) (cn u7) (cn u8)
      have K2 := fun w => square_any ax ay bx by_ w (cn u1) (cn u2) (cn u3) (cn u4)
      have K3 := fun w => square_any bx by_ ax ay w (cn u3) (cn u4) (cn u1) (cn u2)
      have K4 := fun w => square_any (ax - sx) (ay + sy) (bx - sx) (by_ + sy) w (cm u1 u9) (ca u2 u10) (cm u3 u9) (ca u4 u10)
      have K5 := fun w => square_any ay ax by_ bx w (cn u2) (cn u1) (cn u4) (cn u3)
      have K6 := fun w => crosses_any bx by_ ax ay cx cy dx dy f w (cn u3) (cn u4) (cn u1) (cn u2) (cn u5) (cn u6) (cn u7) (cn u8)
      have K7 := fun w => crosses_any ax ay bx by_ dx dy cx cy f w (cn u1) (cn u2) (cn u3) (cn u4) (cn u7) (cn u8) (cn u5) (cn u6)
      have K8 := fun w => crosses_any cx cy dx dy ax ay bx by_ f w (cn u5) (cn u6) (cn u7) (cn u8) (cn u1) (cn u2) (cn u3) (cn u4)
      have K9 := fun w => crosses_any (ax - sx) (ay + sy) (bx - sx) (by_ + sy) (cx - sx) (cy + sy) (dx - sx) (dy + sy) f w (cm u1 u9) (ca u2 u10) (cm u3 u9) (ca u4 u10) (cm u5 u9) (ca u6 u10) (cm u7 u9) (ca u8 u10)
      have K10 := fun w => crosses_any ay ax by_ bx cy cx dy dx f w (cn u2) (cn u1) (cn u4) (cn u3) (cn u6) (cn u5) (cn u8) (cn u7)
      rw [HI.out] at K1
      rw [HQ.out] at K2
      rw [sqF_r, HQ.out] at K3
      rw [sqF_m, HQ.out] at K4
      rw [sqF_t, HQ.out] at K5
      rw [crB_path, HI.out] at K6
      rw [crB_wall, HI.out] at K7
      rw [crB_roles, HI.out] at K8
      rw [crB_moved, HI.out] at K9
      rw [crB_turned, HI.out] at K10
      have K1 := Lib.hid K1
      have K2 := Lib.hid K2
      have K3 := Lib.hid K3
      have K4 := Lib.hid K4
      have K5 := Lib.hid K5
      have K6 := Lib.hid K6
      have K7 := Lib.hid K7
      have K8 := Lib.hid K8
      have K9 := Lib.hid K9
      have K10 := Lib.hid K10
      have M1 := Lib.hid (fun w_ h0 h1 => moved_any ax ay sx sy (w.heap.size + 1 + 1) w_ h0 h1 u1 u2 u9 u10)
      have M2 := Lib.hid (fun w_ h0 h1 => moved_any bx by_ sx sy (w.heap.size + 1 + 1) w_ h0 h1 u3 u4 u9 u10)
      have M3 := Lib.hid (fun w_ h0 h1 => moved_any cx cy sx sy (w.heap.size + 1 + 1) w_ h0 h1 u5 u6 u9 u10)
      have M4 := Lib.hid (fun w_ h0 h1 => moved_any dx dy sx sy (w.heap.size + 1 + 1) w_ h0 h1 u7 u8 u9 u10)
      clear cn cm ca u1 u2 u3 u4 u5 u6 u7 u8 u9 u10
      obtain ⟨e0, e1, e2, e3, e4, e5, e6, e7, e8, e9, e10⟩ := KT.out _ _ HFr.out n0 n1 n2 n3 n4 n5 n6 n7 n8 n9 n10
      have HF3 := Lib.hid (HFN.out.noTrans HFr.out)
      clear n0 n1 n2 n3 n4 n5 n6 n7 n8 n9 n10 HFN HFr HA HZ HP HG HWN
      go_wp2_with fail
      have tokfa1 : True := trivial
      have tokfa2 : True := trivial
      go_region_held3 (fun w' => w'.cell? ⟨c, 0, none⟩ = some (.int .i64 ax) ∧ w'.cell? ⟨c, 1, none⟩ = some (.int .i64 ay) ∧ w'.cell? ⟨d, 0, none⟩ = some (.int .i64 bx) ∧ w'.cell? ⟨d, 1, none⟩ = some (.int .i64 by_) ∧ w'.cell? ⟨w.heap.size + 1, 0, none⟩ = some (.int .i64 cx) ∧ w'.cell? ⟨w.heap.size + 1, 1, none⟩ = some (.int .i64 cy) ∧ w'.cell? ⟨w.heap.size + 1, 2, none⟩ = some (.int .i64 dx) ∧ w'.cell? ⟨w.heap.size + 1, 3, none⟩ = some (.int .i64 dy) ∧ w'.cell? ⟨w.heap.size + 1, 4, none⟩ = some (.int .i64 f)) (go_keep)
        (first
          | (go_at_call 15; have _tk := tokfa1; refine (K1.out _).mono ?_; rintro e x1 ⟨rfl, fa1⟩; clear _tk tokfa1; obtain ⟨kfa10, kfa11, kfa12, kfa13, kfa14, kfa15, kfa16, kfa17, kfa18, kfa19, kfa110⟩ := KT.out _ _ fa1 e0 e1 e2 e3 e4 e5 e6 e7 e8 e9 e10)
          | (go_at_call 13; have _tk := tokfa2; refine (K2.out _).mono ?_; rintro e x2 ⟨rfl, fa2⟩; clear _tk tokfa2; obtain ⟨kfa20, kfa21, kfa22, kfa23, kfa24, kfa25, kfa26, kfa27, kfa28, kfa29, kfa210⟩ := KT.out _ _ fa2 kfa10 kfa11 kfa12 kfa13 kfa14 kfa15 kfa16 kfa17 kfa18 kfa19 kfa110))
      have HF4 := Lib.hid ((HF3.out.drew.noTrans fa1).noTrans fa2)
      clear fa1 fa2 e0 e1 e2 e3 e4 e5 e6 e7 e8 e9 e10 kfa10 kfa11 kfa12 kfa13 kfa14 kfa15 kfa16 kfa17 kfa18 kfa19 kfa110
      have j1 := J1.out
      have j2 := J2.out
      have j3 := J3.out
      go_upto_region 14 with fail
      go_cut [101] (fun s101 wx => s101 = .bool false ∧ Fr no x2 wx)
      case first =>
        have q1 : decide (q < 0) = false := by simpa using q0
        have j1 := J1.out
        have j2 := J2.out
        have j3 := J3.out
        clear J1 J2 J3
        cases e1 <;> cases e2
        all_goals as_aux_lemma =>
          simp only [Bool.and_true, Bool.and_false, Bool.and_self] at j3
          have tokfb1 : True := trivial
          have tokfb2 : True := trivial
          have tokfb3 : True := trivial
          have tokfb4 : True := trivial
          have tokfb5 : True := trivial
          have tokfb6 : True := trivial
          have tokfb7 : True := trivial
          go_region_held3 (fun w' => w'.cell? ⟨c, 0, none⟩ = some (.int .i64 ax) ∧ w'.cell? ⟨c, 1, none⟩ = some (.int .i64 ay) ∧ w'.cell? ⟨d, 0, none⟩ = some (.int .i64 bx) ∧ w'.cell? ⟨d, 1, none⟩ = some (.int .i64 by_) ∧ w'.cell? ⟨w.heap.size + 1, 0, none⟩ = some (.int .i64 cx) ∧ w'.cell? ⟨w.heap.size + 1, 1, none⟩ = some (.int .i64 cy) ∧ w'.cell? ⟨w.heap.size + 1, 2, none⟩ = some (.int .i64 dx) ∧ w'.cell? ⟨w.heap.size + 1, 3, none⟩ = some (.int .i64 dy) ∧ w'.cell? ⟨w.heap.size + 1, 4, none⟩ = some (.int .i64 f)) (go_keep)
            (first
              | (go_at_call 13; have _tk := tokfb1; refine (K3.out _).mono ?_; rintro e x3 ⟨rfl, fb1⟩; clear _tk tokfb1; obtain ⟨kfb10, kfb11, kfb12, kfb13, kfb14, kfb15, kfb16, kfb17, kfb18, kfb19, kfb110⟩ := KT.out _ _ fb1 kfa20 kfa21 kfa22 kfa23 kfa24 kfa25 kfa26 kfa27 kfa28 kfa29 kfa210)
              | (go_at_call 32; have _tk := tokfb2; refine (M1.out _ kfb19 kfb110).mono ?_; rintro e x4 ⟨rfl, fb2⟩; clear _tk tokfb2; obtain ⟨kfb20, kfb21, kfb22, kfb23, kfb24, kfb25, kfb26, kfb27, kfb28, kfb29, kfb210⟩ := KT.out _ _ fb2 kfb10 kfb11 kfb12 kfb13 kfb14 kfb15 kfb16 kfb17 kfb18 kfb19 kfb110)
              | (go_at_call 32; have _tk := tokfb3; refine (M2.out _ kfb29 kfb210).mono ?_; rintro e x5 ⟨rfl, fb3⟩; clear _tk tokfb3; obtain ⟨kfb30, kfb31, kfb32, kfb33, kfb34, kfb35, kfb36, kfb37, kfb38, kfb39, kfb310⟩ := KT.out _ _ fb3 kfb20 kfb21 kfb22 kfb23 kfb24 kfb25 kfb26 kfb27 kfb28 kfb29 kfb210)
              | (go_at_call 13; have _tk := tokfb4; refine (K4.out _).mono ?_; rintro e x6 ⟨rfl, fb4⟩; clear _tk tokfb4; obtain ⟨kfb40, kfb41, kfb42, kfb43, kfb44, kfb45, kfb46, kfb47, kfb48, kfb49, kfb410⟩ := KT.out _ _ fb4 kfb30 kfb31 kfb32 kfb33 kfb34 kfb35 kfb36 kfb37 kfb38 kfb39 kfb310)
              | (go_at_call 33; have _tk := tokfb5; refine (turned_any ax ay _).mono ?_; rintro e x7 ⟨rfl, fb5⟩; clear _tk tokfb5; obtain ⟨kfb50, kfb51, kfb52, kfb53, kfb54, kfb55, kfb56, kfb57, kfb58, kfb59, kfb510⟩ := KT.out _ _ fb5 kfb40 kfb41 kfb42 kfb43 kfb44 kfb45 kfb46 kfb47 kfb48 kfb49 kfb410)
              | (go_at_call 33; have _tk := tokfb6; refine (turned_any bx by_ _).mono ?_; rintro e x8 ⟨rfl, fb6⟩; clear _tk tokfb6; obtain ⟨kfb60, kfb61, kfb62, kfb63, kfb64, kfb65, kfb66, kfb67, kfb68, kfb69, kfb610⟩ := KT.out _ _ fb6 kfb50 kfb51 kfb52 kfb53 kfb54 kfb55 kfb56 kfb57 kfb58 kfb59 kfb510)
              | (go_at_call 13; have _tk := tokfb7; refine (K5.out _).mono ?_; rintro e x9 ⟨rfl, fb7⟩; clear _tk tokfb7; obtain ⟨kfb70, kfb71, kfb72, kfb73, kfb74, kfb75, kfb76, kfb77, kfb78, kfb79, kfb710⟩ := KT.out _ _ fb7 kfb60 kfb61 kfb62 kfb63 kfb64 kfb65 kfb66 kfb67 kfb68 kfb69 kfb610))
          go_wp2_with fail
          go_meet
          exact ⟨rfl, ((((((((Fr.refl no x2).drew.noTrans fb1).noTrans fb2).noTrans fb3).noTrans fb4).noTrans fb5).noTrans fb6).noTrans fb7)⟩
      case rest => as_aux_lemma =>
      obtain ⟨rfl, f9⟩ := hcut
      obtain ⟨kfb70, kfb71, kfb72, kfb73, kfb74, kfb75, kfb76, kfb77, kfb78, kfb79, kfb710⟩ := KT.out _ _ f9 kfa20 kfa21 kfa22 kfa23 kfa24 kfa25 kfa26 kfa27 kfa28 kfa29 kfa210
      have HF5 := Lib.hid (HF4.out.noTrans f9)
      clear J1 J2 J3 f9 kfa20 kfa21 kfa22 kfa23 kfa24 kfa25 kfa26 kfa27 kfa28 kfa29 kfa210
      go_wp2_with fail
      simp only [List.append_eq, List.cons_append, List.nil_append]
      have tokfc1 : True := trivial
      have tokfc2 : True := trivial
      have tokfc3 : True := trivial
      have tokfc4 : True := trivial
      have tokfc5 : True := trivial
      have tokfc6 : True := trivial
      have tokfc7 : True := trivial
      have tokfc8 : True := trivial
      have tokfc9 : True := trivial
      have tokfd1 : True := trivial
      have tokfd2 : True := trivial
      have tokfd3 : True := trivial
      have tokfd4 : True := trivial
      have tokfd5 : True := trivial
      have tokfd6 : True := trivial
      have tokfd7 : True := trivial
      have tokfd8 : True := trivial
      go_region_held3 (fun w' => w'.cell? ⟨c, 0, none⟩ = some (.int .i64 ax) ∧ w'.cell? ⟨c, 1, none⟩ = some (.int .i64 ay) ∧ w'.cell? ⟨d, 0, none⟩ = some (.int .i64 bx) ∧ w'.cell? ⟨d, 1, none⟩ = some (.int .i64 by_) ∧ w'.cell? ⟨w.heap.size + 1, 0, none⟩ = some (.int .i64 cx) ∧ w'.cell? ⟨w.heap.size + 1, 1, none⟩ = some (.int .i64 cy) ∧ w'.cell? ⟨w.heap.size + 1, 2, none⟩ = some (.int .i64 dx) ∧ w'.cell? ⟨w.heap.size + 1, 3, none⟩ = some (.int .i64 dy) ∧ w'.cell? ⟨w.heap.size + 1, 4, none⟩ = some (.int .i64 f) ∧ w'.cell? ⟨w.heap.size + 1 + 1, 0, none⟩ = some (.int .i64 sx) ∧ w'.cell? ⟨w.heap.size + 1 + 1, 1, none⟩ = some (.int .i64 sy)) (go_keep)
        (first
          | (go_at_call 15; have _tk := tokfc1; refine (K6.out _).mono ?_; rintro e z1 ⟨rfl, fc1⟩; clear _tk tokfc1; obtain ⟨kfc10, kfc11, kfc12, kfc13, kfc14, kfc15, kfc16, kfc17, kfc18, kfc19, kfc110⟩ := KT.out _ _ fc1 kfb70 kfb71 kfb72 kfb73 kfb74 kfb75 kfb76 kfb77 kfb78 kfb79 kfb710)
          | (go_at_call 34; have _tk := tokfc2; refine (wall_any dx dy cx cy f (w.heap.size + 1) _ kfc18).mono ?_; rintro e z2 ⟨rfl, fc2⟩; clear _tk tokfc2; obtain ⟨kfc20, kfc21, kfc22, kfc23, kfc24, kfc25, kfc26, kfc27, kfc28, kfc29, kfc210⟩ := KT.out _ _ fc2 kfc10 kfc11 kfc12 kfc13 kfc14 kfc15 kfc16 kfc17 kfc18 kfc19 kfc110)
          | (go_at_call 15; have _tk := tokfc3; refine (K7.out _).mono ?_; rintro e z3 ⟨rfl, fc3⟩; clear _tk tokfc3; obtain ⟨kfc30, kfc31, kfc32, kfc33, kfc34, kfc35, kfc36, kfc37, kfc38, kfc39, kfc310⟩ := KT.out _ _ fc3 kfc20 kfc21 kfc22 kfc23 kfc24 kfc25 kfc26 kfc27 kfc28 kfc29 kfc210)
          | (go_at_call 34; have _tk := tokfc4; refine (wall_any ax ay bx by_ f (w.heap.size + 1) _ kfc38).mono ?_; rintro e z4 ⟨rfl, fc4⟩; clear _tk tokfc4; obtain ⟨kfc40, kfc41, kfc42, kfc43, kfc44, kfc45, kfc46, kfc47, kfc48, kfc49, kfc410⟩ := KT.out _ _ fc4 kfc30 kfc31 kfc32 kfc33 kfc34 kfc35 kfc36 kfc37 kfc38 kfc39 kfc310)
          | (go_at_call 15; have _tk := tokfc5; refine (K8.out _).mono ?_; rintro e z5 ⟨rfl, fc5⟩; clear _tk tokfc5; obtain ⟨kfc50, kfc51, kfc52, kfc53, kfc54, kfc55, kfc56, kfc57, kfc58, kfc59, kfc510⟩ := KT.out _ _ fc5 kfc40 kfc41 kfc42 kfc43 kfc44 kfc45 kfc46 kfc47 kfc48 kfc49 kfc410)
          | (go_at_call 32; have _tk := tokfc6; refine (M1.out _ kfc59 kfc510).mono ?_; rintro e z6 ⟨rfl, fc6⟩; clear _tk tokfc6; obtain ⟨kfc60, kfc61, kfc62, kfc63, kfc64, kfc65, kfc66, kfc67, kfc68, kfc69, kfc610⟩ := KT.out _ _ fc6 kfc50 kfc51 kfc52 kfc53 kfc54 kfc55 kfc56 kfc57 kfc58 kfc59 kfc510)
          | (go_at_call 32; have _tk := tokfc7; refine (M2.out _ kfc69 kfc610).mono ?_; rintro e z7 ⟨rfl, fc7⟩; clear _tk tokfc7; obtain ⟨kfc70, kfc71, kfc72, kfc73, kfc74, kfc75, kfc76, kfc77, kfc78, kfc79, kfc710⟩ := KT.out _ _ fc7 kfc60 kfc61 kfc62 kfc63 kfc64 kfc65 kfc66 kfc67 kfc68 kfc69 kfc610)
          | (go_at_call 32; have _tk := tokfc8; refine (M3.out _ kfc79 kfc710).mono ?_; rintro e z8 ⟨rfl, fc8⟩; clear _tk tokfc8; obtain ⟨kfc80, kfc81, kfc82, kfc83, kfc84, kfc85, kfc86, kfc87, kfc88, kfc89, kfc810⟩ := KT.out _ _ fc8 kfc70 kfc71 kfc72 kfc73 kfc74 kfc75 kfc76 kfc77 kfc78 kfc79 kfc710)
          | (go_at_call 32; have _tk := tokfc9; refine (M4.out _ kfc89 kfc810).mono ?_; rintro e z9 ⟨rfl, fc9⟩; clear _tk tokfc9; obtain ⟨kfc90, kfc91, kfc92, kfc93, kfc94, kfc95, kfc96, kfc97, kfc98, kfc99, kfc910⟩ := KT.out _ _ fc9 kfc80 kfc81 kfc82 kfc83 kfc84 kfc85 kfc86 kfc87 kfc88 kfc89 kfc810)
          | (go_at_call 34; have _tk := tokfd1; refine (wall_any (cx - sx) (cy + sy) (dx - sx) (dy + sy) f (w.heap.size + 1) _ kfc98).mono ?_; rintro e z10 ⟨rfl, fd1⟩; clear _tk tokfd1; obtain ⟨kfd10, kfd11, kfd12, kfd13, kfd14, kfd15, kfd16, kfd17, kfd18, kfd19, kfd110⟩ := KT.out _ _ fd1 kfc90 kfc91 kfc92 kfc93 kfc94 kfc95 kfc96 kfc97 kfc98 kfc99 kfc910)
          | (go_at_call 15; have _tk := tokfd2; refine (K9.out _).mono ?_; rintro e z11 ⟨rfl, fd2⟩; clear _tk tokfd2; obtain ⟨kfd20, kfd21, kfd22, kfd23, kfd24, kfd25, kfd26, kfd27, kfd28, kfd29, kfd210⟩ := KT.out _ _ fd2 kfd10 kfd11 kfd12 kfd13 kfd14 kfd15 kfd16 kfd17 kfd18 kfd19 kfd110)
          | (go_at_call 33; have _tk := tokfd3; refine (turned_any ax ay _).mono ?_; rintro e z12 ⟨rfl, fd3⟩; clear _tk tokfd3; obtain ⟨kfd30, kfd31, kfd32, kfd33, kfd34, kfd35, kfd36, kfd37, kfd38, kfd39, kfd310⟩ := KT.out _ _ fd3 kfd20 kfd21 kfd22 kfd23 kfd24 kfd25 kfd26 kfd27 kfd28 kfd29 kfd210)
          | (go_at_call 33; have _tk := tokfd4; refine (turned_any bx by_ _).mono ?_; rintro e z13 ⟨rfl, fd4⟩; clear _tk tokfd4; obtain ⟨kfd40, kfd41, kfd42, kfd43, kfd44, kfd45, kfd46, kfd47, kfd48, kfd49, kfd410⟩ := KT.out _ _ fd4 kfd30 kfd31 kfd32 kfd33 kfd34 kfd35 kfd36 kfd37 kfd38 kfd39 kfd310)
          | (go_at_call 33; have _tk := tokfd5; refine (turned_any cx cy _).mono ?_; rintro e z14 ⟨rfl, fd5⟩; clear _tk tokfd5; obtain ⟨kfd50, kfd51, kfd52, kfd53, kfd54, kfd55, kfd56, kfd57, kfd58, kfd59, kfd510⟩ := KT.out _ _ fd5 kfd40 kfd41 kfd42 kfd43 kfd44 kfd45 kfd46 kfd47 kfd48 kfd49 kfd410)
          | (go_at_call 33; have _tk := tokfd6; refine (turned_any dx dy _).mono ?_; rintro e z15 ⟨rfl, fd6⟩; clear _tk tokfd6; obtain ⟨kfd60, kfd61, kfd62, kfd63, kfd64, kfd65, kfd66, kfd67, kfd68, kfd69, kfd610⟩ := KT.out _ _ fd6 kfd50 kfd51 kfd52 kfd53 kfd54 kfd55 kfd56 kfd57 kfd58 kfd59 kfd510)
          | (go_at_call 34; have _tk := tokfd7; refine (wall_any cy cx dy dx f (w.heap.size + 1) _ kfd68).mono ?_; rintro e z16 ⟨rfl, fd7⟩; clear _tk tokfd7; obtain ⟨kfd70, kfd71, kfd72, kfd73, kfd74, kfd75, kfd76, kfd77, kfd78, kfd79, kfd710⟩ := KT.out _ _ fd7 kfd60 kfd61 kfd62 kfd63 kfd64 kfd65 kfd66 kfd67 kfd68 kfd69 kfd610)
          | (go_at_call 15; have _tk := tokfd8; refine (K10.out _).mono ?_; rintro e z17 ⟨rfl, fd8⟩; clear _tk tokfd8; obtain ⟨kfd80, kfd81, kfd82, kfd83, kfd84, kfd85, kfd86, kfd87, kfd88, kfd89, kfd810⟩ := KT.out _ _ fd8 kfd70 kfd71 kfd72 kfd73 kfd74 kfd75 kfd76 kfd77 kfd78 kfd79 kfd710))
      have HF6 := Lib.hid ((((((((((((((((((HF5.out.drew.noTrans fc1).noTrans fc2).noTrans fc3).noTrans fc4).noTrans fc5).noTrans fc6).noTrans fc7).noTrans fc8).noTrans fc9).noTrans fd1).noTrans fd2).noTrans fd3).noTrans fd4).noTrans fd5).noTrans fd6).noTrans fd7).noTrans fd8))
      clear fc1 fc2 fc3 fc4 fc5 fc6 fc7 fc8 fc9 fd1 fd2 fd3 fd4 fd5 fd6 fd7 fd8 kfb70 kfb71 kfb72 kfb73 kfb74 kfb75 kfb76 kfb77 kfb78 kfb79 kfb710 kfc10 kfc11 kfc12 kfc13 kfc14 kfc15 kfc16 kfc17 kfc18 kfc19 kfc110 kfc20 kfc21 kfc22 kfc23 kfc24 kfc25 kfc26 kfc27 kfc28 kfc29 kfc210 kfc30 kfc31 kfc32 kfc33 kfc34 kfc35 kfc36 kfc37 kfc38 kfc39 kfc310 kfc40 kfc41 kfc42 kfc43 kfc44 kfc45 kfc46 kfc47 kfc48 kfc49 kfc410 kfc50 kfc51 kfc52 kfc53 kfc54 kfc55 kfc56 kfc57 kfc58 kfc59 kfc510 kfc60 kfc61 kfc62 kfc63 kfc64 kfc65 kfc66 kfc67 kfc68 kfc69 kfc610 kfc70 kfc71 kfc72 kfc73 kfc74 kfc75 kfc76 kfc77 kfc78 kfc79 kfc710 kfc80 kfc81 kfc82 kfc83 kfc84 kfc85 kfc86 kfc87 kfc88 kfc89 kfc810 kfc90 kfc91 kfc92 kfc93 kfc94 kfc95 kfc96 kfc97 kfc98 kfc99 kfc910 kfd10 kfd11 kfd12 kfd13 kfd14 kfd15 kfd16 kfd17 kfd18 kfd19 kfd110 kfd20 kfd21 kfd22 kfd23 kfd24 kfd25 kfd26 kfd27 kfd28 kfd29 kfd210 kfd30 kfd31 kfd32 kfd33 kfd34 kfd35 kfd36 kfd37 kfd38 kfd39 kfd310 kfd40 kfd41 kfd42 kfd43 kfd44 kfd45 kfd46 kfd47 kfd48 kfd49 kfd410 kfd50 kfd51 kfd52 kfd53 kfd54 kfd55 kfd56 kfd57 kfd58 kfd59 kfd510 kfd60 kfd61 kfd62 kfd63 kfd64 kfd65 kfd66 kfd67 kfd68 kfd69 kfd610 kfd70 kfd71 kfd72 kfd73 kfd74 kfd75 kfd76 kfd77 kfd78 kfd79 kfd710
      go_wp2_with fail
      go_ret
      exact ⟨rfl, HF6.out.belowNone (Nat.le_refl _)⟩
theorem moves_law (ax ay bx by_ cx cy dx dy f sx sy : Int) (w : World) : Calls Try.prog 6 #[.agg #[.int .i64 ax, .int .i64 ay, .int .i64 bx, .int .i64 by_], .agg #[.int .i64 cx, .int .i64 cy, .int .i64 dx, .int .i64 dy, .int .i64 f], .agg #[.int .i64 sx, .int .i64 sy]] w fun e w' => e = .returned (.bool true) ∧ Below w.heap.size w w' := by
  cases g : ([⟨ax, ay⟩, ⟨bx, by_⟩, ⟨cx, cy⟩, ⟨dx, dy⟩, ⟨sx, sy⟩] : List Pt).all ptOk
  · exact moves_out ax ay bx by_ cx cy dx dy f sx sy w g
  · have gg := g
    simp only [List.all_cons, List.all_nil, Bool.and_true, Bool.and_eq_true] at gg
    have h0 := sq_bound ax ay bx by_ (ptB_n gg.1).1 (ptB_n gg.1).2 (ptB_n gg.2.1).1 (ptB_n gg.2.1).2
    refine moves_in ax ay bx by_ cx cy dx dy f sx sy w g _ (ax == bx) (ay == by_) _ rfl rfl h0.1 rfl rfl ?_
    by_cases hx : ax = bx
    · by_cases hy : ay = by_
      · subst hx hy
        rw [sqF_0]
        simp
      · rw [beq_eq_false_iff_ne.2 (sqF_y _ _ _ _ hy), beq_eq_false_iff_ne.2 hy, Bool.and_false]
    · rw [beq_eq_false_iff_ne.2 (sqF_x _ _ _ _ hx), beq_eq_false_iff_ne.2 hx, Bool.false_and]
end Go.Proofs.Ytljfdoabgbioiaa
