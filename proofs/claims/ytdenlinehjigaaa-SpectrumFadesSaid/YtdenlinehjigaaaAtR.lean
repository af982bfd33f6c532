/- The power that arrives, whole; and the document's own. -/
import Derived.Test.YtdenlinehjigaaaArr
namespace Go.Proofs.Ytdenlinehjigaaa
open Go.RowKit
set_option linter.unusedVariables false

theorem sq_bound (ax ay bx by_ : Int) (h1 : nr ax) (h2 : nr ay) (h3 : nr bx) (h4 : nr by_) : 0 ≤ sqF ax ay bx by_ ∧ sqF ax ay bx by_ ≤ 3200000000 := by
  have h5 := diff_bound bx ax bx ax h3 h1 h3 h1
  have h6 := diff_bound by_ ay by_ ay h4 h2 h4 h2
  have h7 : 0 ≤ (bx - ax) * (bx - ax) := by rcases Int.le_total 0 (bx - ax) with h | h; exact Int.mul_nonneg h h; exact Int.mul_nonneg_of_nonpos_of_nonpos h h
  have h8 : 0 ≤ (by_ - ay) * (by_ - ay) := by rcases Int.le_total 0 (by_ - ay) with h | h; exact Int.mul_nonneg h h; exact Int.mul_nonneg_of_nonpos_of_nonpos h h
  unfold sqF
  omega
theorem arriving_any (a0 : Option Addr) (l0 k0 : Nat) (a1 : Option Addr) (l1 k1 : Nat) (a2 : Option Addr) (l2 k2 : Nat) (e o t : Int) (ax ay bx by_ p : Int) (ws : List Wl) (w : World) (he : e = 2 ∨ e = 4) (hw : WlsIn w a2 l2 ws) (hok : ws.all wlOk = true) (hl : l2 ≤ 40) (h1 : nr ax) (h2 : nr ay) (h3 : nr bx) (h4 : nr by_) (hp : isP p = true) :
    Calls Try.prog 80 #[.agg #[.slice a0 l0 k0, .slice a1 l1 k1, .slice a2 l2 k2, .int .i64 e, .int .i64 o, .int .i64 t], .agg #[.int .i64 ax, .int .i64 ay], .int .i64 p, .agg #[.int .i64 bx, .int .i64 by_]] w fun e' w' => e' = .returned (.int .i64 (arF e ax ay bx by_ p ws)) ∧ Fr no w w' := by
  obtain ⟨p0, p1⟩ := isP_t.1 hp
  have q1 := (sq_bound ax ay bx by_ h1 h2 h3 h4).2
  rcases he with rfl | rfl <;> rcases (show 100 ≤ sqF ax ay bx by_ ∨ sqF ax ay bx by_ < 100 by omega) with q2 | q2
  · exact arr_2b a0 l0 k0 a1 l1 k1 a2 l2 k2 o t ax ay bx by_ p _ ws w hw hok hl h1 h2 h3 h4 p0 p1 rfl q1 q2
  · exact arr_2s a0 l0 k0 a1 l1 k1 a2 l2 k2 o t ax ay bx by_ p _ ws w hw hok hl h1 h2 h3 h4 p0 p1 rfl q1 q2
  · exact arr_4b a0 l0 k0 a1 l1 k1 a2 l2 k2 o t ax ay bx by_ p _ ws w hw hok hl h1 h2 h3 h4 p0 p1 rfl q1 q2
  · exact arr_4s a0 l0 k0 a1 l1 k1 a2 l2 k2 o t ax ay bx by_ p _ ws w hw hok hl h1 h2 h3 h4 p0 p1 rfl q1 q2

theorem scV_bound (p f : Int) : 0 ≤ scV p f ∧ scV p f ≤ MX := by
  unfold scV
  split
  · rename_i h
    obtain ⟨hp, hf⟩ := h
    obtain ⟨p0, p1⟩ := isP_t.1 hp
    obtain ⟨f0, f1⟩ := inR_t.1 hf
    refine ⟨Int.ediv_nonneg (Int.mul_nonneg p0 f0) (by omega), ?_⟩
    have : p * f ≤ p * 1000 := Int.mul_le_mul_of_nonneg_left f1 p0
    rw [MX] at *
    omega
  · exact ⟨Int.le_refl _, by decide⟩
theorem foldW_bound (r : Int) (ws : List Wl) (h0 : 0 ≤ r) (h1 : r ≤ MX) : 0 ≤ foldW r ws ∧ foldW r ws ≤ MX := by
  induction ws generalizing r with
  | nil => exact ⟨h0, h1⟩
  | cons v t ih => exact ih _ (scV_bound r v.f).1 (scV_bound r v.f).2
theorem arB_bound (e q p : Int) (hp : isP p = true) : 0 ≤ arB e q p ∧ arB e q p ≤ MX := by
  obtain ⟨p0, p1⟩ := isP_t.1 hp
  have hm : 100 ≤ arM q := by unfold arM; split <;> omega
  obtain ⟨v0, v1⟩ := div_bound p (arM q) p0 hm
  obtain ⟨v2, v3⟩ := div_bound (p * 100 / arM q) (arM q) v0 hm
  unfold arB
  split <;> omega
theorem arF_bound (e ax ay bx by_ p : Int) (ws : List Wl) (hp : isP p = true) : 0 ≤ arF e ax ay bx by_ p ws ∧ arF e ax ay bx by_ p ws ≤ MX :=
  foldW_bound _ _ (arB_bound e _ p hp).1 (arB_bound e _ p hp).2
def crWR (ax ay bx by_ : Int) (v : Wl) : Bool := crR ax ay bx by_ v.ax v.ay v.bx v.by_
set_option maxRecDepth 100000 in
set_option maxHeartbeats 16000000 in
theorem atR_4b (a0 : Option Addr) (l0 k0 : Nat) (a1 : Option Addr) (l1 k1 : Nat) (a2 : Option Addr) (l2 k2 : Nat) (o t : Int) (ax ay bx by_ p q : Int) (ws : List Wl) (w : World) (hw : WlsIn w a2 l2 ws) (hok : ws.all wlOk = true) (hl : l2 ≤ 40) (h1 : nr ax) (h2 : nr ay) (h3 : nr bx) (h4 : nr by_) (hpp : isP p = true)
    (hq : sqF ax ay bx by_ = q) (q1 : q ≤ 3200000000) (q2 : 100 ≤ q) :
    Calls Try.prog 140 #[.agg #[.slice a0 l0 k0, .slice a1 l1 k1, .slice a2 l2 k2, .int .i64 4, .int .i64 o, .int .i64 t], .agg #[.int .i64 ax, .int .i64 ay], .int .i64 p, .agg #[.int .i64 bx, .int .i64 by_]] w fun e' w' => e' = .returned (.int .i64 (foldW (arB 4 q p) (ws.filter (crWR ax ay bx by_)))) ∧ Fr no w w' := by
  have HBB := Lib.hid (arB_bound 4 q p hpp)
  obtain ⟨p0, p1'⟩ := isP_t.1 hpp
  have p1 : p ≤ 68719476736 := p1'
  clear p1'
  have K13 := fun w => squareR_any ax ay bx by_ w h1 h2 h3 h4
  rw [hq] at K13
  have K13 := Lib.hid K13
  clear hq
  have KC := Lib.hid (fun (cx cy dx dy f : Int) (w : World) (h5 : nr cx) (h6 : nr cy) (h7 : nr dx) (h8 : nr dy) => crossesR_any ax ay bx by_ cx cy dx dy f w h1 h2 h3 h4 h5 h6 h7 h8)
  obtain ⟨v0, v1⟩ := div_bound p q p0 (by omega)
  have hm : p * 100 ≤ 6871947673600 := by omega
  have hm0 : 0 ≤ p * 100 := by omega
  have t1 : Int.tdiv (p * 100) q = p * 100 / q := Int.tdiv_eq_ediv_of_nonneg hm0
  have t2 : Int.tdiv (p * 100 / q * 100) q = p * 100 / q * 100 / q := Int.tdiv_eq_ediv_of_nonneg (by omega)
  obtain ⟨v2, v3⟩ := div_bound (p * 100 / q) q v0 (by omega)
  have z1 : (q == 0) = false := by rw [beq_eq_false_iff_ne]; omega
  have HB := Lib.hid (show arB 4 q p = p * 100 / q * 100 / q by simp only [arB, show arM q = q by unfold arM; split <;> omega]; rfl)
  have HWL := Lib.hid hw
  have HOK := Lib.hid hok
  have HL := Lib.hid hl
  clear h1 h2 h3 h4 hw hok hl hpp
  have KS := Lib.hid (show ∀ w0 w' : World, Fr no w0 w' → w0.cell? ⟨w.heap.size, 0, none⟩ = some (.slice a0 l0 k0) → w0.cell? ⟨w.heap.size, 1, none⟩ = some (.slice a1 l1 k1) → w0.cell? ⟨w.heap.size, 2, none⟩ = some (.slice a2 l2 k2) → w0.cell? ⟨w.heap.size, 3, none⟩ = some (.int .i64 4) → w0.cell? ⟨w.heap.size, 4, none⟩ = some (.int .i64 o) → w0.cell? ⟨w.heap.size, 5, none⟩ = some (.int .i64 t) → w0.cell? ⟨w.heap.size + 1, 0, none⟩ = some (.int .i64 ax) → w0.cell? ⟨w.heap.size + 1, 1, none⟩ = some (.int .i64 ay) → w0.cell? ⟨w.heap.size + 1 + 1, 0, none⟩ = some (.int .i64 bx) → w0.cell? ⟨w.heap.size + 1 + 1, 1, none⟩ = some (.int .i64 by_) → (w'.cell? ⟨w.heap.size, 0, none⟩ = some (.slice a0 l0 k0) ∧ w'.cell? ⟨w.heap.size, 1, none⟩ = some (.slice a1 l1 k1) ∧ w'.cell? ⟨w.heap.size, 2, none⟩ = some (.slice a2 l2 k2) ∧ w'.cell? ⟨w.heap.size, 3, none⟩ = some (.int .i64 4) ∧ w'.cell? ⟨w.heap.size, 4, none⟩ = some (.int .i64 o) ∧ w'.cell? ⟨w.heap.size, 5, none⟩ = some (.int .i64 t) ∧ w'.cell? ⟨w.heap.size + 1, 0, none⟩ = some (.int .i64 ax) ∧ w'.cell? ⟨w.heap.size + 1, 1, none⟩ = some (.int .i64 ay) ∧ w'.cell? ⟨w.heap.size + 1 + 1, 0, none⟩ = some (.int .i64 bx) ∧ w'.cell? ⟨w.heap.size + 1 + 1, 1, none⟩ = some (.int .i64 by_)) from fun _ _ h a0 a1 a2 a3 a4 a5 a6 a7 a8 a9 => ⟨h.keepc a0, h.keepc a1, h.keepc a2, h.keepc a3, h.keepc a4, h.keepc a5, h.keepc a6, h.keepc a7, h.keepc a8, h.keepc a9⟩)
  obtain ⟨W, hW⟩ : ∃ W, W = (((w.alloc (.cells #[.slice a0 l0 k0, .slice a1 l1 k1, .slice a2 l2 k2, .int .i64 4, .int .i64 o, .int .i64 t] 26 (0, 0))).alloc (.cells #[.int .i64 ax, .int .i64 ay] 42 (0, 0))).alloc (.cells #[.int .i64 bx, .int .i64 by_] 42 (0, 0))) := ⟨_, rfl⟩
  have HF := Lib.hid (show Fr no w W by rw [hW]; exact (((Fr.refl no w).alloc _).alloc _).alloc _)
  have c0 : W.cell? ⟨w.heap.size, 0, none⟩ = some (.slice a0 l0 k0) := by rw [hW]; go_simp
  have c1 : W.cell? ⟨w.heap.size, 1, none⟩ = some (.slice a1 l1 k1) := by rw [hW]; go_simp
  have c2 : W.cell? ⟨w.heap.size, 2, none⟩ = some (.slice a2 l2 k2) := by rw [hW]; go_simp
  have c3 : W.cell? ⟨w.heap.size, 3, none⟩ = some (.int .i64 4) := by rw [hW]; go_simp
  have c4 : W.cell? ⟨w.heap.size, 4, none⟩ = some (.int .i64 o) := by rw [hW]; go_simp
  have c5 : W.cell? ⟨w.heap.size, 5, none⟩ = some (.int .i64 t) := by rw [hW]; go_simp
  have c6 : W.cell? ⟨w.heap.size + 1, 0, none⟩ = some (.int .i64 ax) := by rw [hW]; go_simp
  have c7 : W.cell? ⟨w.heap.size + 1, 1, none⟩ = some (.int .i64 ay) := by rw [hW]; go_simp
  have c8 : W.cell? ⟨w.heap.size + 1 + 1, 0, none⟩ = some (.int .i64 bx) := by rw [hW]; go_simp
  have c9 : W.cell? ⟨w.heap.size + 1 + 1, 1, none⟩ = some (.int .i64 by_) := by rw [hW]; go_simp
  have HW := Lib.hid hW
  clear hW
  go_enter Try.func140, Try.ntmps140
  go_wp2_with fail
  rw [← HW.out]
  refine (K13.out _).mono ?_
  rintro e y1 ⟨rfl, f1⟩
  obtain ⟨d1_0, d1_1, d1_2, d1_3, d1_4, d1_5, d1_6, d1_7, d1_8, d1_9⟩ := KS.out _ _ f1 c0 c1 c2 c3 c4 c5 c6 c7 c8 c9
  have HF1 := Lib.hid (HF.out.noTrans f1)
  clear f1 c0 c1 c2 c3 c4 c5 c6 c7 c8 c9
  go_wp2_with fail
  go_loopw [10, 11] (fun r i wr => ∃ k : Nat, k ≤ l2 ∧ i = .int .i64 k ∧ r = .int .i64 (foldW (p * 100 / q * 100 / q) ((ws.take k).filter (crWR ax ay bx by_))) ∧ Fr no y1 wr) (fun _ i _ => l2 - (intOf i).toNat)
  case atStart => exact ⟨0, Nat.zero_le _, rfl, rfl, Fr.refl _ _⟩
  case round =>
    obtain ⟨k, hk, rfl, rfl, hf⟩ := hrel
    obtain ⟨x0, x1, x2, x3, x4, x5, x6, x7, x8, x9⟩ := KS.out _ _ hf d1_0 d1_1 d1_2 d1_3 d1_4 d1_5 d1_6 d1_7 d1_8 d1_9
    have HF2 := Lib.hid (HF1.out.noTrans hf)
    have HFW := Lib.hid hf
    clear hf d1_0 d1_1 d1_2 d1_3 d1_4 d1_5 d1_6 d1_7 d1_8 d1_9
    by_cases hlt : k < l2
    · obtain ⟨b, off, rfl, e0, e1, e2, e3, e4⟩ := (HWL.out.kept HF2.out).2 k hlt
      have hkI : (k : Int) ≤ 39 := by have := HL.out; omega
      have hkI2 : (k : Int) < (l2 : Int) := by omega
      have HT := Lib.hid (filter_take (crWR ax ay bx by_) ⟨0, 0, 0, 0, 0⟩ ws k (by have := HWL.out.1; omega))
      have HO := all_get wlOk ⟨0, 0, 0, 0, 0⟩ ws k (by have := HWL.out.1; omega) HOK.out
      rw [show ws.getD k ⟨0, 0, 0, 0, 0⟩ = wlAt ws k from rfl] at HT HO
      obtain ⟨n1, n2, n3, n4⟩ := wl_near HO
      have n5 := (wlB_t.1 HO).2.2
      clear HO
      have HC := fun w => KC.out (wlAt ws k).ax (wlAt ws k).ay (wlAt ws k).bx (wlAt ws k).by_ (wlAt ws k).f w n1 n2 n3 n4
      clear n1 n2 n3 n4
      generalize hv : wlAt ws k = v at *
      obtain ⟨cx, cy, dx, dy, f⟩ := v
      simp only at HC e0 e1 e2 e3 e4 n5
      clear hv
      have HBD := foldW_bound (p * 100 / q * 100 / q) ((ws.take k).filter (crWR ax ay bx by_)) (by have := HBB.out; rw [HB.out] at this; exact this.1) (by have := HBB.out; rw [HB.out] at this; exact this.2)
      have HS := Lib.hid (foldW_snoc (p * 100 / q * 100 / q) ((ws.take k).filter (crWR ax ay bx by_)) ⟨cx, cy, dx, dy, f⟩)
      generalize hR : foldW (p * 100 / q * 100 / q) ((ws.take k).filter (crWR ax ay bx by_)) = R at *
      have HR := Lib.hid hR
      clear hR
      obtain ⟨f0, f1⟩ := n5
      obtain ⟨R0, R1'⟩ := HBD
      have R1 : R ≤ 68719476736 := R1'
      have hb := mul_bound R f MX 1000 R0 R1' f0 f1
      have hb2 : R * f ≤ 68719476736000 := hb.2
      have hw : IntKind.i64.wrap (R * f) = R * f := IntWalk.i64_in _ (by omega)
      have hb1 := hb.1
      have tq : Int.tdiv (R * f) 1000 = R * f / 1000 := Int.tdiv_eq_ediv_of_nonneg hb1
      have HSC := Lib.hid (show scV R f = R * f / 1000 by rw [scV, if_pos ⟨isP_t.2 ⟨R0, R1'⟩, inR_t.2 ⟨f0, f1⟩⟩])
      clear hb R1'
      have KS2 := Lib.hid (show ∀ w0 w' : World, Fr no w0 w' → w0.cell? ⟨w.heap.size, 2, none⟩ = some (.slice (some ⟨b, off, none⟩) l2 k2) → w0.cell? ⟨w.heap.size + 1, 0, none⟩ = some (.int .i64 ax) → w0.cell? ⟨w.heap.size + 1, 1, none⟩ = some (.int .i64 ay) → w0.cell? ⟨w.heap.size + 1 + 1, 0, none⟩ = some (.int .i64 bx) → w0.cell? ⟨w.heap.size + 1 + 1, 1, none⟩ = some (.int .i64 by_) → w0.cell? ⟨b, off + k * 5, none⟩ = some (.int .i64 cx) → w0.cell? ⟨b, off + k * 5 + 1, none⟩ = some (.int .i64 cy) → w0.cell? ⟨b, off + k * 5 + 2, none⟩ = some (.int .i64 dx) → w0.cell? ⟨b, off + k * 5 + 3, none⟩ = some (.int .i64 dy) → w0.cell? ⟨b, off + k * 5 + 4, none⟩ = some (.int .i64 f) → (w'.cell? ⟨w.heap.size, 2, none⟩ = some (.slice (some ⟨b, off, none⟩) l2 k2) ∧ w'.cell? ⟨w.heap.size + 1, 0, none⟩ = some (.int .i64 ax) ∧ w'.cell? ⟨w.heap.size + 1, 1, none⟩ = some (.int .i64 ay) ∧ w'.cell? ⟨w.heap.size + 1 + 1, 0, none⟩ = some (.int .i64 bx) ∧ w'.cell? ⟨w.heap.size + 1 + 1, 1, none⟩ = some (.int .i64 by_) ∧ w'.cell? ⟨b, off + k * 5, none⟩ = some (.int .i64 cx) ∧ w'.cell? ⟨b, off + k * 5 + 1, none⟩ = some (.int .i64 cy) ∧ w'.cell? ⟨b, off + k * 5 + 2, none⟩ = some (.int .i64 dx) ∧ w'.cell? ⟨b, off + k * 5 + 3, none⟩ = some (.int .i64 dy) ∧ w'.cell? ⟨b, off + k * 5 + 4, none⟩ = some (.int .i64 f)) from fun _ _ h a0 a1 a2 a3 a4 a5 a6 a7 a8 a9 => ⟨h.keepc a0, h.keepc a1, h.keepc a2, h.keepc a3, h.keepc a4, h.keepc a5, h.keepc a6, h.keepc a7, h.keepc a8, h.keepc a9⟩)
      have g0 := x2
      have g1 := x6
      have g2 := x7
      have g3 := x8
      have g4 := x9
      have g5 := e0
      have g6 := e1
      have g7 := e2
      have g8 := e3
      have g9 := e4
      clear x2 x6 x7 x8 x9 e0 e1 e2 e3 e4
      cases hcr : crR ax ay bx by_ cx cy dx dy
      · rw [hcr] at HC
        have HC := Lib.hid HC
        rw [show crWR ax ay bx by_ ⟨cx, cy, dx, dy, f⟩ = crR ax ay bx by_ cx cy dx dy from rfl, hcr] at HT
        clear hcr
        go_wp2_with fail
        have tokf3 : True := trivial
        go_region_held3 (fun w' => w'.cell? ⟨w.heap.size, 2, none⟩ = some (.slice (some ⟨b, off, none⟩) l2 k2) ∧ w'.cell? ⟨w.heap.size + 1, 0, none⟩ = some (.int .i64 ax) ∧ w'.cell? ⟨w.heap.size + 1, 1, none⟩ = some (.int .i64 ay) ∧ w'.cell? ⟨w.heap.size + 1 + 1, 0, none⟩ = some (.int .i64 bx) ∧ w'.cell? ⟨w.heap.size + 1 + 1, 1, none⟩ = some (.int .i64 by_) ∧ w'.cell? ⟨b, off + k * 5, none⟩ = some (.int .i64 cx) ∧ w'.cell? ⟨b, off + k * 5 + 1, none⟩ = some (.int .i64 cy) ∧ w'.cell? ⟨b, off + k * 5 + 2, none⟩ = some (.int .i64 dx) ∧ w'.cell? ⟨b, off + k * 5 + 3, none⟩ = some (.int .i64 dy) ∧ w'.cell? ⟨b, off + k * 5 + 4, none⟩ = some (.int .i64 f)) (go_keep)
          (first
            | (go_at_call 155; have _tk := tokf3; refine (HC.out _).mono ?_; rintro e w3 ⟨rfl, f3⟩; clear _tk tokf3; obtain ⟨kf30, kf31, kf32, kf33, kf34, kf35, kf36, kf37, kf38, kf39⟩ := KS2.out _ _ f3 g0 g1 g2 g3 g4 g5 g6 g7 g8 g9))
        have HF3 := Lib.hid f3
        clear f3
        go_wp2_with fail
        go_roundw
        case rel => exact ⟨k + 1, by omega, by go_num, by rw [HT.out]; simp [HR.out], HFW.out.drew.noTrans HF3.out⟩
        case measure => simp [intOf]; omega
      · rw [hcr] at HC
        have HC := Lib.hid HC
        rw [show crWR ax ay bx by_ ⟨cx, cy, dx, dy, f⟩ = crR ax ay bx by_ cx cy dx dy from rfl, hcr] at HT
        clear hcr
        go_wp2_with fail
        have tokf3 : True := trivial
        go_region_held3 (fun w' => w'.cell? ⟨w.heap.size, 2, none⟩ = some (.slice (some ⟨b, off, none⟩) l2 k2) ∧ w'.cell? ⟨w.heap.size + 1, 0, none⟩ = some (.int .i64 ax) ∧ w'.cell? ⟨w.heap.size + 1, 1, none⟩ = some (.int .i64 ay) ∧ w'.cell? ⟨w.heap.size + 1 + 1, 0, none⟩ = some (.int .i64 bx) ∧ w'.cell? ⟨w.heap.size + 1 + 1, 1, none⟩ = some (.int .i64 by_) ∧ w'.cell? ⟨b, off + k * 5, none⟩ = some (.int .i64 cx) ∧ w'.cell? ⟨b, off + k * 5 + 1, none⟩ = some (.int .i64 cy) ∧ w'.cell? ⟨b, off + k * 5 + 2, none⟩ = some (.int .i64 dx) ∧ w'.cell? ⟨b, off + k * 5 + 3, none⟩ = some (.int .i64 dy) ∧ w'.cell? ⟨b, off + k * 5 + 4, none⟩ = some (.int .i64 f)) (go_keep)
          (first
            | (go_at_call 155; have _tk := tokf3; refine (HC.out _).mono ?_; rintro e w3 ⟨rfl, f3⟩; clear _tk tokf3; obtain ⟨kf30, kf31, kf32, kf33, kf34, kf35, kf36, kf37, kf38, kf39⟩ := KS2.out _ _ f3 g0 g1 g2 g3 g4 g5 g6 g7 g8 g9))
        have HF3 := Lib.hid f3
        clear f3
        go_wp2_with fail
        go_roundw
        case rel => exact ⟨k + 1, by omega, by go_num, by rw [HT.out, if_pos trivial, HS.out, HSC.out], HFW.out.drew.noTrans HF3.out⟩
        case measure => simp [intOf]; omega
    · have HA := Lib.hid (show (ws.take k).filter (crWR ax ay bx by_) = ws.filter (crWR ax ay bx by_) by rw [List.take_of_length_le (by have := HWL.out.1; omega)])
      go_wp2_with fail
      go_ret
      rw [HA.out, HB.out]
      exact ⟨rfl, HF2.out⟩
set_option maxRecDepth 100000 in
set_option maxHeartbeats 16000000 in
theorem atR_4s (a0 : Option Addr) (l0 k0 : Nat) (a1 : Option Addr) (l1 k1 : Nat) (a2 : Option Addr) (l2 k2 : Nat) (o t : Int) (ax ay bx by_ p q : Int) (ws : List Wl) (w : World) (hw : WlsIn w a2 l2 ws) (hok : ws.all wlOk = true) (hl : l2 ≤ 40) (h1 : nr ax) (h2 : nr ay) (h3 : nr bx) (h4 : nr by_) (hpp : isP p = true)
    (hq : sqF ax ay bx by_ = q) (q1 : q ≤ 3200000000) (q2 : q < 100) :
    Calls Try.prog 140 #[.agg #[.slice a0 l0 k0, .slice a1 l1 k1, .slice a2 l2 k2, .int .i64 4, .int .i64 o, .int .i64 t], .agg #[.int .i64 ax, .int .i64 ay], .int .i64 p, .agg #[.int .i64 bx, .int .i64 by_]] w fun e' w' => e' = .returned (.int .i64 (foldW (arB 4 q p) (ws.filter (crWR ax ay bx by_)))) ∧ Fr no w w' := by
  have HBB := Lib.hid (arB_bound 4 q p hpp)
  obtain ⟨p0, p1'⟩ := isP_t.1 hpp
  have p1 : p ≤ 68719476736 := p1'
  clear p1'
  have K13 := fun w => squareR_any ax ay bx by_ w h1 h2 h3 h4
  rw [hq] at K13
  have K13 := Lib.hid K13
  clear hq
  have KC := Lib.hid (fun (cx cy dx dy f : Int) (w : World) (h5 : nr cx) (h6 : nr cy) (h7 : nr dx) (h8 : nr dy) => crossesR_any ax ay bx by_ cx cy dx dy f w h1 h2 h3 h4 h5 h6 h7 h8)
  obtain ⟨v0, v1⟩ := div_bound p 100 p0 (by omega)
  have hm : p * 100 ≤ 6871947673600 := by omega
  have hm0 : 0 ≤ p * 100 := by omega
  have t1 : Int.tdiv (p * 100) 100 = p * 100 / 100 := Int.tdiv_eq_ediv_of_nonneg hm0
  have t2 : Int.tdiv (p * 100 / 100 * 100) 100 = p * 100 / 100 * 100 / 100 := Int.tdiv_eq_ediv_of_nonneg (by omega)
  obtain ⟨v2, v3⟩ := div_bound (p * 100 / 100) 100 v0 (by omega)
  have z1 : q ≤ 100 := by omega
  have HB := Lib.hid (show arB 4 q p = p by simp only [arB, show arM q = 100 by unfold arM; split <;> omega]; omega)
  have HWL := Lib.hid hw
  have HOK := Lib.hid hok
  have HL := Lib.hid hl
  clear h1 h2 h3 h4 hw hok hl hpp
  have KS := Lib.hid (show ∀ w0 w' : World, Fr no w0 w' → w0.cell? ⟨w.heap.size, 0, none⟩ = some (.slice a0 l0 k0) → w0.cell? ⟨w.heap.size, 1, none⟩ = some (.slice a1 l1 k1) → w0.cell? ⟨w.heap.size, 2, none⟩ = some (.slice a2 l2 k2) → w0.cell? ⟨w.heap.size, 3, none⟩ = some (.int .i64 4) → w0.cell? ⟨w.heap.size, 4, none⟩ = some (.int .i64 o) → w0.cell? ⟨w.heap.size, 5, none⟩ = some (.int .i64 t) → w0.cell? ⟨w.heap.size + 1, 0, none⟩ = some (.int .i64 ax) → w0.cell? ⟨w.heap.size + 1, 1, none⟩ = some (.int .i64 ay) → w0.cell? ⟨w.heap.size + 1 + 1, 0, none⟩ = some (.int .i64 bx) → w0.cell? ⟨w.heap.size + 1 + 1, 1, none⟩ = some (.int .i64 by_) → (w'.cell? ⟨w.heap.size, 0, none⟩ = some (.slice a0 l0 k0) ∧ w'.cell? ⟨w.heap.size, 1, none⟩ = some (.slice a1 l1 k1) ∧ w'.cell? ⟨w.heap.size, 2, none⟩ = some (.slice a2 l2 k2) ∧ w'.cell? ⟨w.heap.size, 3, none⟩ = some (.int .i64 4) ∧ w'.cell? ⟨w.heap.size, 4, none⟩ = some (.int .i64 o) ∧ w'.cell? ⟨w.heap.size, 5, none⟩ = some (.int .i64 t) ∧ w'.cell? ⟨w.heap.size + 1, 0, none⟩ = some (.int .i64 ax) ∧ w'.cell? ⟨w.heap.size + 1, 1, none⟩ = some (.int .i64 ay) ∧ w'.cell? ⟨w.heap.size + 1 + 1, 0, none⟩ = some (.int .i64 bx) ∧ w'.cell? ⟨w.heap.size + 1 + 1, 1, none⟩ = some (.int .i64 by_)) from fun _ _ h a0 a1 a2 a3 a4 a5 a6 a7 a8 a9 => ⟨h.keepc a0, h.keepc a1, h.keepc a2, h.keepc a3, h.keepc a4, h.keepc a5, h.keepc a6, h.keepc a7, h.keepc a8, h.keepc a9⟩)
  obtain ⟨W, hW⟩ : ∃ W, W = (((w.alloc (.cells #[.slice a0 l0 k0, .slice a1 l1 k1, .slice a2 l2 k2, .int .i64 4, .int .i64 o, .int .i64 t] 26 (0, 0))).alloc (.cells #[.int .i64 ax, .int .i64 ay] 42 (0, 0))).alloc (.cells #[.int .i64 bx, .int .i64 by_] 42 (0, 0))) := ⟨_, rfl⟩
  have HF := Lib.hid (show Fr no w W by rw [hW]; exact (((Fr.refl no w).alloc _).alloc _).alloc _)
  have c0 : W.cell? ⟨w.heap.size, 0, none⟩ = some (.slice a0 l0 k0) := by rw [hW]; go_simp
  have c1 : W.cell? ⟨w.heap.size, 1, none⟩ = some (.slice a1 l1 k1) := by rw [hW]; go_simp
  have c2 : W.cell? ⟨w.heap.size, 2, none⟩ = some (.slice a2 l2 k2) := by rw [hW]; go_simp
  have c3 : W.cell? ⟨w.heap.size, 3, none⟩ = some (.int .i64 4) := by rw [hW]; go_simp
  have c4 : W.cell? ⟨w.heap.size, 4, none⟩ = some (.int .i64 o) := by rw [hW]; go_simp
  have c5 : W.cell? ⟨w.heap.size, 5, none⟩ = some (.int .i64 t) := by rw [hW]; go_simp
  have c6 : W.cell? ⟨w.heap.size + 1, 0, none⟩ = some (.int .i64 ax) := by rw [hW]; go_simp
  have c7 : W.cell? ⟨w.heap.size + 1, 1, none⟩ = some (.int .i64 ay) := by rw [hW]; go_simp
  have c8 : W.cell? ⟨w.heap.size + 1 + 1, 0, none⟩ = some (.int .i64 bx) := by rw [hW]; go_simp
  have c9 : W.cell? ⟨w.heap.size + 1 + 1, 1, none⟩ = some (.int .i64 by_) := by rw [hW]; go_simp
  have HW := Lib.hid hW
  clear hW
  go_enter Try.func140, Try.ntmps140
  go_wp2_with fail
  rw [← HW.out]
  refine (K13.out _).mono ?_
  rintro e y1 ⟨rfl, f1⟩
  obtain ⟨d1_0, d1_1, d1_2, d1_3, d1_4, d1_5, d1_6, d1_7, d1_8, d1_9⟩ := KS.out _ _ f1 c0 c1 c2 c3 c4 c5 c6 c7 c8 c9
  have HF1 := Lib.hid (HF.out.noTrans f1)
  clear f1 c0 c1 c2 c3 c4 c5 c6 c7 c8 c9
  go_wp2_with fail
  go_loopw [10, 11] (fun r i wr => ∃ k : Nat, k ≤ l2 ∧ i = .int .i64 k ∧ r = .int .i64 (foldW (p) ((ws.take k).filter (crWR ax ay bx by_))) ∧ Fr no y1 wr) (fun _ i _ => l2 - (intOf i).toNat)
  case atStart => exact ⟨0, Nat.zero_le _, rfl, rfl, Fr.refl _ _⟩
  case round =>
    obtain ⟨k, hk, rfl, rfl, hf⟩ := hrel
    obtain ⟨x0, x1, x2, x3, x4, x5, x6, x7, x8, x9⟩ := KS.out _ _ hf d1_0 d1_1 d1_2 d1_3 d1_4 d1_5 d1_6 d1_7 d1_8 d1_9
    have HF2 := Lib.hid (HF1.out.noTrans hf)
    have HFW := Lib.hid hf
    clear hf d1_0 d1_1 d1_2 d1_3 d1_4 d1_5 d1_6 d1_7 d1_8 d1_9
    by_cases hlt : k < l2
    · obtain ⟨b, off, rfl, e0, e1, e2, e3, e4⟩ := (HWL.out.kept HF2.out).2 k hlt
      have hkI : (k : Int) ≤ 39 := by have := HL.out; omega
      have hkI2 : (k : Int) < (l2 : Int) := by omega
      have HT := Lib.hid (filter_take (crWR ax ay bx by_) ⟨0, 0, 0, 0, 0⟩ ws k (by have := HWL.out.1; omega))
      have HO := all_get wlOk ⟨0, 0, 0, 0, 0⟩ ws k (by have := HWL.out.1; omega) HOK.out
      rw [show ws.getD k ⟨0, 0, 0, 0, 0⟩ = wlAt ws k from rfl] at HT HO
      obtain ⟨n1, n2, n3, n4⟩ := wl_near HO
      have n5 := (wlB_t.1 HO).2.2
      clear HO
      have HC := fun w => KC.out (wlAt ws k).ax (wlAt ws k).ay (wlAt ws k).bx (wlAt ws k).by_ (wlAt ws k).f w n1 n2 n3 n4
      clear n1 n2 n3 n4
      generalize hv : wlAt ws k = v at *
      obtain ⟨cx, cy, dx, dy, f⟩ := v
      simp only at HC e0 e1 e2 e3 e4 n5
      clear hv
      have HBD := foldW_bound (p) ((ws.take k).filter (crWR ax ay bx by_)) (by have := HBB.out; rw [HB.out] at this; exact this.1) (by have := HBB.out; rw [HB.out] at this; exact this.2)
      have HS := Lib.hid (foldW_snoc (p) ((ws.take k).filter (crWR ax ay bx by_)) ⟨cx, cy, dx, dy, f⟩)
      generalize hR : foldW (p) ((ws.take k).filter (crWR ax ay bx by_)) = R at *
      have HR := Lib.hid hR
      clear hR
      obtain ⟨f0, f1⟩ := n5
      obtain ⟨R0, R1'⟩ := HBD
      have R1 : R ≤ 68719476736 := R1'
      have hb := mul_bound R f MX 1000 R0 R1' f0 f1
      have hb2 : R * f ≤ 68719476736000 := hb.2
      have hw : IntKind.i64.wrap (R * f) = R * f := IntWalk.i64_in _ (by omega)
      have hb1 := hb.1
      have tq : Int.tdiv (R * f) 1000 = R * f / 1000 := Int.tdiv_eq_ediv_of_nonneg hb1
      have HSC := Lib.hid (show scV R f = R * f / 1000 by rw [scV, if_pos ⟨isP_t.2 ⟨R0, R1'⟩, inR_t.2 ⟨f0, f1⟩⟩])
      clear hb R1'
      have KS2 := Lib.hid (show ∀ w0 w' : World, Fr no w0 w' → w0.cell? ⟨w.heap.size, 2, none⟩ = some (.slice (some ⟨b, off, none⟩) l2 k2) → w0.cell? ⟨w.heap.size + 1, 0, none⟩ = some (.int .i64 ax) → w0.cell? ⟨w.heap.size + 1, 1, none⟩ = some (.int .i64 ay) → w0.cell? ⟨w.heap.size + 1 + 1, 0, none⟩ = some (.int .i64 bx) → w0.cell? ⟨w.heap.size + 1 + 1, 1, none⟩ = some (.int .i64 by_) → w0.cell? ⟨b, off + k * 5, none⟩ = some (.int .i64 cx) → w0.cell? ⟨b, off + k * 5 + 1, none⟩ = some (.int .i64 cy) → w0.cell? ⟨b, off + k * 5 + 2, none⟩ = some (.int .i64 dx) → w0.cell? ⟨b, off + k * 5 + 3, none⟩ = some (.int .i64 dy) → w0.cell? ⟨b, off + k * 5 + 4, none⟩ = some (.int .i64 f) → (w'.cell? ⟨w.heap.size, 2, none⟩ = some (.slice (some ⟨b, off, none⟩) l2 k2) ∧ w'.cell? ⟨w.heap.size + 1, 0, none⟩ = some (.int .i64 ax) ∧ w'.cell? ⟨w.heap.size + 1, 1, none⟩ = some (.int .i64 ay) ∧ w'.cell? ⟨w.heap.size + 1 + 1, 0, none⟩ = some (.int .i64 bx) ∧ w'.cell? ⟨w.heap.size + 1 + 1, 1, none⟩ = some (.int .i64 by_) ∧ w'.cell? ⟨b, off + k * 5, none⟩ = some (.int .i64 cx) ∧ w'.cell? ⟨b, off + k * 5 + 1, none⟩ = some (.int .i64 cy) ∧ w'.cell? ⟨b, off + k * 5 + 2, none⟩ = some (.int .i64 dx) ∧ w'.cell? ⟨b, off + k * 5 + 3, none⟩ = some (.int .i64 dy) ∧ w'.cell? ⟨b, off + k * 5 + 4, none⟩ = some (.int .i64 f)) from fun _ _ h a0 a1 a2 a3 a4 a5 a6 a7 a8 a9 => ⟨h.keepc a0, h.keepc a1, h.keepc a2, h.keepc a3, h.keepc a4, h.keepc a5, h.keepc a6, h.keepc a7, h.keepc a8, h.keepc a9⟩)
      have g0 := x2
      have g1 := x6
      have g2 := x7
      have g3 := x8
      have g4 := x9
      have g5 := e0
      have g6 := e1
      have g7 := e2
      have g8 := e3
      have g9 := e4
      clear x2 x6 x7 x8 x9 e0 e1 e2 e3 e4
      cases hcr : crR ax ay bx by_ cx cy dx dy
      · rw [hcr] at HC
        have HC := Lib.hid HC
        rw [show crWR ax ay bx by_ ⟨cx, cy, dx, dy, f⟩ = crR ax ay bx by_ cx cy dx dy from rfl, hcr] at HT
        clear hcr
        go_wp2_with fail
        have tokf3 : True := trivial
        go_region_held3 (fun w' => w'.cell? ⟨w.heap.size, 2, none⟩ = some (.slice (some ⟨b, off, none⟩) l2 k2) ∧ w'.cell? ⟨w.heap.size + 1, 0, none⟩ = some (.int .i64 ax) ∧ w'.cell? ⟨w.heap.size + 1, 1, none⟩ = some (.int .i64 ay) ∧ w'.cell? ⟨w.heap.size + 1 + 1, 0, none⟩ = some (.int .i64 bx) ∧ w'.cell? ⟨w.heap.size + 1 + 1, 1, none⟩ = some (.int .i64 by_) ∧ w'.cell? ⟨b, off + k * 5, none⟩ = some (.int .i64 cx) ∧ w'.cell? ⟨b, off + k * 5 + 1, none⟩ = some (.int .i64 cy) ∧ w'.cell? ⟨b, off + k * 5 + 2, none⟩ = some (.int .i64 dx) ∧ w'.cell? ⟨b, off + k * 5 + 3, none⟩ = some (.int .i64 dy) ∧ w'.cell? ⟨b, off + k * 5 + 4, none⟩ = some (.int .i64 f)) (go_keep)
          (first
            | (go_at_call 155; have _tk := tokf3; refine (HC.out _).mono ?_; rintro e w3 ⟨rfl, f3⟩; clear _tk tokf3; obtain ⟨kf30, kf31, kf32, kf33, kf34, kf35, kf36, kf37, kf38, kf39⟩ := KS2.out _ _ f3 g0 g1 g2 g3 g4 g5 g6 g7 g8 g9))
        have HF3 := Lib.hid f3
        clear f3
        go_wp2_with fail
        go_roundw
        case rel => exact ⟨k + 1, by omega, by go_num, by rw [HT.out]; simp [HR.out], HFW.out.drew.noTrans HF3.out⟩
        case measure => simp [intOf]; omega
      · rw [hcr] at HC
        have HC := Lib.hid HC
        rw [show crWR ax ay bx by_ ⟨cx, cy, dx, dy, f⟩ = crR ax ay bx by_ cx cy dx dy from rfl, hcr] at HT
        clear hcr
        go_wp2_with fail
        have tokf3 : True := trivial
        go_region_held3 (fun w' => w'.cell? ⟨w.heap.size, 2, none⟩ = some (.slice (some ⟨b, off, none⟩) l2 k2) ∧ w'.cell? ⟨w.heap.size + 1, 0, none⟩ = some (.int .i64 ax) ∧ w'.cell? ⟨w.heap.size + 1, 1, none⟩ = some (.int .i64 ay) ∧ w'.cell? ⟨w.heap.size + 1 + 1, 0, none⟩ = some (.int .i64 bx) ∧ w'.cell? ⟨w.heap.size + 1 + 1, 1, none⟩ = some (.int .i64 by_) ∧ w'.cell? ⟨b, off + k * 5, none⟩ = some (.int .i64 cx) ∧ w'.cell? ⟨b, off + k * 5 + 1, none⟩ = some (.int .i64 cy) ∧ w'.cell? ⟨b, off + k * 5 + 2, none⟩ = some (.int .i64 dx) ∧ w'.cell? ⟨b, off + k * 5 + 3, none⟩ = some (.int .i64 dy) ∧ w'.cell? ⟨b, off + k * 5 + 4, none⟩ = some (.int .i64 f)) (go_keep)
          (first
            | (go_at_call 155; have _tk := tokf3; refine (HC.out _).mono ?_; rintro e w3 ⟨rfl, f3⟩; clear _tk tokf3; obtain ⟨kf30, kf31, kf32, kf33, kf34, kf35, kf36, kf37, kf38, kf39⟩ := KS2.out _ _ f3 g0 g1 g2 g3 g4 g5 g6 g7 g8 g9))
        have HF3 := Lib.hid f3
        clear f3
        go_wp2_with fail
        go_roundw
        case rel => exact ⟨k + 1, by omega, by go_num, by rw [HT.out, if_pos trivial, HS.out, HSC.out], HFW.out.drew.noTrans HF3.out⟩
        case measure => simp [intOf]; omega
    · have HA := Lib.hid (show (ws.take k).filter (crWR ax ay bx by_) = ws.filter (crWR ax ay bx by_) by rw [List.take_of_length_le (by have := HWL.out.1; omega)])
      go_wp2_with fail
      go_ret
      rw [HA.out, HB.out]
      exact ⟨rfl, HF2.out⟩
set_option maxRecDepth 100000 in
set_option maxHeartbeats 16000000 in
theorem atR_2b (a0 : Option Addr) (l0 k0 : Nat) (a1 : Option Addr) (l1 k1 : Nat) (a2 : Option Addr) (l2 k2 : Nat) (o t : Int) (ax ay bx by_ p q : Int) (ws : List Wl) (w : World) (hw : WlsIn w a2 l2 ws) (hok : ws.all wlOk = true) (hl : l2 ≤ 40) (h1 : nr ax) (h2 : nr ay) (h3 : nr bx) (h4 : nr by_) (hpp : isP p = true)
    (hq : sqF ax ay bx by_ = q) (q1 : q ≤ 3200000000) (q2 : 100 ≤ q) :
    Calls Try.prog 140 #[.agg #[.slice a0 l0 k0, .slice a1 l1 k1, .slice a2 l2 k2, .int .i64 2, .int .i64 o, .int .i64 t], .agg #[.int .i64 ax, .int .i64 ay], .int .i64 p, .agg #[.int .i64 bx, .int .i64 by_]] w fun e' w' => e' = .returned (.int .i64 (foldW (arB 2 q p) (ws.filter (crWR ax ay bx by_)))) ∧ Fr no w w' := by
  have HBB := Lib.hid (arB_bound 2 q p hpp)
  obtain ⟨p0, p1'⟩ := isP_t.1 hpp
  have p1 : p ≤ 68719476736 := p1'
  clear p1'
  have K13 := fun w => squareR_any ax ay bx by_ w h1 h2 h3 h4
  rw [hq] at K13
  have K13 := Lib.hid K13
  clear hq
  have KC := Lib.hid (fun (cx cy dx dy f : Int) (w : World) (h5 : nr cx) (h6 : nr cy) (h7 : nr dx) (h8 : nr dy) => crossesR_any ax ay bx by_ cx cy dx dy f w h1 h2 h3 h4 h5 h6 h7 h8)
  obtain ⟨v0, v1⟩ := div_bound p q p0 (by omega)
  have hm : p * 100 ≤ 6871947673600 := by omega
  have hm0 : 0 ≤ p * 100 := by omega
  have t1 : Int.tdiv (p * 100) q = p * 100 / q := Int.tdiv_eq_ediv_of_nonneg hm0
  have z1 : (q == 0) = false := by rw [beq_eq_false_iff_ne]; omega
  have HB := Lib.hid (show arB 2 q p = p * 100 / q by simp only [arB, show arM q = q by unfold arM; split <;> omega]; rfl)
  have HWL := Lib.hid hw
  have HOK := Lib.hid hok
  have HL := Lib.hid hl
  clear h1 h2 h3 h4 hw hok hl hpp
  have KS := Lib.hid (show ∀ w0 w' : World, Fr no w0 w' → w0.cell? ⟨w.heap.size, 0, none⟩ = some (.slice a0 l0 k0) → w0.cell? ⟨w.heap.size, 1, none⟩ = some (.slice a1 l1 k1) → w0.cell? ⟨w.heap.size, 2, none⟩ = some (.slice a2 l2 k2) → w0.cell? ⟨w.heap.size, 3, none⟩ = some (.int .i64 2) → w0.cell? ⟨w.heap.size, 4, none⟩ = some (.int .i64 o) → w0.cell? ⟨w.heap.size, 5, none⟩ = some (.int .i64 t) → w0.cell? ⟨w.heap.size + 1, 0, none⟩ = some (.int .i64 ax) → w0.cell? ⟨w.heap.size + 1, 1, none⟩ = some (.int .i64 ay) → w0.cell? ⟨w.heap.size + 1 + 1, 0, none⟩ = some (.int .i64 bx) → w0.cell? ⟨w.heap.size + 1 + 1, 1, none⟩ = some (.int .i64 by_) → (w'.cell? ⟨w.heap.size, 0, none⟩ = some (.slice a0 l0 k0) ∧ w'.cell? ⟨w.heap.size, 1, none⟩ = some (.slice a1 l1 k1) ∧ w'.cell? ⟨w.heap.size, 2, none⟩ = some (.slice a2 l2 k2) ∧ w'.cell? ⟨w.heap.size, 3, none⟩ = some (.int .i64 2) ∧ w'.cell? ⟨w.heap.size, 4, none⟩ = some (.int .i64 o) ∧ w'.cell? ⟨w.heap.size, 5, none⟩ = some (.int .i64 t) ∧ w'.cell? ⟨w.heap.size + 1, 0, none⟩ = some (.int .i64 ax) ∧ w'.cell? ⟨w.heap.size + 1, 1, none⟩ = some (.int .i64 ay) ∧ w'.cell? ⟨w.heap.size + 1 + 1, 0, none⟩ = some (.int .i64 bx) ∧ w'.cell? ⟨w.heap.size + 1 + 1, 1, none⟩ = some (.int .i64 by_)) from fun _ _ h a0 a1 a2 a3 a4 a5 a6 a7 a8 a9 => ⟨h.keepc a0, h.keepc a1, h.keepc a2, h.keepc a3, h.keepc a4, h.keepc a5, h.keepc a6, h.keepc a7, h.keepc a8, h.keepc a9⟩)
  obtain ⟨W, hW⟩ : ∃ W, W = (((w.alloc (.cells #[.slice a0 l0 k0, .slice a1 l1 k1, .slice a2 l2 k2, .int .i64 2, .int .i64 o, .int .i64 t] 26 (0, 0))).alloc (.cells #[.int .i64 ax, .int .i64 ay] 42 (0, 0))).alloc (.cells #[.int .i64 bx, .int .i64 by_] 42 (0, 0))) := ⟨_, rfl⟩
  have HF := Lib.hid (show Fr no w W by rw [hW]; exact (((Fr.refl no w).alloc _).alloc _).alloc _)
  have c0 : W.cell? ⟨w.heap.size, 0, none⟩ = some (.slice a0 l0 k0) := by rw [hW]; go_simp
  have c1 : W.cell? ⟨w.heap.size, 1, none⟩ = some (.slice a1 l1 k1) := by rw [hW]; go_simp
  have c2 : W.cell? ⟨w.heap.size, 2, none⟩ = some (.slice a2 l2 k2) := by rw [hW]; go_simp
  have c3 : W.cell? ⟨w.heap.size, 3, none⟩ = some (.int .i64 2) := by rw [hW]; go_simp
  have c4 : W.cell? ⟨w.heap.size, 4, none⟩ = some (.int .i64 o) := by rw [hW]; go_simp
  have c5 : W.cell? ⟨w.heap.size, 5, none⟩ = some (.int .i64 t) := by rw [hW]; go_simp
  have c6 : W.cell? ⟨w.heap.size + 1, 0, none⟩ = some (.int .i64 ax) := by rw [hW]; go_simp
  have c7 : W.cell? ⟨w.heap.size + 1, 1, none⟩ = some (.int .i64 ay) := by rw [hW]; go_simp
  have c8 : W.cell? ⟨w.heap.size + 1 + 1, 0, none⟩ = some (.int .i64 bx) := by rw [hW]; go_simp
  have c9 : W.cell? ⟨w.heap.size + 1 + 1, 1, none⟩ = some (.int .i64 by_) := by rw [hW]; go_simp
  have HW := Lib.hid hW
  clear hW
  go_enter Try.func140, Try.ntmps140
  go_wp2_with fail
  rw [← HW.out]
  refine (K13.out _).mono ?_
  rintro e y1 ⟨rfl, f1⟩
  obtain ⟨d1_0, d1_1, d1_2, d1_3, d1_4, d1_5, d1_6, d1_7, d1_8, d1_9⟩ := KS.out _ _ f1 c0 c1 c2 c3 c4 c5 c6 c7 c8 c9
  have HF1 := Lib.hid (HF.out.noTrans f1)
  clear f1 c0 c1 c2 c3 c4 c5 c6 c7 c8 c9
  go_wp2_with fail
  go_loopw [10, 11] (fun r i wr => ∃ k : Nat, k ≤ l2 ∧ i = .int .i64 k ∧ r = .int .i64 (foldW (p * 100 / q) ((ws.take k).filter (crWR ax ay bx by_))) ∧ Fr no y1 wr) (fun _ i _ => l2 - (intOf i).toNat)
  case atStart => exact ⟨0, Nat.zero_le _, rfl, rfl, Fr.refl _ _⟩
  case round =>
    obtain ⟨k, hk, rfl, rfl, hf⟩ := hrel
    obtain ⟨x0, x1, x2, x3, x4, x5, x6, x7, x8, x9⟩ := KS.out _ _ hf d1_0 d1_1 d1_2 d1_3 d1_4 d1_5 d1_6 d1_7 d1_8 d1_9
    have HF2 := Lib.hid (HF1.out.noTrans hf)
    have HFW := Lib.hid hf
    clear hf d1_0 d1_1 d1_2 d1_3 d1_4 d1_5 d1_6 d1_7 d1_8 d1_9
    by_cases hlt : k < l2
    · obtain ⟨b, off, rfl, e0, e1, e2, e3, e4⟩ := (HWL.out.kept HF2.out).2 k hlt
      have hkI : (k : Int) ≤ 39 := by have := HL.out; omega
      have hkI2 : (k : Int) < (l2 : Int) := by omega
      have HT := Lib.hid (filter_take (crWR ax ay bx by_) ⟨0, 0, 0, 0, 0⟩ ws k (by have := HWL.out.1; omega))
      have HO := all_get wlOk ⟨0, 0, 0, 0, 0⟩ ws k (by have := HWL.out.1; omega) HOK.out
      rw [show ws.getD k ⟨0, 0, 0, 0, 0⟩ = wlAt ws k from rfl] at HT HO
      obtain ⟨n1, n2, n3, n4⟩ := wl_near HO
      have n5 := (wlB_t.1 HO).2.2
      clear HO
      have HC := fun w => KC.out (wlAt ws k).ax (wlAt ws k).ay (wlAt ws k).bx (wlAt ws k).by_ (wlAt ws k).f w n1 n2 n3 n4
      clear n1 n2 n3 n4
      generalize hv : wlAt ws k = v at *
      obtain ⟨cx, cy, dx, dy, f⟩ := v
      simp only at HC e0 e1 e2 e3 e4 n5
      clear hv
      have HBD := foldW_bound (p * 100 / q) ((ws.take k).filter (crWR ax ay bx by_)) (by have := HBB.out; rw [HB.out] at this; exact this.1) (by have := HBB.out; rw [HB.out] at this; exact this.2)
      have HS := Lib.hid (foldW_snoc (p * 100 / q) ((ws.take k).filter (crWR ax ay bx by_)) ⟨cx, cy, dx, dy, f⟩)
      generalize hR : foldW (p * 100 / q) ((ws.take k).filter (crWR ax ay bx by_)) = R at *
      have HR := Lib.hid hR
      clear hR
      obtain ⟨f0, f1⟩ := n5
      obtain ⟨R0, R1'⟩ := HBD
      have R1 : R ≤ 68719476736 := R1'
      have hb := mul_bound R f MX 1000 R0 R1' f0 f1
      have hb2 : R * f ≤ 68719476736000 := hb.2
      have hw : IntKind.i64.wrap (R * f) = R * f := IntWalk.i64_in _ (by omega)
      have hb1 := hb.1
      have tq : Int.tdiv (R * f) 1000 = R * f / 1000 := Int.tdiv_eq_ediv_of_nonneg hb1
      have HSC := Lib.hid (show scV R f = R * f / 1000 by rw [scV, if_pos ⟨isP_t.2 ⟨R0, R1'⟩, inR_t.2 ⟨f0, f1⟩⟩])
      clear hb R1'
      have KS2 := Lib.hid (show ∀ w0 w' : World, Fr no w0 w' → w0.cell? ⟨w.heap.size, 2, none⟩ = some (.slice (some ⟨b, off, none⟩) l2 k2) → w0.cell? ⟨w.heap.size + 1, 0, none⟩ = some (.int .i64 ax) → w0.cell? ⟨w.heap.size + 1, 1, none⟩ = some (.int .i64 ay) → w0.cell? ⟨w.heap.size + 1 + 1, 0, none⟩ = some (.int .i64 bx) → w0.cell? ⟨w.heap.size + 1 + 1, 1, none⟩ = some (.int .i64 by_) → w0.cell? ⟨b, off + k * 5, none⟩ = some (.int .i64 cx) → w0.cell? ⟨b, off + k * 5 + 1, none⟩ = some (.int .i64 cy) → w0.cell? ⟨b, off + k * 5 + 2, none⟩ = some (.int .i64 dx) → w0.cell? ⟨b, off + k * 5 + 3, none⟩ = some (.int .i64 dy) → w0.cell? ⟨b, off + k * 5 + 4, none⟩ = some (.int .i64 f) → (w'.cell? ⟨w.heap.size, 2, none⟩ = some (.slice (some ⟨b, off, none⟩) l2 k2) ∧ w'.cell? ⟨w.heap.size + 1, 0, none⟩ = some (.int .i64 ax) ∧ w'.cell? ⟨w.heap.size + 1, 1, none⟩ = some (.int .i64 ay) ∧ w'.cell? ⟨w.heap.size + 1 + 1, 0, none⟩ = some (.int .i64 bx) ∧ w'.cell? ⟨w.heap.size + 1 + 1, 1, none⟩ = some (.int .i64 by_) ∧ w'.cell? ⟨b, off + k * 5, none⟩ = some (.int .i64 cx) ∧ w'.cell? ⟨b, off + k * 5 + 1, none⟩ = some (.int .i64 cy) ∧ w'.cell? ⟨b, off + k * 5 + 2, none⟩ = some (.int .i64 dx) ∧ w'.cell? ⟨b, off + k * 5 + 3, none⟩ = some (.int .i64 dy) ∧ w'.cell? ⟨b, off + k * 5 + 4, none⟩ = some (.int .i64 f)) from fun _ _ h a0 a1 a2 a3 a4 a5 a6 a7 a8 a9 => ⟨h.keepc a0, h.keepc a1, h.keepc a2, h.keepc a3, h.keepc a4, h.keepc a5, h.keepc a6, h.keepc a7, h.keepc a8, h.keepc a9⟩)
      have g0 := x2
      have g1 := x6
      have g2 := x7
      have g3 := x8
      have g4 := x9
      have g5 := e0
      have g6 := e1
      have g7 := e2
      have g8 := e3
      have g9 := e4
      clear x2 x6 x7 x8 x9 e0 e1 e2 e3 e4
      cases hcr : crR ax ay bx by_ cx cy dx dy
      · rw [hcr] at HC
        have HC := Lib.hid HC
        rw [show crWR ax ay bx by_ ⟨cx, cy, dx, dy, f⟩ = crR ax ay bx by_ cx cy dx dy from rfl, hcr] at HT
        clear hcr
        go_wp2_with fail
        have tokf3 : True := trivial
        go_region_held3 (fun w' => w'.cell? ⟨w.heap.size, 2, none⟩ = some (.slice (some ⟨b, off, none⟩) l2 k2) ∧ w'.cell? ⟨w.heap.size + 1, 0, none⟩ = some (.int .i64 ax) ∧ w'.cell? ⟨w.heap.size + 1, 1, none⟩ = some (.int .i64 ay) ∧ w'.cell? ⟨w.heap.size + 1 + 1, 0, none⟩ = some (.int .i64 bx) ∧ w'.cell? ⟨w.heap.size + 1 + 1, 1, none⟩ = some (.int .i64 by_) ∧ w'.cell? ⟨b, off + k * 5, none⟩ = some (.int .i64 cx) ∧ w'.cell? ⟨b, off + k * 5 + 1, none⟩ = some (.int .i64 cy) ∧ w'.cell? ⟨b, off + k * 5 + 2, none⟩ = some (.int .i64 dx) ∧ w'.cell? ⟨b, off + k * 5 + 3, none⟩ = some (.int .i64 dy) ∧ w'.cell? ⟨b, off + k * 5 + 4, none⟩ = some (.int .i64 f)) (go_keep)
          (first
            | (go_at_call 155; have _tk := tokf3; refine (HC.out _).mono ?_; rintro e w3 ⟨rfl, f3⟩; clear _tk tokf3; obtain ⟨kf30, kf31, kf32, kf33, kf34, kf35, kf36, kf37, kf38, kf39⟩ := KS2.out _ _ f3 g0 g1 g2 g3 g4 g5 g6 g7 g8 g9))
        have HF3 := Lib.hid f3
        clear f3
        go_wp2_with fail
        go_roundw
        case rel => exact ⟨k + 1, by omega, by go_num, by rw [HT.out]; simp [HR.out], HFW.out.drew.noTrans HF3.out⟩
        case measure => simp [intOf]; omega
      · rw [hcr] at HC
        have HC := Lib.hid HC
        rw [show crWR ax ay bx by_ ⟨cx, cy, dx, dy, f⟩ = crR ax ay bx by_ cx cy dx dy from rfl, hcr] at HT
        clear hcr
        go_wp2_with fail
        have tokf3 : True := trivial
        go_region_held3 (fun w' => w'.cell? ⟨w.heap.size, 2, none⟩ = some (.slice (some ⟨b, off, none⟩) l2 k2) ∧ w'.cell? ⟨w.heap.size + 1, 0, none⟩ = some (.int .i64 ax) ∧ w'.cell? ⟨w.heap.size + 1, 1, none⟩ = some (.int .i64 ay) ∧ w'.cell? ⟨w.heap.size + 1 + 1, 0, none⟩ = some (.int .i64 bx) ∧ w'.cell? ⟨w.heap.size + 1 + 1, 1, none⟩ = some (.int .i64 by_) ∧ w'.cell? ⟨b, off + k * 5, none⟩ = some (.int .i64 cx) ∧ w'.cell? ⟨b, off + k * 5 + 1, none⟩ = some (.int .i64 cy) ∧ w'.cell? ⟨b, off + k * 5 + 2, none⟩ = some (.int .i64 dx) ∧ w'.cell? ⟨b, off + k * 5 + 3, none⟩ = some (.int .i64 dy) ∧ w'.cell? ⟨b, off + k * 5 + 4, none⟩ = some (.int .i64 f)) (go_keep)
          (first
            | (go_at_call 155; have _tk := tokf3; refine (HC.out _).mono ?_; rintro e w3 ⟨rfl, f3⟩; clear _tk tokf3; obtain ⟨kf30, kf31, kf32, kf33, kf34, kf35, kf36, kf37, kf38, kf39⟩ := KS2.out _ _ f3 g0 g1 g2 g3 g4 g5 g6 g7 g8 g9))
        have HF3 := Lib.hid f3
        clear f3
        go_wp2_with fail
        go_roundw
        case rel => exact ⟨k + 1, by omega, by go_num, by rw [HT.out, if_pos trivial, HS.out, HSC.out], HFW.out.drew.noTrans HF3.out⟩
        case measure => simp [intOf]; omega
    · have HA := Lib.hid (show (ws.take k).filter (crWR ax ay bx by_) = ws.filter (crWR ax ay bx by_) by rw [List.take_of_length_le (by have := HWL.out.1; omega)])
      go_wp2_with fail
      go_ret
      rw [HA.out, HB.out]
      exact ⟨rfl, HF2.out⟩
set_option maxRecDepth 100000 in
set_option maxHeartbeats 16000000 in
theorem atR_2s (a0 : Option Addr) (l0 k0 : Nat) (a1 : Option Addr) (l1 k1 : Nat) (a2 : Option Addr) (l2 k2 : Nat) (o t : Int) (ax ay bx by_ p q : Int) (ws : List Wl) (w : World) (hw : WlsIn w a2 l2 ws) (hok : ws.all wlOk = true) (hl : l2 ≤ 40) (h1 : nr ax) (h2 : nr ay) (h3 : nr bx) (h4 : nr by_) (hpp : isP p = true)
    (hq : sqF ax ay bx by_ = q) (q1 : q ≤ 3200000000) (q2 : q < 100) :
    Calls Try.prog 140 #[.agg #[.slice a0 l0 k0, .slice a1 l1 k1, .slice a2 l2 k2, .int .i64 2, .int .i64 o, .int .i64 t], .agg #[.int .i64 ax, .int .i64 ay], .int .i64 p, .agg #[.int .i64 bx, .int .i64 by_]] w fun e' w' => e' = .returned (.int .i64 (foldW (arB 2 q p) (ws.filter (crWR ax ay bx by_)))) ∧ Fr no w w' := by
  have HBB := Lib.hid (arB_bound 2 q p hpp)
  obtain ⟨p0, p1'⟩ := isP_t.1 hpp
  have p1 : p ≤ 68719476736 := p1'
  clear p1'
  have K13 := fun w => squareR_any ax ay bx by_ w h1 h2 h3 h4
  rw [hq] at K13
  have K13 := Lib.hid K13
  clear hq
  have KC := Lib.hid (fun (cx cy dx dy f : Int) (w : World) (h5 : nr cx) (h6 : nr cy) (h7 : nr dx) (h8 : nr dy) => crossesR_any ax ay bx by_ cx cy dx dy f w h1 h2 h3 h4 h5 h6 h7 h8)
  obtain ⟨v0, v1⟩ := div_bound p 100 p0 (by omega)
  have hm : p * 100 ≤ 6871947673600 := by omega
  have hm0 : 0 ≤ p * 100 := by omega
  have t1 : Int.tdiv (p * 100) 100 = p * 100 / 100 := Int.tdiv_eq_ediv_of_nonneg hm0
  have z1 : q ≤ 100 := by omega
  have HB := Lib.hid (show arB 2 q p = p by simp only [arB, show arM q = 100 by unfold arM; split <;> omega]; omega)
  have HWL := Lib.hid hw
  have HOK := Lib.hid hok
  have HL := Lib.hid hl
  clear h1 h2 h3 h4 hw hok hl hpp
  have KS := Lib.hid (show ∀ w0 w' : World, Fr no w0 w' → w0.cell? ⟨w.heap.size, 0, none⟩ = some (.slice a0 l0 k0) → w0.cell? ⟨w.heap.size, 1, none⟩ = some (.slice a1 l1 k1) → w0.cell? ⟨w.heap.size, 2, none⟩ = some (.slice a2 l2 k2) → w0.cell? ⟨w.heap.size, 3, none⟩ = some (.int .i64 2) → w0.cell? ⟨w.heap.size, 4, none⟩ = some (.int .i64 o) → w0.cell? ⟨w.heap.size, 5, none⟩ = some (.int .i64 t) → w0.cell? ⟨w.heap.size + 1, 0, none⟩ = some (.int .i64 ax) → w0.cell? ⟨w.heap.size + 1, 1, none⟩ = some (.int .i64 ay) → w0.cell? ⟨w.heap.size + 1 + 1, 0, none⟩ = some (.int .i64 bx) → w0.cell? ⟨w.heap.size + 1 + 1, 1, none⟩ = some (.int .i64 by_) → (w'.cell? ⟨w.heap.size, 0, none⟩ = some (.slice a0 l0 k0) ∧ w'.cell? ⟨w.heap.size, 1, none⟩ = some (.slice a1 l1 k1) ∧ w'.cell? ⟨w.heap.size, 2, none⟩ = some (.slice a2 l2 k2) ∧ w'.cell? ⟨w.heap.size, 3, none⟩ = some (.int .i64 2) ∧ w'.cell? ⟨w.heap.size, 4, none⟩ = some (.int .i64 o) ∧ w'.cell? ⟨w.heap.size, 5, none⟩ = some (.int .i64 t) ∧ w'.cell? ⟨w.heap.size + 1, 0, none⟩ = some (.int .i64 ax) ∧ w'.cell? ⟨w.heap.size + 1, 1, none⟩ = some (.int .i64 ay) ∧ w'.cell? ⟨w.heap.size + 1 + 1, 0, none⟩ = some (.int .i64 bx) ∧ w'.cell? ⟨w.heap.size + 1 + 1, 1, none⟩ = some (.int .i64 by_)) from fun _ _ h a0 a1 a2 a3 a4 a5 a6 a7 a8 a9 => ⟨h.keepc a0, h.keepc a1, h.keepc a2, h.keepc a3, h.keepc a4, h.keepc a5, h.keepc a6, h.keepc a7, h.keepc a8, h.keepc a9⟩)
  obtain ⟨W, hW⟩ : ∃ W, W = (((w.alloc (.cells #[.slice a0 l0 k0, .slice a1 l1 k1, .slice a2 l2 k2, .int .i64 2, .int .i64 o, .int .i64 t] 26 (0, 0))).alloc (.cells #[.int .i64 ax, .int .i64 ay] 42 (0, 0))).alloc (.cells #[.int .i64 bx, .int .i64 by_] 42 (0, 0))) := ⟨_, rfl⟩
  have HF := Lib.hid (show Fr no w W by rw [hW]; exact (((Fr.refl no w).alloc _).alloc _).alloc _)
  have c0 : W.cell? ⟨w.heap.size, 0, none⟩ = some (.slice a0 l0 k0) := by rw [hW]; go_simp
  have c1 : W.cell? ⟨w.heap.size, 1, none⟩ = some (.slice a1 l1 k1) := by rw [hW]; go_simp
  have c2 : W.cell? ⟨w.heap.size, 2, none⟩ = some (.slice a2 l2 k2) := by rw [hW]; go_simp
  have c3 : W.cell? ⟨w.heap.size, 3, none⟩ = some (.int .i64 2) := by rw [hW]; go_simp
  have c4 : W.cell? ⟨w.heap.size, 4, none⟩ = some (.int .i64 o) := by rw [hW]; go_simp
  have c5 : W.cell? ⟨w.heap.size, 5, none⟩ = some (.int .i64 t) := by rw [hW]; go_simp
  have c6 : W.cell? ⟨w.heap.size + 1, 0, none⟩ = some (.int .i64 ax) := by rw [hW]; go_simp
  have c7 : W.cell? ⟨w.heap.size + 1, 1, none⟩ = some (.int .i64 ay) := by rw [hW]; go_simp
  have c8 : W.cell? ⟨w.heap.size + 1 + 1, 0, none⟩ = some (.int .i64 bx) := by rw [hW]; go_simp
  have c9 : W.cell? ⟨w.heap.size + 1 + 1, 1, none⟩ = some (.int .i64 by_) := by rw [hW]; go_simp
  have HW := Lib.hid hW
  clear hW
  go_enter Try.func140, Try.ntmps140
  go_wp2_with fail
  rw [← HW.out]
  refine (K13.out _).mono ?_
  rintro e y1 ⟨rfl, f1⟩
  obtain ⟨d1_0, d1_1, d1_2, d1_3, d1_4, d1_5, d1_6, d1_7, d1_8, d1_9⟩ := KS.out _ _ f1 c0 c1 c2 c3 c4 c5 c6 c7 c8 c9
  have HF1 := Lib.hid (HF.out.noTrans f1)
  clear f1 c0 c1 c2 c3 c4 c5 c6 c7 c8 c9
  go_wp2_with fail
  go_loopw [10, 11] (fun r i wr => ∃ k : Nat, k ≤ l2 ∧ i = .int .i64 k ∧ r = .int .i64 (foldW (p) ((ws.take k).filter (crWR ax ay bx by_))) ∧ Fr no y1 wr) (fun _ i _ => l2 - (intOf i).toNat)
  case atStart => exact ⟨0, Nat.zero_le _, rfl, rfl, Fr.refl _ _⟩
  case round =>
    obtain ⟨k, hk, rfl, rfl, hf⟩ := hrel
    obtain ⟨x0, x1, x2, x3, x4, x5, x6, x7, x8, x9⟩ := KS.out _ _ hf d1_0 d1_1 d1_2 d1_3 d1_4 d1_5 d1_6 d1_7 d1_8 d1_9
    have HF2 := Lib.hid (HF1.out.noTrans hf)
    have HFW := Lib.hid hf
    clear hf d1_0 d1_1 d1_2 d1_3 d1_4 d1_5 d1_6 d1_7 d1_8 d1_9
    by_cases hlt : k < l2
    · obtain ⟨b, off, rfl, e0, e1, e2, e3, e4⟩ := (HWL.out.kept HF2.out).2 k hlt
      have hkI : (k : Int) ≤ 39 := by have := HL.out; omega
      have hkI2 : (k : Int) < (l2 : Int) := by omega
      have HT := Lib.hid (filter_take (crWR ax ay bx by_) ⟨0, 0, 0, 0, 0⟩ ws k (by have := HWL.out.1; omega))
      have HO := all_get wlOk ⟨0, 0, 0, 0, 0⟩ ws k (by have := HWL.out.1; omega) HOK.out
      rw [show ws.getD k ⟨0, 0, 0, 0, 0⟩ = wlAt ws k from rfl] at HT HO
      obtain ⟨n1, n2, n3, n4⟩ := wl_near HO
      have n5 := (wlB_t.1 HO).2.2
      clear HO
      have HC := fun w => KC.out (wlAt ws k).ax (wlAt ws k).ay (wlAt ws k).bx (wlAt ws k).by_ (wlAt ws k).f w n1 n2 n3 n4
      clear n1 n2 n3 n4
      generalize hv : wlAt ws k = v at *
      obtain ⟨cx, cy, dx, dy, f⟩ := v
      simp only at HC e0 e1 e2 e3 e4 n5
      clear hv
      have HBD := foldW_bound (p) ((ws.take k).filter (crWR ax ay bx by_)) (by have := HBB.out; rw [HB.out] at this; exact this.1) (by have := HBB.out; rw [HB.out] at this; exact this.2)
      have HS := Lib.hid (foldW_snoc (p) ((ws.take k).filter (crWR ax ay bx by_)) ⟨cx, cy, dx, dy, f⟩)
      generalize hR : foldW (p) ((ws.take k).filter (crWR ax ay bx by_)) = R at *
      have HR := Lib.hid hR
      clear hR
      obtain ⟨f0, f1⟩ := n5
      obtain ⟨R0, R1'⟩ := HBD
      have R1 : R ≤ 68719476736 := R1'
      have hb := mul_bound R f MX 1000 R0 R1' f0 f1
      have hb2 : R * f ≤ 68719476736000 := hb.2
      have hw : IntKind.i64.wrap (R * f) = R * f := IntWalk.i64_in _ (by omega)
      have hb1 := hb.1
      have tq : Int.tdiv (R * f) 1000 = R * f / 1000 := Int.tdiv_eq_ediv_of_nonneg hb1
      have HSC := Lib.hid (show scV R f = R * f / 1000 by rw [scV, if_pos ⟨isP_t.2 ⟨R0, R1'⟩, inR_t.2 ⟨f0, f1⟩⟩])
      clear hb R1'
      have KS2 := Lib.hid (show ∀ w0 w' : World, Fr no w0 w' → w0.cell? ⟨w.heap.size, 2, none⟩ = some (.slice (some ⟨b, off, none⟩) l2 k2) → w0.cell? ⟨w.heap.size + 1, 0, none⟩ = some (.int .i64 ax) → w0.cell? ⟨w.heap.size + 1, 1, none⟩ = some (.int .i64 ay) → w0.cell? ⟨w.heap.size + 1 + 1, 0, none⟩ = some (.int .i64 bx) → w0.cell? ⟨w.heap.size + 1 + 1, 1, none⟩ = some (.int .i64 by_) → w0.cell? ⟨b, off + k * 5, none⟩ = some (.int .i64 cx) → w0.cell? ⟨b, off + k * 5 + 1, none⟩ = some (.int .i64 cy) → w0.cell? ⟨b, off + k * 5 + 2, none⟩ = some (.int .i64 dx) → w0.cell? ⟨b, off + k * 5 + 3, none⟩ = some (.int .i64 dy) → w0.cell? ⟨b, off + k * 5 + 4, none⟩ = some (.int .i64 f) → (w'.cell? ⟨w.heap.size, 2, none⟩ = some (.slice (some ⟨b, off, none⟩) l2 k2) ∧ w'.cell? ⟨w.heap.size + 1, 0, none⟩ = some (.int .i64 ax) ∧ w'.cell? ⟨w.heap.size + 1, 1, none⟩ = some (.int .i64 ay) ∧ w'.cell? ⟨w.heap.size + 1 + 1, 0, none⟩ = some (.int .i64 bx) ∧ w'.cell? ⟨w.heap.size + 1 + 1, 1, none⟩ = some (.int .i64 by_) ∧ w'.cell? ⟨b, off + k * 5, none⟩ = some (.int .i64 cx) ∧ w'.cell? ⟨b, off + k * 5 + 1, none⟩ = some (.int .i64 cy) ∧ w'.cell? ⟨b, off + k * 5 + 2, none⟩ = some (.int .i64 dx) ∧ w'.cell? ⟨b, off + k * 5 + 3, none⟩ = some (.int .i64 dy) ∧ w'.cell? ⟨b, off + k * 5 + 4, none⟩ = some (.int .i64 f)) from fun _ _ h a0 a1 a2 a3 a4 a5 a6 a7 a8 a9 => ⟨h.keepc a0, h.keepc a1, h.keepc a2, h.keepc a3, h.keepc a4, h.keepc a5, h.keepc a6, h.keepc a7, h.keepc a8, h.keepc a9⟩)
      have g0 := x2
      have g1 := x6
      have g2 := x7
      have g3 := x8
      have g4 := x9
      have g5 := e0
      have g6 := e1
      have g7 := e2
      have g8 := e3
      have g9 := e4
      clear x2 x6 x7 x8 x9 e0 e1 e2 e3 e4
      cases hcr : crR ax ay bx by_ cx cy dx dy
      · rw [hcr] at HC
        have HC := Lib.hid HC
        rw [show crWR ax ay bx by_ ⟨cx, cy, dx, dy, f⟩ = crR ax ay bx by_ cx cy dx dy from rfl, hcr] at HT
        clear hcr
        go_wp2_with fail
        have tokf3 : True := trivial
        go_region_held3 (fun w' => w'.cell? ⟨w.heap.size, 2, none⟩ = some (.slice (some ⟨b, off, none⟩) l2 k2) ∧ w'.cell? ⟨w.heap.size + 1, 0, none⟩ = some (.int .i64 ax) ∧ w'.cell? ⟨w.heap.size + 1, 1, none⟩ = some (.int .i64 ay) ∧ w'.cell? ⟨w.heap.size + 1 + 1, 0, none⟩ = some (.int .i64 bx) ∧ w'.cell? ⟨w.heap.size + 1 + 1, 1, none⟩ = some (.int .i64 by_) ∧ w'.cell? ⟨b, off + k * 5, none⟩ = some (.int .i64 cx) ∧ w'.cell? ⟨b, off + k * 5 + 1, none⟩ = some (.int .i64 cy) ∧ w'.cell? ⟨b, off + k * 5 + 2, none⟩ = some (.int .i64 dx) ∧ w'.cell? ⟨b, off + k * 5 + 3, none⟩ = some (.int .i64 dy) ∧ w'.cell? ⟨b, off + k * 5 + 4, none⟩ = some (.int .i64 f)) (go_keep)
          (first
            | (go_at_call 155; have _tk := tokf3; refine (HC.out _).mono ?_; rintro e w3 ⟨rfl, f3⟩; clear _tk tokf3; obtain ⟨kf30, kf31, kf32, kf33, kf34, kf35, kf36, kf37, kf38, kf39⟩ := KS2.out _ _ f3 g0 g1 g2 g3 g4 g5 g6 g7 g8 g9))
        have HF3 := Lib.hid f3
        clear f3
        go_wp2_with fail
        go_roundw
        case rel => exact ⟨k + 1, by omega, by go_num, by rw [HT.out]; simp [HR.out], HFW.out.drew.noTrans HF3.out⟩
        case measure => simp [intOf]; omega
      · rw [hcr] at HC
        have HC := Lib.hid HC
        rw [show crWR ax ay bx by_ ⟨cx, cy, dx, dy, f⟩ = crR ax ay bx by_ cx cy dx dy from rfl, hcr] at HT
        clear hcr
        go_wp2_with fail
        have tokf3 : True := trivial
        go_region_held3 (fun w' => w'.cell? ⟨w.heap.size, 2, none⟩ = some (.slice (some ⟨b, off, none⟩) l2 k2) ∧ w'.cell? ⟨w.heap.size + 1, 0, none⟩ = some (.int .i64 ax) ∧ w'.cell? ⟨w.heap.size + 1, 1, none⟩ = some (.int .i64 ay) ∧ w'.cell? ⟨w.heap.size + 1 + 1, 0, none⟩ = some (.int .i64 bx) ∧ w'.cell? ⟨w.heap.size + 1 + 1, 1, none⟩ = some (.int .i64 by_) ∧ w'.cell? ⟨b, off + k * 5, none⟩ = some (.int .i64 cx) ∧ w'.cell? ⟨b, off + k * 5 + 1, none⟩ = some (.int .i64 cy) ∧ w'.cell? ⟨b, off + k * 5 + 2, none⟩ = some (.int .i64 dx) ∧ w'.cell? ⟨b, off + k * 5 + 3, none⟩ = some (.int .i64 dy) ∧ w'.cell? ⟨b, off + k * 5 + 4, none⟩ = some (.int .i64 f)) (go_keep)
          (first
            | (go_at_call 155; have _tk := tokf3; refine (HC.out _).mono ?_; rintro e w3 ⟨rfl, f3⟩; clear _tk tokf3; obtain ⟨kf30, kf31, kf32, kf33, kf34, kf35, kf36, kf37, kf38, kf39⟩ := KS2.out _ _ f3 g0 g1 g2 g3 g4 g5 g6 g7 g8 g9))
        have HF3 := Lib.hid f3
        clear f3
        go_wp2_with fail
        go_roundw
        case rel => exact ⟨k + 1, by omega, by go_num, by rw [HT.out, if_pos trivial, HS.out, HSC.out], HFW.out.drew.noTrans HF3.out⟩
        case measure => simp [intOf]; omega
    · have HA := Lib.hid (show (ws.take k).filter (crWR ax ay bx by_) = ws.filter (crWR ax ay bx by_) by rw [List.take_of_length_le (by have := HWL.out.1; omega)])
      go_wp2_with fail
      go_ret
      rw [HA.out, HB.out]
      exact ⟨rfl, HF2.out⟩
end Go.Proofs.Ytdenlinehjigaaa
