/- At, Between, and those of the document. -/
import Derived.Test.YtdenlinehjigaaaAtR
import Derived.Test.YtdenlinehjigaaaMth
namespace Go.Proofs.Ytdenlinehjigaaa
open Go.RowKit

theorem crWR_eq (ax ay bx by_ : Int) : crWR ax ay bx by_ = crW ax ay bx by_ := funext fun v => crB_crR ax ay bx by_ v.ax v.ay v.bx v.by_
theorem atR_any (a0 : Option Addr) (l0 k0 : Nat) (a1 : Option Addr) (l1 k1 : Nat) (a2 : Option Addr) (l2 k2 : Nat) (e o t : Int) (ax ay bx by_ p : Int) (ws : List Wl) (w : World) (he : e = 2 ∨ e = 4) (hw : WlsIn w a2 l2 ws) (hok : ws.all wlOk = true) (hl : l2 ≤ 40) (h1 : nr ax) (h2 : nr ay) (h3 : nr bx) (h4 : nr by_) (hp : isP p = true) :
    Calls Try.prog 140 #[.agg #[.slice a0 l0 k0, .slice a1 l1 k1, .slice a2 l2 k2, .int .i64 e, .int .i64 o, .int .i64 t], .agg #[.int .i64 ax, .int .i64 ay], .int .i64 p, .agg #[.int .i64 bx, .int .i64 by_]] w fun e' w' => e' = .returned (.int .i64 (arF e ax ay bx by_ p ws)) ∧ Fr no w w' := by
  have q1 := (sq_bound ax ay bx by_ h1 h2 h3 h4).2
  unfold arF
  rw [← crWR_eq]
  rcases he with rfl | rfl <;> rcases (show 100 ≤ sqF ax ay bx by_ ∨ sqF ax ay bx by_ < 100 by omega) with q2 | q2
  · exact atR_2b a0 l0 k0 a1 l1 k1 a2 l2 k2 o t ax ay bx by_ p _ ws w hw hok hl h1 h2 h3 h4 hp rfl q1 q2
  · exact atR_2s a0 l0 k0 a1 l1 k1 a2 l2 k2 o t ax ay bx by_ p _ ws w hw hok hl h1 h2 h3 h4 hp rfl q1 q2
  · exact atR_4b a0 l0 k0 a1 l1 k1 a2 l2 k2 o t ax ay bx by_ p _ ws w hw hok hl h1 h2 h3 h4 hp rfl q1 q2
  · exact atR_4s a0 l0 k0 a1 l1 k1 a2 l2 k2 o t ax ay bx by_ p _ ws w hw hok hl h1 h2 h3 h4 hp rfl q1 q2

structure Good (l0 l1 l2 : Nat) (e o t : Int) (ps : List Pt) (zs : List Int) (ws : List Wl) : Prop where
  n0 : 2 ≤ l0
  n1 : l0 ≤ 32
  n2 : l1 = l0
  n3 : l2 ≤ 32
  ex : e = 2 ∨ e = 4
  t0 : 1000 ≤ t
  t1 : t ≤ 100000
  o0 : 1 ≤ o
  o1 : o ≤ 68719476736
  ps : ps.all ptOk = true
  zs : zs.all isP = true
  ws : ws.all wlOk = true
theorem ckB_t {l0 l1 l2 : Nat} {e o t : Int} {ps : List Pt} {zs : List Int} {ws : List Wl} (h : ckB l0 l1 l2 e o t ps zs ws = true) : Good l0 l1 l2 e o t ps zs ws := by
  simp only [ckB, Bool.and_eq_true, decide_eq_true_eq, inR_t] at h
  obtain ⟨⟨a, b⟩, c, d, e1, ⟨f, g⟩, ⟨i, j⟩, k, l, m⟩ := h
  exact ⟨by omega, by omega, c, d, e1, f, g, i, j, k, l, m⟩
/-- What At returns. -/
def atB (B : Bool) (ax ay bx by_ p : Int) : Bool := B && (ptB ax ay && (ptB bx by_ && isP p))
def atV (B : Bool) (e ax ay bx by_ p : Int) (ws : List Wl) : Int := if atB B ax ay bx by_ p = true then arF e ax ay bx by_ p ws else 0
def atE (B : Bool) (ax ay bx by_ p : Int) : Int := if B = true then (if atB B ax ay bx by_ p = true then 0 else 2) else 1
theorem pt_near {x y : Int} (h : ptB x y = true) : nr x ∧ nr y := by
  obtain ⟨⟨a, b⟩, c, d⟩ := ptB_t.1 h
  exact ⟨near_of a b, near_of c d⟩
set_option maxHeartbeats 4000000 in
theorem at_0 (a0 : Option Addr) (l0 k0 : Nat) (a1 : Option Addr) (l1 k1 : Nat) (a2 : Option Addr) (l2 k2 : Nat) (e o t : Int) (ps : List Pt) (zs : List Int) (ws : List Wl) (ax ay bx by_ p : Int) (w : World) (hp : PtsIn w a0 l0 ps) (hz : IntsIn w a1 l1 zs) (hw : WlsIn w a2 l2 ws) (g0 : ckB l0 l1 l2 e o t ps zs ws = false) :
    Calls Try.prog 25 #[.agg #[.slice a0 l0 k0, .slice a1 l1 k1, .slice a2 l2 k2, .int .i64 e, .int .i64 o, .int .i64 t], .agg #[.int .i64 ax, .int .i64 ay], .int .i64 p, .agg #[.int .i64 bx, .int .i64 by_]] w fun e' w' => e' = .returned (.tuple #[.int .i64 0, .int .i64 1]) ∧ Fr no w w' := by
  have K0 := Lib.hid (fun (w' : World) (h : Fr no w w') => check_any a0 l0 k0 a1 l1 k1 a2 l2 k2 e o t ps zs ws w' (hp.kept h) (hz.kept h) (hw.kept h))
  rw [g0] at K0
  clear hp hz hw g0
  have KS := Lib.hid (show ∀ w0 w' : World, Fr no w0 w' → w0.cell? ⟨w.heap.size, 0, none⟩ = some (.slice a0 l0 k0) → w0.cell? ⟨w.heap.size, 1, none⟩ = some (.slice a1 l1 k1) → w0.cell? ⟨w.heap.size, 2, none⟩ = some (.slice a2 l2 k2) → w0.cell? ⟨w.heap.size, 3, none⟩ = some (.int .i64 e) → w0.cell? ⟨w.heap.size, 4, none⟩ = some (.int .i64 o) → w0.cell? ⟨w.heap.size, 5, none⟩ = some (.int .i64 t) → w0.cell? ⟨w.heap.size + 1, 0, none⟩ = some (.int .i64 ax) → w0.cell? ⟨w.heap.size + 1, 1, none⟩ = some (.int .i64 ay) → w0.cell? ⟨w.heap.size + 1 + 1, 0, none⟩ = some (.int .i64 bx) → w0.cell? ⟨w.heap.size + 1 + 1, 1, none⟩ = some (.int .i64 by_) → (w'.cell? ⟨w.heap.size, 0, none⟩ = some (.slice a0 l0 k0) ∧ w'.cell? ⟨w.heap.size, 1, none⟩ = some (.slice a1 l1 k1) ∧ w'.cell? ⟨w.heap.size, 2, none⟩ = some (.slice a2 l2 k2) ∧ w'.cell? ⟨w.heap.size, 3, none⟩ = some (.int .i64 e) ∧ w'.cell? ⟨w.heap.size, 4, none⟩ = some (.int .i64 o) ∧ w'.cell? ⟨w.heap.size, 5, none⟩ = some (.int .i64 t) ∧ w'.cell? ⟨w.heap.size + 1, 0, none⟩ = some (.int .i64 ax) ∧ w'.cell? ⟨w.heap.size + 1, 1, none⟩ = some (.int .i64 ay) ∧ w'.cell? ⟨w.heap.size + 1 + 1, 0, none⟩ = some (.int .i64 bx) ∧ w'.cell? ⟨w.heap.size + 1 + 1, 1, none⟩ = some (.int .i64 by_)) from fun _ _ h a0 a1 a2 a3 a4 a5 a6 a7 a8 a9 => ⟨h.keepc a0, h.keepc a1, h.keepc a2, h.keepc a3, h.keepc a4, h.keepc a5, h.keepc a6, h.keepc a7, h.keepc a8, h.keepc a9⟩)
  obtain ⟨W, hW⟩ : ∃ W, W = (((w.alloc (.cells #[.slice a0 l0 k0, .slice a1 l1 k1, .slice a2 l2 k2, .int .i64 e, .int .i64 o, .int .i64 t] 26 (0, 0))).alloc (.cells #[.int .i64 ax, .int .i64 ay] 42 (0, 0))).alloc (.cells #[.int .i64 bx, .int .i64 by_] 42 (0, 0))) := ⟨_, rfl⟩
  have HF := Lib.hid (show Fr no w W by rw [hW]; exact (((Fr.refl no w).alloc _).alloc _).alloc _)
  have c0 : W.cell? ⟨w.heap.size, 0, none⟩ = some (.slice a0 l0 k0) := by rw [hW]; go_simp
  have c1 : W.cell? ⟨w.heap.size, 1, none⟩ = some (.slice a1 l1 k1) := by rw [hW]; go_simp
  have c2 : W.cell? ⟨w.heap.size, 2, none⟩ = some (.slice a2 l2 k2) := by rw [hW]; go_simp
  have c3 : W.cell? ⟨w.heap.size, 3, none⟩ = some (.int .i64 e) := by rw [hW]; go_simp
  have c4 : W.cell? ⟨w.heap.size, 4, none⟩ = some (.int .i64 o) := by rw [hW]; go_simp
  have c5 : W.cell? ⟨w.heap.size, 5, none⟩ = some (.int .i64 t) := by rw [hW]; go_simp
  have c6 : W.cell? ⟨w.heap.size + 1, 0, none⟩ = some (.int .i64 ax) := by rw [hW]; go_simp
  have c7 : W.cell? ⟨w.heap.size + 1, 1, none⟩ = some (.int .i64 ay) := by rw [hW]; go_simp
  have c8 : W.cell? ⟨w.heap.size + 1 + 1, 0, none⟩ = some (.int .i64 bx) := by rw [hW]; go_simp
  have c9 : W.cell? ⟨w.heap.size + 1 + 1, 1, none⟩ = some (.int .i64 by_) := by rw [hW]; go_simp
  have HW := Lib.hid hW
  clear hW
  go_enter Try.func25, Try.ntmps25
  go_wp2_with fail
  rw [← HW.out]
  refine (K0.out _ HF.out).mono ?_
  rintro e y1 ⟨rfl, f1⟩
  obtain ⟨d1_0, d1_1, d1_2, d1_3, d1_4, d1_5, d1_6, d1_7, d1_8, d1_9⟩ := KS.out _ _ f1 c0 c1 c2 c3 c4 c5 c6 c7 c8 c9
  have HF1 := Lib.hid (HF.out.noTrans f1)
  clear f1 c0 c1 c2 c3 c4 c5 c6 c7 c8 c9
  go_wp2_with fail
  go_ret2
  exact ⟨rfl, HF1.out⟩
set_option maxHeartbeats 4000000 in
theorem at_1 (a0 : Option Addr) (l0 k0 : Nat) (a1 : Option Addr) (l1 k1 : Nat) (a2 : Option Addr) (l2 k2 : Nat) (e o t : Int) (ps : List Pt) (zs : List Int) (ws : List Wl) (ax ay bx by_ p : Int) (w : World) (hp : PtsIn w a0 l0 ps) (hz : IntsIn w a1 l1 zs) (hw : WlsIn w a2 l2 ws) (g0 : ckB l0 l1 l2 e o t ps zs ws = true) (g1 : ptB ax ay = false) :
    Calls Try.prog 25 #[.agg #[.slice a0 l0 k0, .slice a1 l1 k1, .slice a2 l2 k2, .int .i64 e, .int .i64 o, .int .i64 t], .agg #[.int .i64 ax, .int .i64 ay], .int .i64 p, .agg #[.int .i64 bx, .int .i64 by_]] w fun e' w' => e' = .returned (.tuple #[.int .i64 0, .int .i64 2]) ∧ Fr no w w' := by
  have K0 := Lib.hid (fun (w' : World) (h : Fr no w w') => check_any a0 l0 k0 a1 l1 k1 a2 l2 k2 e o t ps zs ws w' (hp.kept h) (hz.kept h) (hw.kept h))
  rw [g0] at K0
  have K1 := Lib.hid (fun w => isPoint_any ax ay w)
  rw [g1] at K1
  clear hp hz hw g0 g1
  have KS := Lib.hid (show ∀ w0 w' : World, Fr no w0 w' → w0.cell? ⟨w.heap.size, 0, none⟩ = some (.slice a0 l0 k0) → w0.cell? ⟨w.heap.size, 1, none⟩ = some (.slice a1 l1 k1) → w0.cell? ⟨w.heap.size, 2, none⟩ = some (.slice a2 l2 k2) → w0.cell? ⟨w.heap.size, 3, none⟩ = some (.int .i64 e) → w0.cell? ⟨w.heap.size, 4, none⟩ = some (.int .i64 o) → w0.cell? ⟨w.heap.size, 5, none⟩ = some (.int .i64 t) → w0.cell? ⟨w.heap.size + 1, 0, none⟩ = some (.int .i64 ax) → w0.cell? ⟨w.heap.size + 1, 1, none⟩ = some (.int .i64 ay) → w0.cell? ⟨w.heap.size + 1 + 1, 0, none⟩ = some (.int .i64 bx) → w0.cell? ⟨w.heap.size + 1 + 1, 1, none⟩ = some (.int .i64 by_) → (w'.cell? ⟨w.heap.size, 0, none⟩ = some (.slice a0 l0 k0) ∧ w'.cell? ⟨w.heap.size, 1, none⟩ = some (.slice a1 l1 k1) ∧ w'.cell? ⟨w.heap.size, 2, none⟩ = some (.slice a2 l2 k2) ∧ w'.cell? ⟨w.heap.size, 3, none⟩ = some (.int .i64 e) ∧ w'.cell? ⟨w.heap.size, 4, none⟩ = some (.int .i64 o) ∧ w'.cell? ⟨w.heap.size, 5, none⟩ = some (.int .i64 t) ∧ w'.cell? ⟨w.heap.size + 1, 0, none⟩ = some (.int .i64 ax) ∧ w'.cell? ⟨w.heap.size + 1, 1, none⟩ = some (.int .i64 ay) ∧ w'.cell? ⟨w.heap.size + 1 + 1, 0, none⟩ = some (.int .i64 bx) ∧ w'.cell? ⟨w.heap.size + 1 + 1, 1, none⟩ = some (.int .i64 by_)) from fun _ _ h a0 a1 a2 a3 a4 a5 a6 a7 a8 a9 => ⟨h.keepc a0, h.keepc a1, h.keepc a2, h.keepc a3, h.keepc a4, h.keepc a5, h.keepc a6, h.keepc a7, h.keepc a8, h.keepc a9⟩)
  obtain ⟨W, hW⟩ : ∃ W, W = (((w.alloc (.cells #[.slice a0 l0 k0, .slice a1 l1 k1, .slice a2 l2 k2, .int .i64 e, .int .i64 o, .int .i64 t] 26 (0, 0))).alloc (.cells #[.int .i64 ax, .int .i64 ay] 42 (0, 0))).alloc (.cells #[.int .i64 bx, .int .i64 by_] 42 (0, 0))) := ⟨_, rfl⟩
  have HF := Lib.hid (show Fr no w W by rw [hW]; exact (((Fr.refl no w).alloc _).alloc _).alloc _)
  have c0 : W.cell? ⟨w.heap.size, 0, none⟩ = some (.slice a0 l0 k0) := by rw [hW]; go_simp
  have c1 : W.cell? ⟨w.heap.size, 1, none⟩ = some (.slice a1 l1 k1) := by rw [hW]; go_simp
  have c2 : W.cell? ⟨w.heap.size, 2, none⟩ = some (.slice a2 l2 k2) := by rw [hW]; go_simp
  have c3 : W.cell? ⟨w.heap.size, 3, none⟩ = some (.int .i64 e) := by rw [hW]; go_simp
  have c4 : W.cell? ⟨w.heap.size, 4, none⟩ = some (.int .i64 o) := by rw [hW]; go_simp
  have c5 : W.cell? ⟨w.heap.size, 5, none⟩ = some (.int .i64 t) := by rw [hW]; go_simp
  have c6 : W.cell? ⟨w.heap.size + 1, 0, none⟩ = some (.int .i64 ax) := by rw [hW]; go_simp
  have c7 : W.cell? ⟨w.heap.size + 1, 1, none⟩ = some (.int .i64 ay) := by rw [hW]; go_simp
  have c8 : W.cell? ⟨w.heap.size + 1 + 1, 0, none⟩ = some (.int .i64 bx) := by rw [hW]; go_simp
  have c9 : W.cell? ⟨w.heap.size + 1 + 1, 1, none⟩ = some (.int .i64 by_) := by rw [hW]; go_simp
  have HW := Lib.hid hW
  clear hW
  go_enter Try.func25, Try.ntmps25
  go_wp2_with fail
  rw [← HW.out]
  refine (K0.out _ HF.out).mono ?_
  rintro e y1 ⟨rfl, f1⟩
  obtain ⟨d1_0, d1_1, d1_2, d1_3, d1_4, d1_5, d1_6, d1_7, d1_8, d1_9⟩ := KS.out _ _ f1 c0 c1 c2 c3 c4 c5 c6 c7 c8 c9
  have HF1 := Lib.hid (HF.out.noTrans f1)
  clear f1 c0 c1 c2 c3 c4 c5 c6 c7 c8 c9
  go_wp2_with fail
  refine (K1.out _).mono ?_
  rintro e y2 ⟨rfl, f2⟩
  obtain ⟨d2_0, d2_1, d2_2, d2_3, d2_4, d2_5, d2_6, d2_7, d2_8, d2_9⟩ := KS.out _ _ f2 d1_0 d1_1 d1_2 d1_3 d1_4 d1_5 d1_6 d1_7 d1_8 d1_9
  have HF2 := Lib.hid (HF1.out.noTrans f2)
  clear f2 d1_0 d1_1 d1_2 d1_3 d1_4 d1_5 d1_6 d1_7 d1_8 d1_9
  go_wp2_with fail
  go_ret2
  exact ⟨rfl, HF2.out⟩
set_option maxHeartbeats 4000000 in
theorem at_2 (a0 : Option Addr) (l0 k0 : Nat) (a1 : Option Addr) (l1 k1 : Nat) (a2 : Option Addr) (l2 k2 : Nat) (e o t : Int) (ps : List Pt) (zs : List Int) (ws : List Wl) (ax ay bx by_ p : Int) (w : World) (hp : PtsIn w a0 l0 ps) (hz : IntsIn w a1 l1 zs) (hw : WlsIn w a2 l2 ws) (g0 : ckB l0 l1 l2 e o t ps zs ws = true) (g1 : ptB ax ay = true) (g2 : ptB bx by_ = false) :
    Calls Try.prog 25 #[.agg #[.slice a0 l0 k0, .slice a1 l1 k1, .slice a2 l2 k2, .int .i64 e, .int .i64 o, .int .i64 t], .agg #[.int .i64 ax, .int .i64 ay], .int .i64 p, .agg #[.int .i64 bx, .int .i64 by_]] w fun e' w' => e' = .returned (.tuple #[.int .i64 0, .int .i64 2]) ∧ Fr no w w' := by
  have K0 := Lib.hid (fun (w' : World) (h : Fr no w w') => check_any a0 l0 k0 a1 l1 k1 a2 l2 k2 e o t ps zs ws w' (hp.kept h) (hz.kept h) (hw.kept h))
  rw [g0] at K0
  have K1 := Lib.hid (fun w => isPoint_any ax ay w)
  rw [g1] at K1
  have K2 := Lib.hid (fun w => isPoint_any bx by_ w)
  rw [g2] at K2
  clear hp hz hw g0 g1 g2
  have KS := Lib.hid (show ∀ w0 w' : World, Fr no w0 w' → w0.cell? ⟨w.heap.size, 0, none⟩ = some (.slice a0 l0 k0) → w0.cell? ⟨w.heap.size, 1, none⟩ = some (.slice a1 l1 k1) → w0.cell? ⟨w.heap.size, 2, none⟩ = some (.slice a2 l2 k2) → w0.cell? ⟨w.heap.size, 3, none⟩ = some (.int .i64 e) → w0.cell? ⟨w.heap.size, 4, none⟩ = some (.int .i64 o) → w0.cell? ⟨w.heap.size, 5, none⟩ = some (.int .i64 t) → w0.cell? ⟨w.heap.size + 1, 0, none⟩ = some (.int .i64 ax) → w0.cell? ⟨w.heap.size + 1, 1, none⟩ = some (.int .i64 ay) → w0.cell? ⟨w.heap.size + 1 + 1, 0, none⟩ = some (.int .i64 bx) → w0.cell? ⟨w.heap.size + 1 + 1, 1, none⟩ = some (.int .i64 by_) → (w'.cell? ⟨w.heap.size, 0, none⟩ = some (.slice a0 l0 k0) ∧ w'.cell? ⟨w.heap.size, 1, none⟩ = some (.slice a1 l1 k1) ∧ w'.cell? ⟨w.heap.size, 2, none⟩ = some (.slice a2 l2 k2) ∧ w'.cell? ⟨w.heap.size, 3, none⟩ = some (.int .i64 e) ∧ w'.cell? ⟨w.heap.size, 4, none⟩ = some (.int .i64 o) ∧ w'.cell? ⟨w.heap.size, 5, none⟩ = some (.int .i64 t) ∧ w'.cell? ⟨w.heap.size + 1, 0, none⟩ = some (.int .i64 ax) ∧ w'.cell? ⟨w.heap.size + 1, 1, none⟩ = some (.int .i64 ay) ∧ w'.cell? ⟨w.heap.size + 1 + 1, 0, none⟩ = some (.int .i64 bx) ∧ w'.cell? ⟨w.heap.size + 1 + 1, 1, none⟩ = some (.int .i64 by_)) from fun _ _ h a0 a1 a2 a3 a4 a5 a6 a7 a8 a9 => ⟨h.keepc a0, h.keepc a1, h.keepc a2, h.keepc a3, h.keepc a4, h.keepc a5, h.keepc a6, h.keepc a7, h.keepc a8, h.keepc a9⟩)
  obtain ⟨W, hW⟩ : ∃ W, W = (((w.alloc (.cells #[.slice a0 l0 k0, .slice a1 l1 k1, .slice a2 l2 k2, .int .i64 e, .int .i64 o, .int .i64 t] 26 (0, 0))).alloc (.cells #[.int .i64 ax, .int .i64 ay] 42 (0, 0))).alloc (.cells #[.int .i64 bx, .int .i64 by_] 42 (0, 0))) := ⟨_, rfl⟩
  have HF := Lib.hid (show Fr no w W by rw [hW]; exact (((Fr.refl no w).alloc _).alloc _).alloc _)
  have c0 : W.cell? ⟨w.heap.size, 0, none⟩ = some (.slice a0 l0 k0) := by rw [hW]; go_simp
  have c1 : W.cell? ⟨w.heap.size, 1, none⟩ = some (.slice a1 l1 k1) := by rw [hW]; go_simp
  have c2 : W.cell? ⟨w.heap.size, 2, none⟩ = some (.slice a2 l2 k2) := by rw [hW]; go_simp
  have c3 : W.cell? ⟨w.heap.size, 3, none⟩ = some (.int .i64 e) := by rw [hW]; go_simp
  have c4 : W.cell? ⟨w.heap.size, 4, none⟩ = some (.int .i64 o) := by rw [hW]; go_simp
  have c5 : W.cell? ⟨w.heap.size, 5, none⟩ = some (.int .i64 t) := by rw [hW]; go_simp
  have c6 : W.cell? ⟨w.heap.size + 1, 0, none⟩ = some (.int .i64 ax) := by rw [hW]; go_simp
  have c7 : W.cell? ⟨w.heap.size + 1, 1, none⟩ = some (.int .i64 ay) := by rw [hW]; go_simp
  have c8 : W.cell? ⟨w.heap.size + 1 + 1, 0, none⟩ = some (.int .i64 bx) := by rw [hW]; go_simp
  have c9 : W.cell? ⟨w.heap.size + 1 + 1, 1, none⟩ = some (.int .i64 by_) := by rw [hW]; go_simp
  have HW := Lib.hid hW
  clear hW
  go_enter Try.func25, Try.ntmps25
  go_wp2_with fail
  rw [← HW.out]
  refine (K0.out _ HF.out).mono ?_
  rintro e y1 ⟨rfl, f1⟩
  obtain ⟨d1_0, d1_1, d1_2, d1_3, d1_4, d1_5, d1_6, d1_7, d1_8, d1_9⟩ := KS.out _ _ f1 c0 c1 c2 c3 c4 c5 c6 c7 c8 c9
  have HF1 := Lib.hid (HF.out.noTrans f1)
  clear f1 c0 c1 c2 c3 c4 c5 c6 c7 c8 c9
  go_wp2_with fail
  refine (K1.out _).mono ?_
  rintro e y2 ⟨rfl, f2⟩
  obtain ⟨d2_0, d2_1, d2_2, d2_3, d2_4, d2_5, d2_6, d2_7, d2_8, d2_9⟩ := KS.out _ _ f2 d1_0 d1_1 d1_2 d1_3 d1_4 d1_5 d1_6 d1_7 d1_8 d1_9
  have HF2 := Lib.hid (HF1.out.noTrans f2)
  clear f2 d1_0 d1_1 d1_2 d1_3 d1_4 d1_5 d1_6 d1_7 d1_8 d1_9
  go_wp2_with fail
  refine (K2.out _).mono ?_
  rintro e y3 ⟨rfl, f3⟩
  obtain ⟨d3_0, d3_1, d3_2, d3_3, d3_4, d3_5, d3_6, d3_7, d3_8, d3_9⟩ := KS.out _ _ f3 d2_0 d2_1 d2_2 d2_3 d2_4 d2_5 d2_6 d2_7 d2_8 d2_9
  have HF3 := Lib.hid (HF2.out.noTrans f3)
  clear f3 d2_0 d2_1 d2_2 d2_3 d2_4 d2_5 d2_6 d2_7 d2_8 d2_9
  go_wp2_with fail
  go_ret2
  exact ⟨rfl, HF3.out⟩
set_option maxHeartbeats 4000000 in
theorem at_3 (a0 : Option Addr) (l0 k0 : Nat) (a1 : Option Addr) (l1 k1 : Nat) (a2 : Option Addr) (l2 k2 : Nat) (e o t : Int) (ps : List Pt) (zs : List Int) (ws : List Wl) (ax ay bx by_ p : Int) (w : World) (hp : PtsIn w a0 l0 ps) (hz : IntsIn w a1 l1 zs) (hw : WlsIn w a2 l2 ws) (g0 : ckB l0 l1 l2 e o t ps zs ws = true) (g1 : ptB ax ay = true) (g2 : ptB bx by_ = true) (g3 : isP p = false) :
    Calls Try.prog 25 #[.agg #[.slice a0 l0 k0, .slice a1 l1 k1, .slice a2 l2 k2, .int .i64 e, .int .i64 o, .int .i64 t], .agg #[.int .i64 ax, .int .i64 ay], .int .i64 p, .agg #[.int .i64 bx, .int .i64 by_]] w fun e' w' => e' = .returned (.tuple #[.int .i64 0, .int .i64 2]) ∧ Fr no w w' := by
  have K0 := Lib.hid (fun (w' : World) (h : Fr no w w') => check_any a0 l0 k0 a1 l1 k1 a2 l2 k2 e o t ps zs ws w' (hp.kept h) (hz.kept h) (hw.kept h))
  rw [g0] at K0
  have K1 := Lib.hid (fun w => isPoint_any ax ay w)
  rw [g1] at K1
  have K2 := Lib.hid (fun w => isPoint_any bx by_ w)
  rw [g2] at K2
  have K3 := Lib.hid (fun w => isPower_any p w)
  rw [g3] at K3
  clear hp hz hw g0 g1 g2 g3
  have KS := Lib.hid (show ∀ w0 w' : World, Fr no w0 w' → w0.cell? ⟨w.heap.size, 0, none⟩ = some (.slice a0 l0 k0) → w0.cell? ⟨w.heap.size, 1, none⟩ = some (.slice a1 l1 k1) → w0.cell? ⟨w.heap.size, 2, none⟩ = some (.slice a2 l2 k2) → w0.cell? ⟨w.heap.size, 3, none⟩ = some (.int .i64 e) → w0.cell? ⟨w.heap.size, 4, none⟩ = some (.int .i64 o) → w0.cell? ⟨w.heap.size, 5, none⟩ = some (.int .i64 t) → w0.cell? ⟨w.heap.size + 1, 0, none⟩ = some (.int .i64 ax) → w0.cell? ⟨w.heap.size + 1, 1, none⟩ = some (.int .i64 ay) → w0.cell? ⟨w.heap.size + 1 + 1, 0, none⟩ = some (.int .i64 bx) → w0.cell? ⟨w.heap.size + 1 + 1, 1, none⟩ = some (.int .i64 by_) → (w'.cell? ⟨w.heap.size, 0, none⟩ = some (.slice a0 l0 k0) ∧ w'.cell? ⟨w.heap.size, 1, none⟩ = some (.slice a1 l1 k1) ∧ w'.cell? ⟨w.heap.size, 2, none⟩ = some (.slice a2 l2 k2) ∧ w'.cell? ⟨w.heap.size, 3, none⟩ = some (.int .i64 e) ∧ w'.cell? ⟨w.heap.size, 4, none⟩ = some (.int .i64 o) ∧ w'.cell? ⟨w.heap.size, 5, none⟩ = some (.int .i64 t) ∧ w'.cell? ⟨w.heap.size + 1, 0, none⟩ = some (.int .i64 ax) ∧ w'.cell? ⟨w.heap.size + 1, 1, none⟩ = some (.int .i64 ay) ∧ w'.cell? ⟨w.heap.size + 1 + 1, 0, none⟩ = some (.int .i64 bx) ∧ w'.cell? ⟨w.heap.size + 1 + 1, 1, none⟩ = some (.int .i64 by_)) from fun _ _ h a0 a1 a2 a3 a4 a5 a6 a7 a8 a9 => ⟨h.keepc a0, h.keepc a1, h.keepc a2, h.keepc a3, h.keepc a4, h.keepc a5, h.keepc a6, h.keepc a7, h.keepc a8, h.keepc a9⟩)
  obtain ⟨W, hW⟩ : ∃ W, W = (((w.alloc (.cells #[.slice a0 l0 k0, .slice a1 l1 k1, .slice a2 l2 k2, .int .i64 e, .int .i64 o, .int .i64 t] 26 (0, 0))).alloc (.cells #[.int .i64 ax, .int .i64 ay] 42 (0, 0))).alloc (.cells #[.int .i64 bx, .int .i64 by_] 42 (0, 0))) := ⟨_, rfl⟩
  have HF := Lib.hid (show Fr no w W by rw [hW]; exact (((Fr.refl no w).alloc _).alloc _).alloc _)
  have c0 : W.cell? ⟨w.heap.size, 0, none⟩ = some (.slice a0 l0 k0) := by rw [hW]; go_simp
  have c1 : W.cell? ⟨w.heap.size, 1, none⟩ = some (.slice a1 l1 k1) := by rw [hW]; go_simp
  have c2 : W.cell? ⟨w.heap.size, 2, none⟩ = some (.slice a2 l2 k2) := by rw [hW]; go_simp
  have c3 : W.cell? ⟨w.heap.size, 3, none⟩ = some (.int .i64 e) := by rw [hW]; go_simp
  have c4 : W.cell? ⟨w.heap.size, 4, none⟩ = some (.int .i64 o) := by rw [hW]; go_simp
  have c5 : W.cell? ⟨w.heap.size, 5, none⟩ = some (.int .i64 t) := by rw [hW]; go_simp
  have c6 : W.cell? ⟨w.heap.size + 1, 0, none⟩ = some (.int .i64 ax) := by rw [hW]; go_simp
  have c7 : W.cell? ⟨w.heap.size + 1, 1, none⟩ = some (.int .i64 ay) := by rw [hW]; go_simp
  have c8 : W.cell? ⟨w.heap.size + 1 + 1, 0, none⟩ = some (.int .i64 bx) := by rw [hW]; go_simp
  have c9 : W.cell? ⟨w.heap.size + 1 + 1, 1, none⟩ = some (.int .i64 by_) := by rw [hW]; go_simp
  have HW := Lib.hid hW
  clear hW
  go_enter Try.func25, Try.ntmps25
  go_wp2_with fail
  rw [← HW.out]
  refine (K0.out _ HF.out).mono ?_
  rintro e y1 ⟨rfl, f1⟩
  obtain ⟨d1_0, d1_1, d1_2, d1_3, d1_4, d1_5, d1_6, d1_7, d1_8, d1_9⟩ := KS.out _ _ f1 c0 c1 c2 c3 c4 c5 c6 c7 c8 c9
  have HF1 := Lib.hid (HF.out.noTrans f1)
  clear f1 c0 c1 c2 c3 c4 c5 c6 c7 c8 c9
  go_wp2_with fail
  refine (K1.out _).mono ?_
  rintro e y2 ⟨rfl, f2⟩
  obtain ⟨d2_0, d2_1, d2_2, d2_3, d2_4, d2_5, d2_6, d2_7, d2_8, d2_9⟩ := KS.out _ _ f2 d1_0 d1_1 d1_2 d1_3 d1_4 d1_5 d1_6 d1_7 d1_8 d1_9
  have HF2 := Lib.hid (HF1.out.noTrans f2)
  clear f2 d1_0 d1_1 d1_2 d1_3 d1_4 d1_5 d1_6 d1_7 d1_8 d1_9
  go_wp2_with fail
  refine (K2.out _).mono ?_
  rintro e y3 ⟨rfl, f3⟩
  obtain ⟨d3_0, d3_1, d3_2, d3_3, d3_4, d3_5, d3_6, d3_7, d3_8, d3_9⟩ := KS.out _ _ f3 d2_0 d2_1 d2_2 d2_3 d2_4 d2_5 d2_6 d2_7 d2_8 d2_9
  have HF3 := Lib.hid (HF2.out.noTrans f3)
  clear f3 d2_0 d2_1 d2_2 d2_3 d2_4 d2_5 d2_6 d2_7 d2_8 d2_9
  go_wp2_with fail
  refine (K3.out _).mono ?_
  rintro e w' ⟨rfl, rfl⟩
  go_wp2_with fail
  go_ret2
  exact ⟨rfl, HF3.out⟩
set_option maxHeartbeats 4000000 in
theorem at_4 (a0 : Option Addr) (l0 k0 : Nat) (a1 : Option Addr) (l1 k1 : Nat) (a2 : Option Addr) (l2 k2 : Nat) (e o t : Int) (ps : List Pt) (zs : List Int) (ws : List Wl) (ax ay bx by_ p : Int) (w : World) (hp : PtsIn w a0 l0 ps) (hz : IntsIn w a1 l1 zs) (hw : WlsIn w a2 l2 ws) (g0 : ckB l0 l1 l2 e o t ps zs ws = true) (g1 : ptB ax ay = true) (g2 : ptB bx by_ = true) (g3 : isP p = true) :
    Calls Try.prog 25 #[.agg #[.slice a0 l0 k0, .slice a1 l1 k1, .slice a2 l2 k2, .int .i64 e, .int .i64 o, .int .i64 t], .agg #[.int .i64 ax, .int .i64 ay], .int .i64 p, .agg #[.int .i64 bx, .int .i64 by_]] w fun e' w' => e' = .returned (.tuple #[.int .i64 (arF e ax ay bx by_ p ws), .int .i64 0]) ∧ Fr no w w' := by
  have G := ckB_t g0
  obtain ⟨n1, n2⟩ := pt_near g1
  obtain ⟨n3, n4⟩ := pt_near g2
  have K0 := Lib.hid (fun (w' : World) (h : Fr no w w') => check_any a0 l0 k0 a1 l1 k1 a2 l2 k2 e o t ps zs ws w' (hp.kept h) (hz.kept h) (hw.kept h))
  rw [g0] at K0
  have K1 := Lib.hid (fun w => isPoint_any ax ay w)
  rw [g1] at K1
  have K2 := Lib.hid (fun w => isPoint_any bx by_ w)
  rw [g2] at K2
  have K3 := Lib.hid (fun w => isPower_any p w)
  rw [g3] at K3
  have K4 := Lib.hid (fun (w' : World) (h : Fr no w w') => arriving_any a0 l0 k0 a1 l1 k1 a2 l2 k2 e o t ax ay bx by_ p ws w' G.ex (hw.kept h) G.ws (Nat.le_trans G.n3 (by decide)) n1 n2 n3 n4 g3)
  clear hp hz hw g0 g1 g2 g3 G n1 n2 n3 n4
  have KS := Lib.hid (show ∀ w0 w' : World, Fr no w0 w' → w0.cell? ⟨w.heap.size, 0, none⟩ = some (.slice a0 l0 k0) → w0.cell? ⟨w.heap.size, 1, none⟩ = some (.slice a1 l1 k1) → w0.cell? ⟨w.heap.size, 2, none⟩ = some (.slice a2 l2 k2) → w0.cell? ⟨w.heap.size, 3, none⟩ = some (.int .i64 e) → w0.cell? ⟨w.heap.size, 4, none⟩ = some (.int .i64 o) → w0.cell? ⟨w.heap.size, 5, none⟩ = some (.int .i64 t) → w0.cell? ⟨w.heap.size + 1, 0, none⟩ = some (.int .i64 ax) → w0.cell? ⟨w.heap.size + 1, 1, none⟩ = some (.int .i64 ay) → w0.cell? ⟨w.heap.size + 1 + 1, 0, none⟩ = some (.int .i64 bx) → w0.cell? ⟨w.heap.size + 1 + 1, 1, none⟩ = some (.int .i64 by_) → (w'.cell? ⟨w.heap.size, 0, none⟩ = some (.slice a0 l0 k0) ∧ w'.cell? ⟨w.heap.size, 1, none⟩ = some (.slice a1 l1 k1) ∧ w'.cell? ⟨w.heap.size, 2, none⟩ = some (.slice a2 l2 k2) ∧ w'.cell? ⟨w.heap.size, 3, none⟩ = some (.int .i64 e) ∧ w'.cell? ⟨w.heap.size, 4, none⟩ = some (.int .i64 o) ∧ w'.cell? ⟨w.heap.size, 5, none⟩ = some (.int .i64 t) ∧ w'.cell? ⟨w.heap.size + 1, 0, none⟩ = some (.int .i64 ax) ∧ w'.cell? ⟨w.heap.size + 1, 1, none⟩ = some (.int .i64 ay) ∧ w'.cell? ⟨w.heap.size + 1 + 1, 0, none⟩ = some (.int .i64 bx) ∧ w'.cell? ⟨w.heap.size + 1 + 1, 1, none⟩ = some (.int .i64 by_)) from fun _ _ h a0 a1 a2 a3 a4 a5 a6 a7 a8 a9 => ⟨h.keepc a0, h.keepc a1, h.keepc a2, h.keepc a3, h.keepc a4, h.keepc a5, h.keepc a6, h.keepc a7, h.keepc a8, h.keepc a9⟩)
  obtain ⟨W, hW⟩ : ∃ W, W = (((w.alloc (.cells #[.slice a0 l0 k0, .slice a1 l1 k1, .slice a2 l2 k2, .int .i64 e, .int .i64 o, .int .i64 t] 26 (0, 0))).alloc (.cells #[.int .i64 ax, .int .i64 ay] 42 (0, 0))).alloc (.cells #[.int .i64 bx, .int .i64 by_] 42 (0, 0))) := ⟨_, rfl⟩
  have HF := Lib.hid (show Fr no w W by rw [hW]; exact (((Fr.refl no w).alloc _).alloc _).alloc _)
  have c0 : W.cell? ⟨w.heap.size, 0, none⟩ = some (.slice a0 l0 k0) := by rw [hW]; go_simp
  have c1 : W.cell? ⟨w.heap.size, 1, none⟩ = some (.slice a1 l1 k1) := by rw [hW]; go_simp
  have c2 : W.cell? ⟨w.heap.size, 2, none⟩ = some (.slice a2 l2 k2) := by rw [hW]; go_simp
  have c3 : W.cell? ⟨w.heap.size, 3, none⟩ = some (.int .i64 e) := by rw [hW]; go_simp
  have c4 : W.cell? ⟨w.heap.size, 4, none⟩ = some (.int .i64 o) := by rw [hW]; go_simp
  have c5 : W.cell? ⟨w.heap.size, 5, none⟩ = some (.int .i64 t) := by rw [hW]; go_simp
  have c6 : W.cell? ⟨w.heap.size + 1, 0, none⟩ = some (.int .i64 ax) := by rw [hW]; go_simp
  have c7 : W.cell? ⟨w.heap.size + 1, 1, none⟩ = some (.int .i64 ay) := by rw [hW]; go_simp
  have c8 : W.cell? ⟨w.heap.size + 1 + 1, 0, none⟩ = some (.int .i64 bx) := by rw [hW]; go_simp
  have c9 : W.cell? ⟨w.heap.size + 1 + 1, 1, none⟩ = some (.int .i64 by_) := by rw [hW]; go_simp
  have HW := Lib.hid hW
  clear hW
  go_enter Try.func25, Try.ntmps25
  go_wp2_with fail
  rw [← HW.out]
  refine (K0.out _ HF.out).mono ?_
  rintro e y1 ⟨rfl, f1⟩
  obtain ⟨d1_0, d1_1, d1_2, d1_3, d1_4, d1_5, d1_6, d1_7, d1_8, d1_9⟩ := KS.out _ _ f1 c0 c1 c2 c3 c4 c5 c6 c7 c8 c9
  have HF1 := Lib.hid (HF.out.noTrans f1)
  clear f1 c0 c1 c2 c3 c4 c5 c6 c7 c8 c9
  go_wp2_with fail
  refine (K1.out _).mono ?_
  rintro e y2 ⟨rfl, f2⟩
  obtain ⟨d2_0, d2_1, d2_2, d2_3, d2_4, d2_5, d2_6, d2_7, d2_8, d2_9⟩ := KS.out _ _ f2 d1_0 d1_1 d1_2 d1_3 d1_4 d1_5 d1_6 d1_7 d1_8 d1_9
  have HF2 := Lib.hid (HF1.out.noTrans f2)
  clear f2 d1_0 d1_1 d1_2 d1_3 d1_4 d1_5 d1_6 d1_7 d1_8 d1_9
  go_wp2_with fail
  refine (K2.out _).mono ?_
  rintro e y3 ⟨rfl, f3⟩
  obtain ⟨d3_0, d3_1, d3_2, d3_3, d3_4, d3_5, d3_6, d3_7, d3_8, d3_9⟩ := KS.out _ _ f3 d2_0 d2_1 d2_2 d2_3 d2_4 d2_5 d2_6 d2_7 d2_8 d2_9
  have HF3 := Lib.hid (HF2.out.noTrans f3)
  clear f3 d2_0 d2_1 d2_2 d2_3 d2_4 d2_5 d2_6 d2_7 d2_8 d2_9
  go_wp2_with fail
  refine (K3.out _).mono ?_
  rintro e w' ⟨rfl, rfl⟩
  go_wp2_with fail
  refine (K4.out _ HF3.out).mono ?_
  rintro e y4 ⟨rfl, f4⟩
  obtain ⟨d4_0, d4_1, d4_2, d4_3, d4_4, d4_5, d4_6, d4_7, d4_8, d4_9⟩ := KS.out _ _ f4 d3_0 d3_1 d3_2 d3_3 d3_4 d3_5 d3_6 d3_7 d3_8 d3_9
  have HF4 := Lib.hid (HF3.out.noTrans f4)
  clear f4 d3_0 d3_1 d3_2 d3_3 d3_4 d3_5 d3_6 d3_7 d3_8 d3_9
  go_wp2_with fail
  go_ret2
  exact ⟨rfl, HF4.out⟩
theorem at_any (a0 : Option Addr) (l0 k0 : Nat) (a1 : Option Addr) (l1 k1 : Nat) (a2 : Option Addr) (l2 k2 : Nat) (e o t : Int) (ps : List Pt) (zs : List Int) (ws : List Wl) (ax ay bx by_ p : Int) (w : World) (hp : PtsIn w a0 l0 ps) (hz : IntsIn w a1 l1 zs) (hw : WlsIn w a2 l2 ws) :
    Calls Try.prog 25 #[.agg #[.slice a0 l0 k0, .slice a1 l1 k1, .slice a2 l2 k2, .int .i64 e, .int .i64 o, .int .i64 t], .agg #[.int .i64 ax, .int .i64 ay], .int .i64 p, .agg #[.int .i64 bx, .int .i64 by_]] w fun e' w' => e' = .returned (.tuple #[.int .i64 (atV (ckB l0 l1 l2 e o t ps zs ws) e ax ay bx by_ p ws), .int .i64 (atE (ckB l0 l1 l2 e o t ps zs ws) ax ay bx by_ p)]) ∧ Fr no w w' := by
  cases g0 : ckB l0 l1 l2 e o t ps zs ws
  · have h0 := at_0 a0 l0 k0 a1 l1 k1 a2 l2 k2 e o t ps zs ws ax ay bx by_ p w hp hz hw g0
    simp only [atV, atE, atB, Bool.false_and, Bool.false_eq_true, if_false]
    exact h0
  cases g1 : ptB ax ay
  · have h0 := at_1 a0 l0 k0 a1 l1 k1 a2 l2 k2 e o t ps zs ws ax ay bx by_ p w hp hz hw g0 g1
    simp only [atV, atE, atB, g1, Bool.false_and, Bool.and_false, Bool.false_eq_true, if_false, if_true]
    exact h0
  cases g2 : ptB bx by_
  · have h0 := at_2 a0 l0 k0 a1 l1 k1 a2 l2 k2 e o t ps zs ws ax ay bx by_ p w hp hz hw g0 g1 g2
    simp only [atV, atE, atB, g1, g2, Bool.false_and, Bool.and_false, Bool.false_eq_true, if_false, if_true]
    exact h0
  cases g3 : isP p
  · have h0 := at_3 a0 l0 k0 a1 l1 k1 a2 l2 k2 e o t ps zs ws ax ay bx by_ p w hp hz hw g0 g1 g2 g3
    simp only [atV, atE, atB, g1, g2, g3, Bool.and_false, Bool.false_eq_true, if_false, if_true]
    exact h0
  have h0 := at_4 a0 l0 k0 a1 l1 k1 a2 l2 k2 e o t ps zs ws ax ay bx by_ p w hp hz hw g0 g1 g2 g3
  simp only [atV, atE, atB, g1, g2, g3, Bool.and_true, if_true]
  exact h0
set_option maxHeartbeats 4000000 in
theorem atRR_0 (a0 : Option Addr) (l0 k0 : Nat) (a1 : Option Addr) (l1 k1 : Nat) (a2 : Option Addr) (l2 k2 : Nat) (e o t : Int) (ps : List Pt) (zs : List Int) (ws : List Wl) (ax ay bx by_ p : Int) (w : World) (hp : PtsIn w a0 l0 ps) (hz : IntsIn w a1 l1 zs) (hw : WlsIn w a2 l2 ws) (g0 : ckB l0 l1 l2 e o t ps zs ws = false) :
    Calls Try.prog 107 #[.agg #[.slice a0 l0 k0, .slice a1 l1 k1, .slice a2 l2 k2, .int .i64 e, .int .i64 o, .int .i64 t], .agg #[.int .i64 ax, .int .i64 ay], .int .i64 p, .agg #[.int .i64 bx, .int .i64 by_]] w fun e' w' => e' = .returned (.tuple #[.int .i64 0, .int .i64 1]) ∧ Fr no w w' := by
  have K0 := Lib.hid (fun (w' : World) (h : Fr no w w') => checkR_any a0 l0 k0 a1 l1 k1 a2 l2 k2 e o t ps zs ws w' (hp.kept h) (hz.kept h) (hw.kept h))
  rw [g0] at K0
  clear hp hz hw g0
  have KS := Lib.hid (show ∀ w0 w' : World, Fr no w0 w' → w0.cell? ⟨w.heap.size, 0, none⟩ = some (.slice a0 l0 k0) → w0.cell? ⟨w.heap.size, 1, none⟩ = some (.slice a1 l1 k1) → w0.cell? ⟨w.heap.size, 2, none⟩ = some (.slice a2 l2 k2) → w0.cell? ⟨w.heap.size, 3, none⟩ = some (.int .i64 e) → w0.cell? ⟨w.heap.size, 4, none⟩ = some (.int .i64 o) → w0.cell? ⟨w.heap.size, 5, none⟩ = some (.int .i64 t) → w0.cell? ⟨w.heap.size + 1, 0, none⟩ = some (.int .i64 ax) → w0.cell? ⟨w.heap.size + 1, 1, none⟩ = some (.int .i64 ay) → w0.cell? ⟨w.heap.size + 1 + 1, 0, none⟩ = some (.int .i64 bx) → w0.cell? ⟨w.heap.size + 1 + 1, 1, none⟩ = some (.int .i64 by_) → (w'.cell? ⟨w.heap.size, 0, none⟩ = some (.slice a0 l0 k0) ∧ w'.cell? ⟨w.heap.size, 1, none⟩ = some (.slice a1 l1 k1) ∧ w'.cell? ⟨w.heap.size, 2, none⟩ = some (.slice a2 l2 k2) ∧ w'.cell? ⟨w.heap.size, 3, none⟩ = some (.int .i64 e) ∧ w'.cell? ⟨w.heap.size, 4, none⟩ = some (.int .i64 o) ∧ w'.cell? ⟨w.heap.size, 5, none⟩ = some (.int .i64 t) ∧ w'.cell? ⟨w.heap.size + 1, 0, none⟩ = some (.int .i64 ax) ∧ w'.cell? ⟨w.heap.size + 1, 1, none⟩ = some (.int .i64 ay) ∧ w'.cell? ⟨w.heap.size + 1 + 1, 0, none⟩ = some (.int .i64 bx) ∧ w'.cell? ⟨w.heap.size + 1 + 1, 1, none⟩ = some (.int .i64 by_)) from fun _ _ h a0 a1 a2 a3 a4 a5 a6 a7 a8 a9 => ⟨h.keepc a0, h.keepc a1, h.keepc a2, h.keepc a3, h.keepc a4, h.keepc a5, h.keepc a6, h.keepc a7, h.keepc a8, h.keepc a9⟩)
  obtain ⟨W, hW⟩ : ∃ W, W = (((w.alloc (.cells #[.slice a0 l0 k0, .slice a1 l1 k1, .slice a2 l2 k2, .int .i64 e, .int .i64 o, .int .i64 t] 26 (0, 0))).alloc (.cells #[.int .i64 ax, .int .i64 ay] 42 (0, 0))).alloc (.cells #[.int .i64 bx, .int .i64 by_] 42 (0, 0))) := ⟨_, rfl⟩
  have HF := Lib.hid (show Fr no w W by rw [hW]; exact (((Fr.refl no w).alloc _).alloc _).alloc _)
  have c0 : W.cell? ⟨w.heap.size, 0, none⟩ = some (.slice a0 l0 k0) := by rw [hW]; go_simp
  have c1 : W.cell? ⟨w.heap.size, 1, none⟩ = some (.slice a1 l1 k1) := by rw [hW]; go_simp
  have c2 : W.cell? ⟨w.heap.size, 2, none⟩ = some (.slice a2 l2 k2) := by rw [hW]; go_simp
  have c3 : W.cell? ⟨w.heap.size, 3, none⟩ = some (.int .i64 e) := by rw [hW]; go_simp
  have c4 : W.cell? ⟨w.heap.size, 4, none⟩ = some (.int .i64 o) := by rw [hW]; go_simp
  have c5 : W.cell? ⟨w.heap.size, 5, none⟩ = some (.int .i64 t) := by rw [hW]; go_simp
  have c6 : W.cell? ⟨w.heap.size + 1, 0, none⟩ = some (.int .i64 ax) := by rw [hW]; go_simp
  have c7 : W.cell? ⟨w.heap.size + 1, 1, none⟩ = some (.int .i64 ay) := by rw [hW]; go_simp
  have c8 : W.cell? ⟨w.heap.size + 1 + 1, 0, none⟩ = some (.int .i64 bx) := by rw [hW]; go_simp
  have c9 : W.cell? ⟨w.heap.size + 1 + 1, 1, none⟩ = some (.int .i64 by_) := by rw [hW]; go_simp
  have HW := Lib.hid hW
  clear hW
  go_enter Try.func107, Try.ntmps107
  go_wp2_with fail
  rw [← HW.out]
  refine (K0.out _ HF.out).mono ?_
  rintro e y1 ⟨rfl, f1⟩
  obtain ⟨d1_0, d1_1, d1_2, d1_3, d1_4, d1_5, d1_6, d1_7, d1_8, d1_9⟩ := KS.out _ _ f1 c0 c1 c2 c3 c4 c5 c6 c7 c8 c9
  have HF1 := Lib.hid (HF.out.noTrans f1)
  clear f1 c0 c1 c2 c3 c4 c5 c6 c7 c8 c9
  go_wp2_with fail
  go_ret2
  exact ⟨rfl, HF1.out⟩
set_option maxHeartbeats 4000000 in
theorem atRR_1 (a0 : Option Addr) (l0 k0 : Nat) (a1 : Option Addr) (l1 k1 : Nat) (a2 : Option Addr) (l2 k2 : Nat) (e o t : Int) (ps : List Pt) (zs : List Int) (ws : List Wl) (ax ay bx by_ p : Int) (w : World) (hp : PtsIn w a0 l0 ps) (hz : IntsIn w a1 l1 zs) (hw : WlsIn w a2 l2 ws) (g0 : ckB l0 l1 l2 e o t ps zs ws = true) (g1 : ptB ax ay = false) :
    Calls Try.prog 107 #[.agg #[.slice a0 l0 k0, .slice a1 l1 k1, .slice a2 l2 k2, .int .i64 e, .int .i64 o, .int .i64 t], .agg #[.int .i64 ax, .int .i64 ay], .int .i64 p, .agg #[.int .i64 bx, .int .i64 by_]] w fun e' w' => e' = .returned (.tuple #[.int .i64 0, .int .i64 2]) ∧ Fr no w w' := by
  have K0 := Lib.hid (fun (w' : World) (h : Fr no w w') => checkR_any a0 l0 k0 a1 l1 k1 a2 l2 k2 e o t ps zs ws w' (hp.kept h) (hz.kept h) (hw.kept h))
  rw [g0] at K0
  have K1 := Lib.hid (fun w => point_any ax ay w)
  rw [g1] at K1
  clear hp hz hw g0 g1
  have KS := Lib.hid (show ∀ w0 w' : World, Fr no w0 w' → w0.cell? ⟨w.heap.size, 0, none⟩ = some (.slice a0 l0 k0) → w0.cell? ⟨w.heap.size, 1, none⟩ = some (.slice a1 l1 k1) → w0.cell? ⟨w.heap.size, 2, none⟩ = some (.slice a2 l2 k2) → w0.cell? ⟨w.heap.size, 3, none⟩ = some (.int .i64 e) → w0.cell? ⟨w.heap.size, 4, none⟩ = some (.int .i64 o) → w0.cell? ⟨w.heap.size, 5, none⟩ = some (.int .i64 t) → w0.cell? ⟨w.heap.size + 1, 0, none⟩ = some (.int .i64 ax) → w0.cell? ⟨w.heap.size + 1, 1, none⟩ = some (.int .i64 ay) → w0.cell? ⟨w.heap.size + 1 + 1, 0, none⟩ = some (.int .i64 bx) → w0.cell? ⟨w.heap.size + 1 + 1, 1, none⟩ = some (.int .i64 by_) → (w'.cell? ⟨w.heap.size, 0, none⟩ = some (.slice a0 l0 k0) ∧ w'.cell? ⟨w.heap.size, 1, none⟩ = some (.slice a1 l1 k1) ∧ w'.cell? ⟨w.heap.size, 2, none⟩ = some (.slice a2 l2 k2) ∧ w'.cell? ⟨w.heap.size, 3, none⟩ = some (.int .i64 e) ∧ w'.cell? ⟨w.heap.size, 4, none⟩ = some (.int .i64 o) ∧ w'.cell? ⟨w.heap.size, 5, none⟩ = some (.int .i64 t) ∧ w'.cell? ⟨w.heap.size + 1, 0, none⟩ = some (.int .i64 ax) ∧ w'.cell? ⟨w.heap.size + 1, 1, none⟩ = some (.int .i64 ay) ∧ w'.cell? ⟨w.heap.size + 1 + 1, 0, none⟩ = some (.int .i64 bx) ∧ w'.cell? ⟨w.heap.size + 1 + 1, 1, none⟩ = some (.int .i64 by_)) from fun _ _ h a0 a1 a2 a3 a4 a5 a6 a7 a8 a9 => ⟨h.keepc a0, h.keepc a1, h.keepc a2, h.keepc a3, h.keepc a4, h.keepc a5, h.keepc a6, h.keepc a7, h.keepc a8, h.keepc a9⟩)
  obtain ⟨W, hW⟩ : ∃ W, W = (((w.alloc (.cells #[.slice a0 l0 k0, .slice a1 l1 k1, .slice a2 l2 k2, .int .i64 e, .int .i64 o, .int .i64 t] 26 (0, 0))).alloc (.cells #[.int .i64 ax, .int .i64 ay] 42 (0, 0))).alloc (.cells #[.int .i64 bx, .int .i64 by_] 42 (0, 0))) := ⟨_, rfl⟩
  have HF := Lib.hid (show Fr no w W by rw [hW]; exact (((Fr.refl no w).alloc _).alloc _).alloc _)
  have c0 : W.cell? ⟨w.heap.size, 0, none⟩ = some (.slice a0 l0 k0) := by rw [hW]; go_simp
  have c1 : W.cell? ⟨w.heap.size, 1, none⟩ = some (.slice a1 l1 k1) := by rw [hW]; go_simp
  have c2 : W.cell? ⟨w.heap.size, 2, none⟩ = some (.slice a2 l2 k2) := by rw [hW]; go_simp
  have c3 : W.cell? ⟨w.heap.size, 3, none⟩ = some (.int .i64 e) := by rw [hW]; go_simp
  have c4 : W.cell? ⟨w.heap.size, 4, none⟩ = some (.int .i64 o) := by rw [hW]; go_simp
  have c5 : W.cell? ⟨w.heap.size, 5, none⟩ = some (.int .i64 t) := by rw [hW]; go_simp
  have c6 : W.cell? ⟨w.heap.size + 1, 0, none⟩ = some (.int .i64 ax) := by rw [hW]; go_simp
  have c7 : W.cell? ⟨w.heap.size + 1, 1, none⟩ = some (.int .i64 ay) := by rw [hW]; go_simp
  have c8 : W.cell? ⟨w.heap.size + 1 + 1, 0, none⟩ = some (.int .i64 bx) := by rw [hW]; go_simp
  have c9 : W.cell? ⟨w.heap.size + 1 + 1, 1, none⟩ = some (.int .i64 by_) := by rw [hW]; go_simp
  have HW := Lib.hid hW
  clear hW
  go_enter Try.func107, Try.ntmps107
  go_wp2_with fail
  rw [← HW.out]
  refine (K0.out _ HF.out).mono ?_
  rintro e y1 ⟨rfl, f1⟩
  obtain ⟨d1_0, d1_1, d1_2, d1_3, d1_4, d1_5, d1_6, d1_7, d1_8, d1_9⟩ := KS.out _ _ f1 c0 c1 c2 c3 c4 c5 c6 c7 c8 c9
  have HF1 := Lib.hid (HF.out.noTrans f1)
  clear f1 c0 c1 c2 c3 c4 c5 c6 c7 c8 c9
  go_wp2_with fail
  refine (K1.out _).mono ?_
  rintro e y2 ⟨rfl, f2⟩
  obtain ⟨d2_0, d2_1, d2_2, d2_3, d2_4, d2_5, d2_6, d2_7, d2_8, d2_9⟩ := KS.out _ _ f2 d1_0 d1_1 d1_2 d1_3 d1_4 d1_5 d1_6 d1_7 d1_8 d1_9
  have HF2 := Lib.hid (HF1.out.noTrans f2)
  clear f2 d1_0 d1_1 d1_2 d1_3 d1_4 d1_5 d1_6 d1_7 d1_8 d1_9
  go_wp2_with fail
  go_ret2
  exact ⟨rfl, HF2.out⟩
set_option maxHeartbeats 4000000 in
theorem atRR_2 (a0 : Option Addr) (l0 k0 : Nat) (a1 : Option Addr) (l1 k1 : Nat) (a2 : Option Addr) (l2 k2 : Nat) (e o t : Int) (ps : List Pt) (zs : List Int) (ws : List Wl) (ax ay bx by_ p : Int) (w : World) (hp : PtsIn w a0 l0 ps) (hz : IntsIn w a1 l1 zs) (hw : WlsIn w a2 l2 ws) (g0 : ckB l0 l1 l2 e o t ps zs ws = true) (g1 : ptB ax ay = true) (g2 : ptB bx by_ = false) :
    Calls Try.prog 107 #[.agg #[.slice a0 l0 k0, .slice a1 l1 k1, .slice a2 l2 k2, .int .i64 e, .int .i64 o, .int .i64 t], .agg #[.int .i64 ax, .int .i64 ay], .int .i64 p, .agg #[.int .i64 bx, .int .i64 by_]] w fun e' w' => e' = .returned (.tuple #[.int .i64 0, .int .i64 2]) ∧ Fr no w w' := by
  have K0 := Lib.hid (fun (w' : World) (h : Fr no w w') => checkR_any a0 l0 k0 a1 l1 k1 a2 l2 k2 e o t ps zs ws w' (hp.kept h) (hz.kept h) (hw.kept h))
  rw [g0] at K0
  have K1 := Lib.hid (fun w => point_any ax ay w)
  rw [g1] at K1
  have K2 := Lib.hid (fun w => point_any bx by_ w)
  rw [g2] at K2
  clear hp hz hw g0 g1 g2
  have KS := Lib.hid (show ∀ w0 w' : World, Fr no w0 w' → w0.cell? ⟨w.heap.size, 0, none⟩ = some (.slice a0 l0 k0) → w0.cell? ⟨w.heap.size, 1, none⟩ = some (.slice a1 l1 k1) → w0.cell? ⟨w.heap.size, 2, none⟩ = some (.slice a2 l2 k2) → w0.cell? ⟨w.heap.size, 3, none⟩ = some (.int .i64 e) → w0.cell? ⟨w.heap.size, 4, none⟩ = some (.int .i64 o) → w0.cell? ⟨w.heap.size, 5, none⟩ = some (.int .i64 t) → w0.cell? ⟨w.heap.size + 1, 0, none⟩ = some (.int .i64 ax) → w0.cell? ⟨w.heap.size + 1, 1, none⟩ = some (.int .i64 ay) → w0.cell? ⟨w.heap.size + 1 + 1, 0, none⟩ = some (.int .i64 bx) → w0.cell? ⟨w.heap.size + 1 + 1, 1, none⟩ = some (.int .i64 by_) → (w'.cell? ⟨w.heap.size, 0, none⟩ = some (.slice a0 l0 k0) ∧ w'.cell? ⟨w.heap.size, 1, none⟩ = some (.slice a1 l1 k1) ∧ w'.cell? ⟨w.heap.size, 2, none⟩ = some (.slice a2 l2 k2) ∧ w'.cell? ⟨w.heap.size, 3, none⟩ = some (.int .i64 e) ∧ w'.cell? ⟨w.heap.size, 4, none⟩ = some (.int .i64 o) ∧ w'.cell? ⟨w.heap.size, 5, none⟩ = some (.int .i64 t) ∧ w'.cell? ⟨w.heap.size + 1, 0, none⟩ = some (.int .i64 ax) ∧ w'.cell? ⟨w.heap.size + 1, 1, none⟩ = some (.int .i64 ay) ∧ w'.cell? ⟨w.heap.size + 1 + 1, 0, none⟩ = some (.int .i64 bx) ∧ w'.cell? ⟨w.heap.size + 1 + 1, 1, none⟩ = some (.int .i64 by_)) from fun _ _ h a0 a1 a2 a3 a4 a5 a6 a7 a8 a9 => ⟨h.keepc a0, h.keepc a1, h.keepc a2, h.keepc a3, h.keepc a4, h.keepc a5, h.keepc a6, h.keepc a7, h.keepc a8, h.keepc a9⟩)
  obtain ⟨W, hW⟩ : ∃ W, W = (((w.alloc (.cells #[.slice a0 l0 k0, .slice a1 l1 k1, .slice a2 l2 k2, .int .i64 e, .int .i64 o, .int .i64 t] 26 (0, 0))).alloc (.cells #[.int .i64 ax, .int .i64 ay] 42 (0, 0))).alloc (.cells #[.int .i64 bx, .int .i64 by_] 42 (0, 0))) := ⟨_, rfl⟩
  have HF := Lib.hid (show Fr no w W by rw [hW]; exact (((Fr.refl no w).alloc _).alloc _).alloc _)
  have c0 : W.cell? ⟨w.heap.size, 0, none⟩ = some (.slice a0 l0 k0) := by rw [hW]; go_simp
  have c1 : W.cell? ⟨w.heap.size, 1, none⟩ = some (.slice a1 l1 k1) := by rw [hW]; go_simp
  have c2 : W.cell? ⟨w.heap.size, 2, none⟩ = some (.slice a2 l2 k2) := by rw [hW]; go_simp
  have c3 : W.cell? ⟨w.heap.size, 3, none⟩ = some (.int .i64 e) := by rw [hW]; go_simp
  have c4 : W.cell? ⟨w.heap.size, 4, none⟩ = some (.int .i64 o) := by rw [hW]; go_simp
  have c5 : W.cell? ⟨w.heap.size, 5, none⟩ = some (.int .i64 t) := by rw [hW]; go_simp
  have c6 : W.cell? ⟨w.heap.size + 1, 0, none⟩ = some (.int .i64 ax) := by rw [hW]; go_simp
  have c7 : W.cell? ⟨w.heap.size + 1, 1, none⟩ = some (.int .i64 ay) := by rw [hW]; go_simp
  have c8 : W.cell? ⟨w.heap.size + 1 + 1, 0, none⟩ = some (.int .i64 bx) := by rw [hW]; go_simp
  have c9 : W.cell? ⟨w.heap.size + 1 + 1, 1, none⟩ = some (.int .i64 by_) := by rw [hW]; go_simp
  have HW := Lib.hid hW
  clear hW
  go_enter Try.func107, Try.ntmps107
  go_wp2_with fail
  rw [← HW.out]
  refine (K0.out _ HF.out).mono ?_
  rintro e y1 ⟨rfl, f1⟩
  obtain ⟨d1_0, d1_1, d1_2, d1_3, d1_4, d1_5, d1_6, d1_7, d1_8, d1_9⟩ := KS.out _ _ f1 c0 c1 c2 c3 c4 c5 c6 c7 c8 c9
  have HF1 := Lib.hid (HF.out.noTrans f1)
  clear f1 c0 c1 c2 c3 c4 c5 c6 c7 c8 c9
  go_wp2_with fail
  refine (K1.out _).mono ?_
  rintro e y2 ⟨rfl, f2⟩
  obtain ⟨d2_0, d2_1, d2_2, d2_3, d2_4, d2_5, d2_6, d2_7, d2_8, d2_9⟩ := KS.out _ _ f2 d1_0 d1_1 d1_2 d1_3 d1_4 d1_5 d1_6 d1_7 d1_8 d1_9
  have HF2 := Lib.hid (HF1.out.noTrans f2)
  clear f2 d1_0 d1_1 d1_2 d1_3 d1_4 d1_5 d1_6 d1_7 d1_8 d1_9
  go_wp2_with fail
  refine (K2.out _).mono ?_
  rintro e y3 ⟨rfl, f3⟩
  obtain ⟨d3_0, d3_1, d3_2, d3_3, d3_4, d3_5, d3_6, d3_7, d3_8, d3_9⟩ := KS.out _ _ f3 d2_0 d2_1 d2_2 d2_3 d2_4 d2_5 d2_6 d2_7 d2_8 d2_9
  have HF3 := Lib.hid (HF2.out.noTrans f3)
  clear f3 d2_0 d2_1 d2_2 d2_3 d2_4 d2_5 d2_6 d2_7 d2_8 d2_9
  go_wp2_with fail
  go_ret2
  exact ⟨rfl, HF3.out⟩
set_option maxHeartbeats 4000000 in
theorem atRR_3 (a0 : Option Addr) (l0 k0 : Nat) (a1 : Option Addr) (l1 k1 : Nat) (a2 : Option Addr) (l2 k2 : Nat) (e o t : Int) (ps : List Pt) (zs : List Int) (ws : List Wl) (ax ay bx by_ p : Int) (w : World) (hp : PtsIn w a0 l0 ps) (hz : IntsIn w a1 l1 zs) (hw : WlsIn w a2 l2 ws) (g0 : ckB l0 l1 l2 e o t ps zs ws = true) (g1 : ptB ax ay = true) (g2 : ptB bx by_ = true) (g3 : isP p = false) :
    Calls Try.prog 107 #[.agg #[.slice a0 l0 k0, .slice a1 l1 k1, .slice a2 l2 k2, .int .i64 e, .int .i64 o, .int .i64 t], .agg #[.int .i64 ax, .int .i64 ay], .int .i64 p, .agg #[.int .i64 bx, .int .i64 by_]] w fun e' w' => e' = .returned (.tuple #[.int .i64 0, .int .i64 2]) ∧ Fr no w w' := by
  have K0 := Lib.hid (fun (w' : World) (h : Fr no w w') => checkR_any a0 l0 k0 a1 l1 k1 a2 l2 k2 e o t ps zs ws w' (hp.kept h) (hz.kept h) (hw.kept h))
  rw [g0] at K0
  have K1 := Lib.hid (fun w => point_any ax ay w)
  rw [g1] at K1
  have K2 := Lib.hid (fun w => point_any bx by_ w)
  rw [g2] at K2
  have K3 := Lib.hid (fun w => isR_any p w)
  rw [g3] at K3
  clear hp hz hw g0 g1 g2 g3
  have KS := Lib.hid (show ∀ w0 w' : World, Fr no w0 w' → w0.cell? ⟨w.heap.size, 0, none⟩ = some (.slice a0 l0 k0) → w0.cell? ⟨w.heap.size, 1, none⟩ = some (.slice a1 l1 k1) → w0.cell? ⟨w.heap.size, 2, none⟩ = some (.slice a2 l2 k2) → w0.cell? ⟨w.heap.size, 3, none⟩ = some (.int .i64 e) → w0.cell? ⟨w.heap.size, 4, none⟩ = some (.int .i64 o) → w0.cell? ⟨w.heap.size, 5, none⟩ = some (.int .i64 t) → w0.cell? ⟨w.heap.size + 1, 0, none⟩ = some (.int .i64 ax) → w0.cell? ⟨w.heap.size + 1, 1, none⟩ = some (.int .i64 ay) → w0.cell? ⟨w.heap.size + 1 + 1, 0, none⟩ = some (.int .i64 bx) → w0.cell? ⟨w.heap.size + 1 + 1, 1, none⟩ = some (.int .i64 by_) → (w'.cell? ⟨w.heap.size, 0, none⟩ = some (.slice a0 l0 k0) ∧ w'.cell? ⟨w.heap.size, 1, none⟩ = some (.slice a1 l1 k1) ∧ w'.cell? ⟨w.heap.size, 2, none⟩ = some (.slice a2 l2 k2) ∧ w'.cell? ⟨w.heap.size, 3, none⟩ = some (.int .i64 e) ∧ w'.cell? ⟨w.heap.size, 4, none⟩ = some (.int .i64 o) ∧ w'.cell? ⟨w.heap.size, 5, none⟩ = some (.int .i64 t) ∧ w'.cell? ⟨w.heap.size + 1, 0, none⟩ = some (.int .i64 ax) ∧ w'.cell? ⟨w.heap.size + 1, 1, none⟩ = some (.int .i64 ay) ∧ w'.cell? ⟨w.heap.size + 1 + 1, 0, none⟩ = some (.int .i64 bx) ∧ w'.cell? ⟨w.heap.size + 1 + 1, 1, none⟩ = some (.int .i64 by_)) from fun _ _ h a0 a1 a2 a3 a4 a5 a6 a7 a8 a9 => ⟨h.keepc a0, h.keepc a1, h.keepc a2, h.keepc a3, h.keepc a4, h.keepc a5, h.keepc a6, h.keepc a7, h.keepc a8, h.keepc a9⟩)
  obtain ⟨W, hW⟩ : ∃ W, W = (((w.alloc (.cells #[.slice a0 l0 k0, .slice a1 l1 k1, .slice a2 l2 k2, .int .i64 e, .int .i64 o, .int .i64 t] 26 (0, 0))).alloc (.cells #[.int .i64 ax, .int .i64 ay] 42 (0, 0))).alloc (.cells #[.int .i64 bx, .int .i64 by_] 42 (0, 0))) := ⟨_, rfl⟩
  have HF := Lib.hid (show Fr no w W by rw [hW]; exact (((Fr.refl no w).alloc _).alloc _).alloc _)
  have c0 : W.cell? ⟨w.heap.size, 0, none⟩ = some (.slice a0 l0 k0) := by rw [hW]; go_simp
  have c1 : W.cell? ⟨w.heap.size, 1, none⟩ = some (.slice a1 l1 k1) := by rw [hW]; go_simp
  have c2 : W.cell? ⟨w.heap.size, 2, none⟩ = some (.slice a2 l2 k2) := by rw [hW]; go_simp
  have c3 : W.cell? ⟨w.heap.size, 3, none⟩ = some (.int .i64 e) := by rw [hW]; go_simp
  have c4 : W.cell? ⟨w.heap.size, 4, none⟩ = some (.int .i64 o) := by rw [hW]; go_simp
  have c5 : W.cell? ⟨w.heap.size, 5, none⟩ = some (.int .i64 t) := by rw [hW]; go_simp
  have c6 : W.cell? ⟨w.heap.size + 1, 0, none⟩ = some (.int .i64 ax) := by rw [hW]; go_simp
  have c7 : W.cell? ⟨w.heap.size + 1, 1, none⟩ = some (.int .i64 ay) := by rw [hW]; go_simp
  have c8 : W.cell? ⟨w.heap.size + 1 + 1, 0, none⟩ = some (.int .i64 bx) := by rw [hW]; go_simp
  have c9 : W.cell? ⟨w.heap.size + 1 + 1, 1, none⟩ = some (.int .i64 by_) := by rw [hW]; go_simp
  have HW := Lib.hid hW
  clear hW
  go_enter Try.func107, Try.ntmps107
  go_wp2_with fail
  rw [← HW.out]
  refine (K0.out _ HF.out).mono ?_
  rintro e y1 ⟨rfl, f1⟩
  obtain ⟨d1_0, d1_1, d1_2, d1_3, d1_4, d1_5, d1_6, d1_7, d1_8, d1_9⟩ := KS.out _ _ f1 c0 c1 c2 c3 c4 c5 c6 c7 c8 c9
  have HF1 := Lib.hid (HF.out.noTrans f1)
  clear f1 c0 c1 c2 c3 c4 c5 c6 c7 c8 c9
  go_wp2_with fail
  refine (K1.out _).mono ?_
  rintro e y2 ⟨rfl, f2⟩
  obtain ⟨d2_0, d2_1, d2_2, d2_3, d2_4, d2_5, d2_6, d2_7, d2_8, d2_9⟩ := KS.out _ _ f2 d1_0 d1_1 d1_2 d1_3 d1_4 d1_5 d1_6 d1_7 d1_8 d1_9
  have HF2 := Lib.hid (HF1.out.noTrans f2)
  clear f2 d1_0 d1_1 d1_2 d1_3 d1_4 d1_5 d1_6 d1_7 d1_8 d1_9
  go_wp2_with fail
  refine (K2.out _).mono ?_
  rintro e y3 ⟨rfl, f3⟩
  obtain ⟨d3_0, d3_1, d3_2, d3_3, d3_4, d3_5, d3_6, d3_7, d3_8, d3_9⟩ := KS.out _ _ f3 d2_0 d2_1 d2_2 d2_3 d2_4 d2_5 d2_6 d2_7 d2_8 d2_9
  have HF3 := Lib.hid (HF2.out.noTrans f3)
  clear f3 d2_0 d2_1 d2_2 d2_3 d2_4 d2_5 d2_6 d2_7 d2_8 d2_9
  go_wp2_with fail
  refine (K3.out _).mono ?_
  rintro e w' ⟨rfl, rfl⟩
  go_wp2_with fail
  go_ret2
  exact ⟨rfl, HF3.out⟩
set_option maxHeartbeats 4000000 in
theorem atRR_4 (a0 : Option Addr) (l0 k0 : Nat) (a1 : Option Addr) (l1 k1 : Nat) (a2 : Option Addr) (l2 k2 : Nat) (e o t : Int) (ps : List Pt) (zs : List Int) (ws : List Wl) (ax ay bx by_ p : Int) (w : World) (hp : PtsIn w a0 l0 ps) (hz : IntsIn w a1 l1 zs) (hw : WlsIn w a2 l2 ws) (g0 : ckB l0 l1 l2 e o t ps zs ws = true) (g1 : ptB ax ay = true) (g2 : ptB bx by_ = true) (g3 : isP p = true) :
    Calls Try.prog 107 #[.agg #[.slice a0 l0 k0, .slice a1 l1 k1, .slice a2 l2 k2, .int .i64 e, .int .i64 o, .int .i64 t], .agg #[.int .i64 ax, .int .i64 ay], .int .i64 p, .agg #[.int .i64 bx, .int .i64 by_]] w fun e' w' => e' = .returned (.tuple #[.int .i64 (arF e ax ay bx by_ p ws), .int .i64 0]) ∧ Fr no w w' := by
  have G := ckB_t g0
  obtain ⟨n1, n2⟩ := pt_near g1
  obtain ⟨n3, n4⟩ := pt_near g2
  have K0 := Lib.hid (fun (w' : World) (h : Fr no w w') => checkR_any a0 l0 k0 a1 l1 k1 a2 l2 k2 e o t ps zs ws w' (hp.kept h) (hz.kept h) (hw.kept h))
  rw [g0] at K0
  have K1 := Lib.hid (fun w => point_any ax ay w)
  rw [g1] at K1
  have K2 := Lib.hid (fun w => point_any bx by_ w)
  rw [g2] at K2
  have K3 := Lib.hid (fun w => isR_any p w)
  rw [g3] at K3
  have K4 := Lib.hid (fun (w' : World) (h : Fr no w w') => atR_any a0 l0 k0 a1 l1 k1 a2 l2 k2 e o t ax ay bx by_ p ws w' G.ex (hw.kept h) G.ws (Nat.le_trans G.n3 (by decide)) n1 n2 n3 n4 g3)
  clear hp hz hw g0 g1 g2 g3 G n1 n2 n3 n4
  have KS := Lib.hid (show ∀ w0 w' : World, Fr no w0 w' → w0.cell? ⟨w.heap.size, 0, none⟩ = some (.slice a0 l0 k0) → w0.cell? ⟨w.heap.size, 1, none⟩ = some (.slice a1 l1 k1) → w0.cell? ⟨w.heap.size, 2, none⟩ = some (.slice a2 l2 k2) → w0.cell? ⟨w.heap.size, 3, none⟩ = some (.int .i64 e) → w0.cell? ⟨w.heap.size, 4, none⟩ = some (.int .i64 o) → w0.cell? ⟨w.heap.size, 5, none⟩ = some (.int .i64 t) → w0.cell? ⟨w.heap.size + 1, 0, none⟩ = some (.int .i64 ax) → w0.cell? ⟨w.heap.size + 1, 1, none⟩ = some (.int .i64 ay) → w0.cell? ⟨w.heap.size + 1 + 1, 0, none⟩ = some (.int .i64 bx) → w0.cell? ⟨w.heap.size + 1 + 1, 1, none⟩ = some (.int .i64 by_) → (w'.cell? ⟨w.heap.size, 0, none⟩ = some (.slice a0 l0 k0) ∧ w'.cell? ⟨w.heap.size, 1, none⟩ = some (.slice a1 l1 k1) ∧ w'.cell? ⟨w.heap.size, 2, none⟩ = some (.slice a2 l2 k2) ∧ w'.cell? ⟨w.heap.size, 3, none⟩ = some (.int .i64 e) ∧ w'.cell? ⟨w.heap.size, 4, none⟩ = some (.int .i64 o) ∧ w'.cell? ⟨w.heap.size, 5, none⟩ = some (.int .i64 t) ∧ w'.cell? ⟨w.heap.size + 1, 0, none⟩ = some (.int .i64 ax) ∧ w'.cell? ⟨w.heap.size + 1, 1, none⟩ = some (.int .i64 ay) ∧ w'.cell? ⟨w.heap.size + 1 + 1, 0, none⟩ = some (.int .i64 bx) ∧ w'.cell? ⟨w.heap.size + 1 + 1, 1, none⟩ = some (.int .i64 by_)) from fun _ _ h a0 a1 a2 a3 a4 a5 a6 a7 a8 a9 => ⟨h.keepc a0, h.keepc a1, h.keepc a2, h.keepc a3, h.keepc a4, h.keepc a5, h.keepc a6, h.keepc a7, h.keepc a8, h.keepc a9⟩)
  obtain ⟨W, hW⟩ : ∃ W, W = (((w.alloc (.cells #[.slice a0 l0 k0, .slice a1 l1 k1, .slice a2 l2 k2, .int .i64 e, .int .i64 o, .int .i64 t] 26 (0, 0))).alloc (.cells #[.int .i64 ax, .int .i64 ay] 42 (0, 0))).alloc (.cells #[.int .i64 bx, .int .i64 by_] 42 (0, 0))) := ⟨_, rfl⟩
  have HF := Lib.hid (show Fr no w W by rw [hW]; exact (((Fr.refl no w).alloc _).alloc _).alloc _)
  have c0 : W.cell? ⟨w.heap.size, 0, none⟩ = some (.slice a0 l0 k0) := by rw [hW]; go_simp
  have c1 : W.cell? ⟨w.heap.size, 1, none⟩ = some (.slice a1 l1 k1) := by rw [hW]; go_simp
  have c2 : W.cell? ⟨w.heap.size, 2, none⟩ = some (.slice a2 l2 k2) := by rw [hW]; go_simp
  have c3 : W.cell? ⟨w.heap.size, 3, none⟩ = some (.int .i64 e) := by rw [hW]; go_simp
  have c4 : W.cell? ⟨w.heap.size, 4, none⟩ = some (.int .i64 o) := by rw [hW]; go_simp
  have c5 : W.cell? ⟨w.heap.size, 5, none⟩ = some (.int .i64 t) := by rw [hW]; go_simp
  have c6 : W.cell? ⟨w.heap.size + 1, 0, none⟩ = some (.int .i64 ax) := by rw [hW]; go_simp
  have c7 : W.cell? ⟨w.heap.size + 1, 1, none⟩ = some (.int .i64 ay) := by rw [hW]; go_simp
  have c8 : W.cell? ⟨w.heap.size + 1 + 1, 0, none⟩ = some (.int .i64 bx) := by rw [hW]; go_simp
  have c9 : W.cell? ⟨w.heap.size + 1 + 1, 1, none⟩ = some (.int .i64 by_) := by rw [hW]; go_simp
  have HW := Lib.hid hW
  clear hW
  go_enter Try.func107, Try.ntmps107
  go_wp2_with fail
  rw [← HW.out]
  refine (K0.out _ HF.out).mono ?_
  rintro e y1 ⟨rfl, f1⟩
  obtain ⟨d1_0, d1_1, d1_2, d1_3, d1_4, d1_5, d1_6, d1_7, d1_8, d1_9⟩ := KS.out _ _ f1 c0 c1 c2 c3 c4 c5 c6 c7 c8 c9
  have HF1 := Lib.hid (HF.out.noTrans f1)
  clear f1 c0 c1 c2 c3 c4 c5 c6 c7 c8 c9
  go_wp2_with fail
  refine (K1.out _).mono ?_
  rintro e y2 ⟨rfl, f2⟩
  obtain ⟨d2_0, d2_1, d2_2, d2_3, d2_4, d2_5, d2_6, d2_7, d2_8, d2_9⟩ := KS.out _ _ f2 d1_0 d1_1 d1_2 d1_3 d1_4 d1_5 d1_6 d1_7 d1_8 d1_9
  have HF2 := Lib.hid (HF1.out.noTrans f2)
  clear f2 d1_0 d1_1 d1_2 d1_3 d1_4 d1_5 d1_6 d1_7 d1_8 d1_9
  go_wp2_with fail
  refine (K2.out _).mono ?_
  rintro e y3 ⟨rfl, f3⟩
  obtain ⟨d3_0, d3_1, d3_2, d3_3, d3_4, d3_5, d3_6, d3_7, d3_8, d3_9⟩ := KS.out _ _ f3 d2_0 d2_1 d2_2 d2_3 d2_4 d2_5 d2_6 d2_7 d2_8 d2_9
  have HF3 := Lib.hid (HF2.out.noTrans f3)
  clear f3 d2_0 d2_1 d2_2 d2_3 d2_4 d2_5 d2_6 d2_7 d2_8 d2_9
  go_wp2_with fail
  refine (K3.out _).mono ?_
  rintro e w' ⟨rfl, rfl⟩
  go_wp2_with fail
  refine (K4.out _ HF3.out).mono ?_
  rintro e y4 ⟨rfl, f4⟩
  obtain ⟨d4_0, d4_1, d4_2, d4_3, d4_4, d4_5, d4_6, d4_7, d4_8, d4_9⟩ := KS.out _ _ f4 d3_0 d3_1 d3_2 d3_3 d3_4 d3_5 d3_6 d3_7 d3_8 d3_9
  have HF4 := Lib.hid (HF3.out.noTrans f4)
  clear f4 d3_0 d3_1 d3_2 d3_3 d3_4 d3_5 d3_6 d3_7 d3_8 d3_9
  go_wp2_with fail
  go_ret2
  exact ⟨rfl, HF4.out⟩
theorem atRR_any (a0 : Option Addr) (l0 k0 : Nat) (a1 : Option Addr) (l1 k1 : Nat) (a2 : Option Addr) (l2 k2 : Nat) (e o t : Int) (ps : List Pt) (zs : List Int) (ws : List Wl) (ax ay bx by_ p : Int) (w : World) (hp : PtsIn w a0 l0 ps) (hz : IntsIn w a1 l1 zs) (hw : WlsIn w a2 l2 ws) :
    Calls Try.prog 107 #[.agg #[.slice a0 l0 k0, .slice a1 l1 k1, .slice a2 l2 k2, .int .i64 e, .int .i64 o, .int .i64 t], .agg #[.int .i64 ax, .int .i64 ay], .int .i64 p, .agg #[.int .i64 bx, .int .i64 by_]] w fun e' w' => e' = .returned (.tuple #[.int .i64 (atV (ckB l0 l1 l2 e o t ps zs ws) e ax ay bx by_ p ws), .int .i64 (atE (ckB l0 l1 l2 e o t ps zs ws) ax ay bx by_ p)]) ∧ Fr no w w' := by
  cases g0 : ckB l0 l1 l2 e o t ps zs ws
  · have h0 := atRR_0 a0 l0 k0 a1 l1 k1 a2 l2 k2 e o t ps zs ws ax ay bx by_ p w hp hz hw g0
    simp only [atV, atE, atB, Bool.false_and, Bool.false_eq_true, if_false]
    exact h0
  cases g1 : ptB ax ay
  · have h0 := atRR_1 a0 l0 k0 a1 l1 k1 a2 l2 k2 e o t ps zs ws ax ay bx by_ p w hp hz hw g0 g1
    simp only [atV, atE, atB, g1, Bool.false_and, Bool.and_false, Bool.false_eq_true, if_false, if_true]
    exact h0
  cases g2 : ptB bx by_
  · have h0 := atRR_2 a0 l0 k0 a1 l1 k1 a2 l2 k2 e o t ps zs ws ax ay bx by_ p w hp hz hw g0 g1 g2
    simp only [atV, atE, atB, g1, g2, Bool.false_and, Bool.and_false, Bool.false_eq_true, if_false, if_true]
    exact h0
  cases g3 : isP p
  · have h0 := atRR_3 a0 l0 k0 a1 l1 k1 a2 l2 k2 e o t ps zs ws ax ay bx by_ p w hp hz hw g0 g1 g2 g3
    simp only [atV, atE, atB, g1, g2, g3, Bool.and_false, Bool.false_eq_true, if_false, if_true]
    exact h0
  have h0 := atRR_4 a0 l0 k0 a1 l1 k1 a2 l2 k2 e o t ps zs ws ax ay bx by_ p w hp hz hw g0 g1 g2 g3
  simp only [atV, atE, atB, g1, g2, g3, Bool.and_true, if_true]
  exact h0
def hnB (l0 : Nat) (n : Int) : Bool := inR n 0 ((l0 : Int) - 1)
theorem hnB_t {l0 : Nat} {n : Int} (h : hnB l0 n = true) : 0 ≤ n ∧ n < l0 := by
  have := inR_t.1 h
  omega
theorem hasNode_any (a0 : Option Addr) (l0 k0 : Nat) (a1 : Option Addr) (l1 k1 : Nat) (a2 : Option Addr) (l2 k2 : Nat) (e o t : Int) (n : Int) (w : World) (hl : l0 ≤ 40) : Calls Try.prog 76 #[.agg #[.slice a0 l0 k0, .slice a1 l1 k1, .slice a2 l2 k2, .int .i64 e, .int .i64 o, .int .i64 t], .int .i64 n] w fun e w' => e = .returned (.bool (hnB l0 n)) ∧ Fr no w w' := by
  have K := Lib.hid (fun w => within_any n 0 ((l0 : Int) - 1) w)
  have hI : (l0 : Int) ≤ 40 := by omega
  clear hl
  go_enter Try.func76, Try.ntmps76
  go_wp2_with fail
  refine (K.out _).mono ?_
  rintro e w' ⟨rfl, rfl⟩
  go_wp2_with fail
  go_ret
  exact ⟨rfl, (Fr.refl no w).alloc _⟩
/-- The power of a node at another one. -/
def btF (e : Int) (ps : List Pt) (zs : List Int) (ws : List Wl) (a b : Int) : Int :=
  if a = b then 0 else arF e (ptAt ps a.toNat).x (ptAt ps a.toNat).y (ptAt ps b.toNat).x (ptAt ps b.toNat).y (zs.getD a.toNat 0) ws
theorem ptAt_ok {ps : List Pt} (h : ps.all ptOk = true) {i : Nat} (hi : i < ps.length) : ptB (ptAt ps i).x (ptAt ps i).y = true := all_get ptOk ⟨0, 0⟩ ps i hi h
theorem btF_bound (e : Int) (ps : List Pt) (zs : List Int) (ws : List Wl) (a b : Int) (h : zs.all isP = true) (ha : a.toNat < zs.length) : 0 ≤ btF e ps zs ws a b ∧ btF e ps zs ws a b ≤ MX := by
  unfold btF
  split
  · exact ⟨Int.le_refl _, by decide⟩
  · exact arF_bound _ _ _ _ _ _ _ (all_get isP 0 zs a.toNat ha h)
set_option maxHeartbeats 8000000 in
theorem between_any (a0 : Option Addr) (l0 k0 : Nat) (a1 : Option Addr) (l1 k1 : Nat) (a2 : Option Addr) (l2 k2 : Nat) (e o t : Int) (ps : List Pt) (zs : List Int) (ws : List Wl) (a b : Nat) (w : World) (hp : PtsIn w a0 l0 ps) (hz : IntsIn w a1 l1 zs) (hw : WlsIn w a2 l2 ws) (hg : Good l0 l1 l2 e o t ps zs ws) (ha : a < l0) (hb : b < l0) :
    Calls Try.prog 68 #[.agg #[.slice a0 l0 k0, .slice a1 l1 k1, .slice a2 l2 k2, .int .i64 e, .int .i64 o, .int .i64 t], .int .i64 a, .int .i64 b] w fun e' w' => e' = .returned (.int .i64 (btF e ps zs ws a b)) ∧ Fr no w w' := by
  by_cases hab : a = b
  · subst hab
    have HV := Lib.hid (show btF e ps zs ws a a = 0 by simp [btF])
    clear hp hz hw hg ha hb
    go_enter Try.func68, Try.ntmps68
    go_wp2_with fail
    go_ret
    rw [HV.out]
    exact ⟨rfl, (Fr.refl no w).alloc _⟩
  have r1 := hg.n1
  have r2 := hg.n2
  have la := hp.1
  have lz := hz.1
  have pa := ptAt_ok hg.ps (show a < ps.length by omega)
  have pb := ptAt_ok hg.ps (show b < ps.length by omega)
  have pz := all_get isP 0 zs a (by omega) hg.zs
  obtain ⟨bp, op, rfl, ea0, ea1⟩ := hp.2 a (by omega)
  obtain ⟨b', o', heq, eb0, eb1⟩ := hp.2 b (by omega)
  obtain ⟨rfl, rfl⟩ : b' = bp ∧ o' = op := by cases heq; exact ⟨rfl, rfl⟩
  obtain ⟨bz, oz, rfl, ez⟩ := hz.2 a (by omega)
  have HV := Lib.hid (show btF e ps zs ws a b = arF e (ptAt ps a).x (ptAt ps a).y (ptAt ps b).x (ptAt ps b).y (zs.getD a 0) ws by unfold btF; rw [if_neg (by omega)]; rfl)
  obtain ⟨n1, n2⟩ := pt_near pa
  obtain ⟨n3, n4⟩ := pt_near pb
  have K := fun (w' : World) (h : Fr no w w') => arriving_any (some ⟨b', o', none⟩) l0 k0 (some ⟨bz, oz, none⟩) l1 k1 a2 l2 k2 e o t (ptAt ps a).x (ptAt ps a).y (ptAt ps b).x (ptAt ps b).y (zs.getD a 0) ws w' hg.ex (hw.kept h) hg.ws (Nat.le_trans hg.n3 (by decide)) n1 n2 n3 n4 pz
  clear n1 n2 n3 n4 pa pb pz
  generalize (ptAt ps a).x = ax at *
  generalize (ptAt ps a).y = ay at *
  generalize (ptAt ps b).x = bx at *
  generalize (ptAt ps b).y = by_ at *
  generalize zs.getD a 0 = p at *
  have K := Lib.hid K
  have hab1 : ((a : Int) == (b : Int)) = false := by rw [beq_eq_false_iff_ne]; omega
  have i1 : (a : Int) < (l0 : Int) := by omega
  have i2 : (b : Int) < (l0 : Int) := by omega
  have i3 : (a : Int) < (l1 : Int) := by omega
  have i4 : a < l1 := by omega
  have i5 : (l0 : Int) ≤ 32 := by omega
  clear hp hz hw hg hab r1 r2 la lz
  have KS := Lib.hid (show ∀ w0 w' : World, Fr no w0 w' → w0.cell? ⟨w.heap.size, 0, none⟩ = some (.slice (some ⟨b', o', none⟩) l0 k0) → w0.cell? ⟨w.heap.size, 1, none⟩ = some (.slice (some ⟨bz, oz, none⟩) l1 k1) → w0.cell? ⟨w.heap.size, 2, none⟩ = some (.slice a2 l2 k2) → w0.cell? ⟨w.heap.size, 3, none⟩ = some (.int .i64 e) → w0.cell? ⟨w.heap.size, 4, none⟩ = some (.int .i64 o) → w0.cell? ⟨w.heap.size, 5, none⟩ = some (.int .i64 t) → w0.cell? ⟨b', o' + a * 2, none⟩ = some (.int .i64 ax) → w0.cell? ⟨b', o' + a * 2 + 1, none⟩ = some (.int .i64 ay) → w0.cell? ⟨b', o' + b * 2, none⟩ = some (.int .i64 bx) → w0.cell? ⟨b', o' + b * 2 + 1, none⟩ = some (.int .i64 by_) → w0.cell? ⟨bz, oz + a, none⟩ = some (.int .i64 p) → (w'.cell? ⟨w.heap.size, 0, none⟩ = some (.slice (some ⟨b', o', none⟩) l0 k0) ∧ w'.cell? ⟨w.heap.size, 1, none⟩ = some (.slice (some ⟨bz, oz, none⟩) l1 k1) ∧ w'.cell? ⟨w.heap.size, 2, none⟩ = some (.slice a2 l2 k2) ∧ w'.cell? ⟨w.heap.size, 3, none⟩ = some (.int .i64 e) ∧ w'.cell? ⟨w.heap.size, 4, none⟩ = some (.int .i64 o) ∧ w'.cell? ⟨w.heap.size, 5, none⟩ = some (.int .i64 t) ∧ w'.cell? ⟨b', o' + a * 2, none⟩ = some (.int .i64 ax) ∧ w'.cell? ⟨b', o' + a * 2 + 1, none⟩ = some (.int .i64 ay) ∧ w'.cell? ⟨b', o' + b * 2, none⟩ = some (.int .i64 bx) ∧ w'.cell? ⟨b', o' + b * 2 + 1, none⟩ = some (.int .i64 by_) ∧ w'.cell? ⟨bz, oz + a, none⟩ = some (.int .i64 p)) from fun _ _ h a0 a1 a2 a3 a4 a5 a6 a7 a8 a9 a10 => ⟨h.keepc a0, h.keepc a1, h.keepc a2, h.keepc a3, h.keepc a4, h.keepc a5, h.keepc a6, h.keepc a7, h.keepc a8, h.keepc a9, h.keepc a10⟩)
  obtain ⟨W, hW⟩ : ∃ W, W = (w.alloc (.cells #[.slice (some ⟨b', o', none⟩) l0 k0, .slice (some ⟨bz, oz, none⟩) l1 k1, .slice a2 l2 k2, .int .i64 e, .int .i64 o, .int .i64 t] 26 (0, 0))) := ⟨_, rfl⟩
  have HF := Lib.hid (show Fr no w W by rw [hW]; exact (Fr.refl no w).alloc _)
  have c0 : W.cell? ⟨w.heap.size, 0, none⟩ = some (.slice (some ⟨b', o', none⟩) l0 k0) := by rw [hW]; go_simp
  have c1 : W.cell? ⟨w.heap.size, 1, none⟩ = some (.slice (some ⟨bz, oz, none⟩) l1 k1) := by rw [hW]; go_simp
  have c2 : W.cell? ⟨w.heap.size, 2, none⟩ = some (.slice a2 l2 k2) := by rw [hW]; go_simp
  have c3 : W.cell? ⟨w.heap.size, 3, none⟩ = some (.int .i64 e) := by rw [hW]; go_simp
  have c4 : W.cell? ⟨w.heap.size, 4, none⟩ = some (.int .i64 o) := by rw [hW]; go_simp
  have c5 : W.cell? ⟨w.heap.size, 5, none⟩ = some (.int .i64 t) := by rw [hW]; go_simp
  have HW := Lib.hid hW
  clear hW
  have c6 := HF.out.keepc ea0
  have c7 := HF.out.keepc ea1
  have c8 := HF.out.keepc eb0
  have c9 := HF.out.keepc eb1
  have c10 := HF.out.keepc ez
  clear ea0 ea1 eb0 eb1 ez
  go_enter Try.func68, Try.ntmps68
  go_wp2_with fail
  rw [← HW.out]
  have tokf3 : True := trivial
  go_region_held3 (fun w' => w'.cell? ⟨w.heap.size, 0, none⟩ = some (.slice (some ⟨b', o', none⟩) l0 k0) ∧ w'.cell? ⟨w.heap.size, 1, none⟩ = some (.slice (some ⟨bz, oz, none⟩) l1 k1) ∧ w'.cell? ⟨w.heap.size, 2, none⟩ = some (.slice a2 l2 k2) ∧ w'.cell? ⟨w.heap.size, 3, none⟩ = some (.int .i64 e) ∧ w'.cell? ⟨w.heap.size, 4, none⟩ = some (.int .i64 o) ∧ w'.cell? ⟨w.heap.size, 5, none⟩ = some (.int .i64 t) ∧ w'.cell? ⟨b', o' + a * 2, none⟩ = some (.int .i64 ax) ∧ w'.cell? ⟨b', o' + a * 2 + 1, none⟩ = some (.int .i64 ay) ∧ w'.cell? ⟨b', o' + b * 2, none⟩ = some (.int .i64 bx) ∧ w'.cell? ⟨b', o' + b * 2 + 1, none⟩ = some (.int .i64 by_) ∧ w'.cell? ⟨bz, oz + a, none⟩ = some (.int .i64 p)) (go_keep)
    (first
      | (go_at_call 80; have _tk := tokf3; refine (K.out _ HF.out.drew).mono ?_; rintro e w3 ⟨rfl, f3⟩; clear _tk tokf3; obtain ⟨kf30, kf31, kf32, kf33, kf34, kf35, kf36, kf37, kf38, kf39, kf310⟩ := KS.out _ _ f3 c0 c1 c2 c3 c4 c5 c6 c7 c8 c9 c10))
  have HF3 := Lib.hid (HF.out.drew.noTrans f3)
  clear f3
  go_wp2_with fail
  go_ret
  rw [HV.out]
  exact ⟨rfl, HF3.out⟩
def bwB (B : Bool) (l0 : Nat) (a b : Int) : Bool := B && (hnB l0 a && hnB l0 b)
def bwV (B : Bool) (l0 : Nat) (e : Int) (ps : List Pt) (zs : List Int) (ws : List Wl) (a b : Int) : Int := if bwB B l0 a b = true then btF e ps zs ws a b else 0
def bwE (B : Bool) (l0 : Nat) (a b : Int) : Int := if B = true then (if bwB B l0 a b = true then 0 else 7) else 1
set_option maxHeartbeats 4000000 in
theorem betw_0 (a0 : Option Addr) (l0 k0 : Nat) (a1 : Option Addr) (l1 k1 : Nat) (a2 : Option Addr) (l2 k2 : Nat) (e o t : Int) (ps : List Pt) (zs : List Int) (ws : List Wl) (a b : Int) (w : World) (hp : PtsIn w a0 l0 ps) (hz : IntsIn w a1 l1 zs) (hw : WlsIn w a2 l2 ws) (g0 : ckB l0 l1 l2 e o t ps zs ws = false) :
    Calls Try.prog 24 #[.agg #[.slice a0 l0 k0, .slice a1 l1 k1, .slice a2 l2 k2, .int .i64 e, .int .i64 o, .int .i64 t], .int .i64 a, .int .i64 b] w fun e' w' => e' = .returned (.tuple #[.int .i64 0, .int .i64 1]) ∧ Fr no w w' := by
  have K0 := Lib.hid (fun (w' : World) (h : Fr no w w') => check_any a0 l0 k0 a1 l1 k1 a2 l2 k2 e o t ps zs ws w' (hp.kept h) (hz.kept h) (hw.kept h))
  rw [g0] at K0
  clear hp hz hw g0
  have KS := Lib.hid (show ∀ w0 w' : World, Fr no w0 w' → w0.cell? ⟨w.heap.size, 0, none⟩ = some (.slice a0 l0 k0) → w0.cell? ⟨w.heap.size, 1, none⟩ = some (.slice a1 l1 k1) → w0.cell? ⟨w.heap.size, 2, none⟩ = some (.slice a2 l2 k2) → w0.cell? ⟨w.heap.size, 3, none⟩ = some (.int .i64 e) → w0.cell? ⟨w.heap.size, 4, none⟩ = some (.int .i64 o) → w0.cell? ⟨w.heap.size, 5, none⟩ = some (.int .i64 t) → (w'.cell? ⟨w.heap.size, 0, none⟩ = some (.slice a0 l0 k0) ∧ w'.cell? ⟨w.heap.size, 1, none⟩ = some (.slice a1 l1 k1) ∧ w'.cell? ⟨w.heap.size, 2, none⟩ = some (.slice a2 l2 k2) ∧ w'.cell? ⟨w.heap.size, 3, none⟩ = some (.int .i64 e) ∧ w'.cell? ⟨w.heap.size, 4, none⟩ = some (.int .i64 o) ∧ w'.cell? ⟨w.heap.size, 5, none⟩ = some (.int .i64 t)) from fun _ _ h a0 a1 a2 a3 a4 a5 => ⟨h.keepc a0, h.keepc a1, h.keepc a2, h.keepc a3, h.keepc a4, h.keepc a5⟩)
  obtain ⟨W, hW⟩ : ∃ W, W = (w.alloc (.cells #[.slice a0 l0 k0, .slice a1 l1 k1, .slice a2 l2 k2, .int .i64 e, .int .i64 o, .int .i64 t] 26 (0, 0))) := ⟨_, rfl⟩
  have HF := Lib.hid (show Fr no w W by rw [hW]; exact (Fr.refl no w).alloc _)
  have c0 : W.cell? ⟨w.heap.size, 0, none⟩ = some (.slice a0 l0 k0) := by rw [hW]; go_simp
  have c1 : W.cell? ⟨w.heap.size, 1, none⟩ = some (.slice a1 l1 k1) := by rw [hW]; go_simp
  have c2 : W.cell? ⟨w.heap.size, 2, none⟩ = some (.slice a2 l2 k2) := by rw [hW]; go_simp
  have c3 : W.cell? ⟨w.heap.size, 3, none⟩ = some (.int .i64 e) := by rw [hW]; go_simp
  have c4 : W.cell? ⟨w.heap.size, 4, none⟩ = some (.int .i64 o) := by rw [hW]; go_simp
  have c5 : W.cell? ⟨w.heap.size, 5, none⟩ = some (.int .i64 t) := by rw [hW]; go_simp
  have HW := Lib.hid hW
  clear hW
  go_enter Try.func24, Try.ntmps24
  go_wp2_with fail
  rw [← HW.out]
  refine (K0.out _ HF.out).mono ?_
  rintro e y1 ⟨rfl, f1⟩
  obtain ⟨d1_0, d1_1, d1_2, d1_3, d1_4, d1_5⟩ := KS.out _ _ f1 c0 c1 c2 c3 c4 c5
  have HF1 := Lib.hid (HF.out.noTrans f1)
  clear f1 c0 c1 c2 c3 c4 c5
  go_wp2_with fail
  go_ret2
  exact ⟨rfl, HF1.out⟩
set_option maxHeartbeats 4000000 in
theorem betw_1 (a0 : Option Addr) (l0 k0 : Nat) (a1 : Option Addr) (l1 k1 : Nat) (a2 : Option Addr) (l2 k2 : Nat) (e o t : Int) (ps : List Pt) (zs : List Int) (ws : List Wl) (a b : Int) (w : World) (hp : PtsIn w a0 l0 ps) (hz : IntsIn w a1 l1 zs) (hw : WlsIn w a2 l2 ws) (g0 : ckB l0 l1 l2 e o t ps zs ws = true) (g1 : hnB l0 a = false) :
    Calls Try.prog 24 #[.agg #[.slice a0 l0 k0, .slice a1 l1 k1, .slice a2 l2 k2, .int .i64 e, .int .i64 o, .int .i64 t], .int .i64 a, .int .i64 b] w fun e' w' => e' = .returned (.tuple #[.int .i64 0, .int .i64 7]) ∧ Fr no w w' := by
  have G := ckB_t g0
  have l40 : l0 ≤ 40 := Nat.le_trans G.n1 (by decide)
  have K0 := Lib.hid (fun (w' : World) (h : Fr no w w') => check_any a0 l0 k0 a1 l1 k1 a2 l2 k2 e o t ps zs ws w' (hp.kept h) (hz.kept h) (hw.kept h))
  rw [g0] at K0
  have K1 := Lib.hid (fun w => hasNode_any a0 l0 k0 a1 l1 k1 a2 l2 k2 e o t a w l40)
  rw [g1] at K1
  clear hp hz hw g0 g1 G l40
  have KS := Lib.hid (show ∀ w0 w' : World, Fr no w0 w' → w0.cell? ⟨w.heap.size, 0, none⟩ = some (.slice a0 l0 k0) → w0.cell? ⟨w.heap.size, 1, none⟩ = some (.slice a1 l1 k1) → w0.cell? ⟨w.heap.size, 2, none⟩ = some (.slice a2 l2 k2) → w0.cell? ⟨w.heap.size, 3, none⟩ = some (.int .i64 e) → w0.cell? ⟨w.heap.size, 4, none⟩ = some (.int .i64 o) → w0.cell? ⟨w.heap.size, 5, none⟩ = some (.int .i64 t) → (w'.cell? ⟨w.heap.size, 0, none⟩ = some (.slice a0 l0 k0) ∧ w'.cell? ⟨w.heap.size, 1, none⟩ = some (.slice a1 l1 k1) ∧ w'.cell? ⟨w.heap.size, 2, none⟩ = some (.slice a2 l2 k2) ∧ w'.cell? ⟨w.heap.size, 3, none⟩ = some (.int .i64 e) ∧ w'.cell? ⟨w.heap.size, 4, none⟩ = some (.int .i64 o) ∧ w'.cell? ⟨w.heap.size, 5, none⟩ = some (.int .i64 t)) from fun _ _ h a0 a1 a2 a3 a4 a5 => ⟨h.keepc a0, h.keepc a1, h.keepc a2, h.keepc a3, h.keepc a4, h.keepc a5⟩)
  obtain ⟨W, hW⟩ : ∃ W, W = (w.alloc (.cells #[.slice a0 l0 k0, .slice a1 l1 k1, .slice a2 l2 k2, .int .i64 e, .int .i64 o, .int .i64 t] 26 (0, 0))) := ⟨_, rfl⟩
  have HF := Lib.hid (show Fr no w W by rw [hW]; exact (Fr.refl no w).alloc _)
  have c0 : W.cell? ⟨w.heap.size, 0, none⟩ = some (.slice a0 l0 k0) := by rw [hW]; go_simp
  have c1 : W.cell? ⟨w.heap.size, 1, none⟩ = some (.slice a1 l1 k1) := by rw [hW]; go_simp
  have c2 : W.cell? ⟨w.heap.size, 2, none⟩ = some (.slice a2 l2 k2) := by rw [hW]; go_simp
  have c3 : W.cell? ⟨w.heap.size, 3, none⟩ = some (.int .i64 e) := by rw [hW]; go_simp
  have c4 : W.cell? ⟨w.heap.size, 4, none⟩ = some (.int .i64 o) := by rw [hW]; go_simp
  have c5 : W.cell? ⟨w.heap.size, 5, none⟩ = some (.int .i64 t) := by rw [hW]; go_simp
  have HW := Lib.hid hW
  clear hW
  go_enter Try.func24, Try.ntmps24
  go_wp2_with fail
  rw [← HW.out]
  refine (K0.out _ HF.out).mono ?_
  rintro e y1 ⟨rfl, f1⟩
  obtain ⟨d1_0, d1_1, d1_2, d1_3, d1_4, d1_5⟩ := KS.out _ _ f1 c0 c1 c2 c3 c4 c5
  have HF1 := Lib.hid (HF.out.noTrans f1)
  clear f1 c0 c1 c2 c3 c4 c5
  go_wp2_with fail
  refine (K1.out _).mono ?_
  rintro e y2 ⟨rfl, f2⟩
  obtain ⟨d2_0, d2_1, d2_2, d2_3, d2_4, d2_5⟩ := KS.out _ _ f2 d1_0 d1_1 d1_2 d1_3 d1_4 d1_5
  have HF2 := Lib.hid (HF1.out.noTrans f2)
  clear f2 d1_0 d1_1 d1_2 d1_3 d1_4 d1_5
  go_wp2_with fail
  go_ret2
  exact ⟨rfl, HF2.out⟩
set_option maxHeartbeats 4000000 in
theorem betw_2 (a0 : Option Addr) (l0 k0 : Nat) (a1 : Option Addr) (l1 k1 : Nat) (a2 : Option Addr) (l2 k2 : Nat) (e o t : Int) (ps : List Pt) (zs : List Int) (ws : List Wl) (a b : Int) (w : World) (hp : PtsIn w a0 l0 ps) (hz : IntsIn w a1 l1 zs) (hw : WlsIn w a2 l2 ws) (g0 : ckB l0 l1 l2 e o t ps zs ws = true) (g1 : hnB l0 a = true) (g2 : hnB l0 b = false) :
    Calls Try.prog 24 #[.agg #[.slice a0 l0 k0, .slice a1 l1 k1, .slice a2 l2 k2, .int .i64 e, .int .i64 o, .int .i64 t], .int .i64 a, .int .i64 b] w fun e' w' => e' = .returned (.tuple #[.int .i64 0, .int .i64 7]) ∧ Fr no w w' := by
  have G := ckB_t g0
  have l40 : l0 ≤ 40 := Nat.le_trans G.n1 (by decide)
  have K0 := Lib.hid (fun (w' : World) (h : Fr no w w') => check_any a0 l0 k0 a1 l1 k1 a2 l2 k2 e o t ps zs ws w' (hp.kept h) (hz.kept h) (hw.kept h))
  rw [g0] at K0
  have K1 := Lib.hid (fun w => hasNode_any a0 l0 k0 a1 l1 k1 a2 l2 k2 e o t a w l40)
  rw [g1] at K1
  have K2 := Lib.hid (fun w => hasNode_any a0 l0 k0 a1 l1 k1 a2 l2 k2 e o t b w l40)
  rw [g2] at K2
  clear hp hz hw g0 g1 g2 G l40
  have KS := Lib.hid (show ∀ w0 w' : World, Fr no w0 w' → w0.cell? ⟨w.heap.size, 0, none⟩ = some (.slice a0 l0 k0) → w0.cell? ⟨w.heap.size, 1, none⟩ = some (.slice a1 l1 k1) → w0.cell? ⟨w.heap.size, 2, none⟩ = some (.slice a2 l2 k2) → w0.cell? ⟨w.heap.size, 3, none⟩ = some (.int .i64 e) → w0.cell? ⟨w.heap.size, 4, none⟩ = some (.int .i64 o) → w0.cell? ⟨w.heap.size, 5, none⟩ = some (.int .i64 t) → (w'.cell? ⟨w.heap.size, 0, none⟩ = some (.slice a0 l0 k0) ∧ w'.cell? ⟨w.heap.size, 1, none⟩ = some (.slice a1 l1 k1) ∧ w'.cell? ⟨w.heap.size, 2, none⟩ = some (.slice a2 l2 k2) ∧ w'.cell? ⟨w.heap.size, 3, none⟩ = some (.int .i64 e) ∧ w'.cell? ⟨w.heap.size, 4, none⟩ = some (.int .i64 o) ∧ w'.cell? ⟨w.heap.size, 5, none⟩ = some (.int .i64 t)) from fun _ _ h a0 a1 a2 a3 a4 a5 => ⟨h.keepc a0, h.keepc a1, h.keepc a2, h.keepc a3, h.keepc a4, h.keepc a5⟩)
  obtain ⟨W, hW⟩ : ∃ W, W = (w.alloc (.cells #[.slice a0 l0 k0, .slice a1 l1 k1, .slice a2 l2 k2, .int .i64 e, .int .i64 o, .int .i64 t] 26 (0, 0))) := ⟨_, rfl⟩
  have HF := Lib.hid (show Fr no w W by rw [hW]; exact (Fr.refl no w).alloc _)
  have c0 : W.cell? ⟨w.heap.size, 0, none⟩ = some (.slice a0 l0 k0) := by rw [hW]; go_simp
  have c1 : W.cell? ⟨w.heap.size, 1, none⟩ = some (.slice a1 l1 k1) := by rw [hW]; go_simp
  have c2 : W.cell? ⟨w.heap.size, 2, none⟩ = some (.slice a2 l2 k2) := by rw [hW]; go_simp
  have c3 : W.cell? ⟨w.heap.size, 3, none⟩ = some (.int .i64 e) := by rw [hW]; go_simp
  have c4 : W.cell? ⟨w.heap.size, 4, none⟩ = some (.int .i64 o) := by rw [hW]; go_simp
  have c5 : W.cell? ⟨w.heap.size, 5, none⟩ = some (.int .i64 t) := by rw [hW]; go_simp
  have HW := Lib.hid hW
  clear hW
  go_enter Try.func24, Try.ntmps24
  go_wp2_with fail
  rw [← HW.out]
  refine (K0.out _ HF.out).mono ?_
  rintro e y1 ⟨rfl, f1⟩
  obtain ⟨d1_0, d1_1, d1_2, d1_3, d1_4, d1_5⟩ := KS.out _ _ f1 c0 c1 c2 c3 c4 c5
  have HF1 := Lib.hid (HF.out.noTrans f1)
  clear f1 c0 c1 c2 c3 c4 c5
  go_wp2_with fail
  refine (K1.out _).mono ?_
  rintro e y2 ⟨rfl, f2⟩
  obtain ⟨d2_0, d2_1, d2_2, d2_3, d2_4, d2_5⟩ := KS.out _ _ f2 d1_0 d1_1 d1_2 d1_3 d1_4 d1_5
  have HF2 := Lib.hid (HF1.out.noTrans f2)
  clear f2 d1_0 d1_1 d1_2 d1_3 d1_4 d1_5
  go_wp2_with fail
  refine (K2.out _).mono ?_
  rintro e y3 ⟨rfl, f3⟩
  obtain ⟨d3_0, d3_1, d3_2, d3_3, d3_4, d3_5⟩ := KS.out _ _ f3 d2_0 d2_1 d2_2 d2_3 d2_4 d2_5
  have HF3 := Lib.hid (HF2.out.noTrans f3)
  clear f3 d2_0 d2_1 d2_2 d2_3 d2_4 d2_5
  go_wp2_with fail
  go_ret2
  exact ⟨rfl, HF3.out⟩
set_option maxHeartbeats 4000000 in
theorem betw_3 (a0 : Option Addr) (l0 k0 : Nat) (a1 : Option Addr) (l1 k1 : Nat) (a2 : Option Addr) (l2 k2 : Nat) (e o t : Int) (ps : List Pt) (zs : List Int) (ws : List Wl) (a b : Int) (w : World) (hp : PtsIn w a0 l0 ps) (hz : IntsIn w a1 l1 zs) (hw : WlsIn w a2 l2 ws) (g0 : ckB l0 l1 l2 e o t ps zs ws = true) (g1 : hnB l0 a = true) (g2 : hnB l0 b = true) :
    Calls Try.prog 24 #[.agg #[.slice a0 l0 k0, .slice a1 l1 k1, .slice a2 l2 k2, .int .i64 e, .int .i64 o, .int .i64 t], .int .i64 a, .int .i64 b] w fun e' w' => e' = .returned (.tuple #[.int .i64 (btF e ps zs ws a b), .int .i64 0]) ∧ Fr no w w' := by
  have G := ckB_t g0
  have l40 : l0 ≤ 40 := Nat.le_trans G.n1 (by decide)
  have K0 := Lib.hid (fun (w' : World) (h : Fr no w w') => check_any a0 l0 k0 a1 l1 k1 a2 l2 k2 e o t ps zs ws w' (hp.kept h) (hz.kept h) (hw.kept h))
  rw [g0] at K0
  have K1 := Lib.hid (fun w => hasNode_any a0 l0 k0 a1 l1 k1 a2 l2 k2 e o t a w l40)
  rw [g1] at K1
  have K2 := Lib.hid (fun w => hasNode_any a0 l0 k0 a1 l1 k1 a2 l2 k2 e o t b w l40)
  rw [g2] at K2
  have K3 := Lib.hid (fun (w' : World) (h : Fr no w w') => between_any a0 l0 k0 a1 l1 k1 a2 l2 k2 e o t ps zs ws a.toNat b.toNat w' (hp.kept h) (hz.kept h) (hw.kept h) G (by have := hnB_t g1; omega) (by have := hnB_t g2; omega))
  rw [Int.toNat_of_nonneg (hnB_t g1).1, Int.toNat_of_nonneg (hnB_t g2).1] at K3
  clear hp hz hw g0 g1 g2 G l40
  have KS := Lib.hid (show ∀ w0 w' : World, Fr no w0 w' → w0.cell? ⟨w.heap.size, 0, none⟩ = some (.slice a0 l0 k0) → w0.cell? ⟨w.heap.size, 1, none⟩ = some (.slice a1 l1 k1) → w0.cell? ⟨w.heap.size, 2, none⟩ = some (.slice a2 l2 k2) → w0.cell? ⟨w.heap.size, 3, none⟩ = some (.int .i64 e) → w0.cell? ⟨w.heap.size, 4, none⟩ = some (.int .i64 o) → w0.cell? ⟨w.heap.size, 5, none⟩ = some (.int .i64 t) → (w'.cell? ⟨w.heap.size, 0, none⟩ = some (.slice a0 l0 k0) ∧ w'.cell? ⟨w.heap.size, 1, none⟩ = some (.slice a1 l1 k1) ∧ w'.cell? ⟨w.heap.size, 2, none⟩ = some (.slice a2 l2 k2) ∧ w'.cell? ⟨w.heap.size, 3, none⟩ = some (.int .i64 e) ∧ w'.cell? ⟨w.heap.size, 4, none⟩ = some (.int .i64 o) ∧ w'.cell? ⟨w.heap.size, 5, none⟩ = some (.int .i64 t)) from fun _ _ h a0 a1 a2 a3 a4 a5 => ⟨h.keepc a0, h.keepc a1, h.keepc a2, h.keepc a3, h.keepc a4, h.keepc a5⟩)
  obtain ⟨W, hW⟩ : ∃ W, W = (w.alloc (.cells #[.slice a0 l0 k0, .slice a1 l1 k1, .slice a2 l2 k2, .int .i64 e, .int .i64 o, .int .i64 t] 26 (0, 0))) := ⟨_, rfl⟩
  have HF := Lib.hid (show Fr no w W by rw [hW]; exact (Fr.refl no w).alloc _)
  have c0 : W.cell? ⟨w.heap.size, 0, none⟩ = some (.slice a0 l0 k0) := by rw [hW]; go_simp
  have c1 : W.cell? ⟨w.heap.size, 1, none⟩ = some (.slice a1 l1 k1) := by rw [hW]; go_simp
  have c2 : W.cell? ⟨w.heap.size, 2, none⟩ = some (.slice a2 l2 k2) := by rw [hW]; go_simp
  have c3 : W.cell? ⟨w.heap.size, 3, none⟩ = some (.int .i64 e) := by rw [hW]; go_simp
  have c4 : W.cell? ⟨w.heap.size, 4, none⟩ = some (.int .i64 o) := by rw [hW]; go_simp
  have c5 : W.cell? ⟨w.heap.size, 5, none⟩ = some (.int .i64 t) := by rw [hW]; go_simp
  have HW := Lib.hid hW
  clear hW
  go_enter Try.func24, Try.ntmps24
  go_wp2_with fail
  rw [← HW.out]
  refine (K0.out _ HF.out).mono ?_
  rintro e y1 ⟨rfl, f1⟩
  obtain ⟨d1_0, d1_1, d1_2, d1_3, d1_4, d1_5⟩ := KS.out _ _ f1 c0 c1 c2 c3 c4 c5
  have HF1 := Lib.hid (HF.out.noTrans f1)
  clear f1 c0 c1 c2 c3 c4 c5
  go_wp2_with fail
  refine (K1.out _).mono ?_
  rintro e y2 ⟨rfl, f2⟩
  obtain ⟨d2_0, d2_1, d2_2, d2_3, d2_4, d2_5⟩ := KS.out _ _ f2 d1_0 d1_1 d1_2 d1_3 d1_4 d1_5
  have HF2 := Lib.hid (HF1.out.noTrans f2)
  clear f2 d1_0 d1_1 d1_2 d1_3 d1_4 d1_5
  go_wp2_with fail
  refine (K2.out _).mono ?_
  rintro e y3 ⟨rfl, f3⟩
  obtain ⟨d3_0, d3_1, d3_2, d3_3, d3_4, d3_5⟩ := KS.out _ _ f3 d2_0 d2_1 d2_2 d2_3 d2_4 d2_5
  have HF3 := Lib.hid (HF2.out.noTrans f3)
  clear f3 d2_0 d2_1 d2_2 d2_3 d2_4 d2_5
  go_wp2_with fail
  refine (K3.out _ HF3.out).mono ?_
  rintro e y4 ⟨rfl, f4⟩
  obtain ⟨d4_0, d4_1, d4_2, d4_3, d4_4, d4_5⟩ := KS.out _ _ f4 d3_0 d3_1 d3_2 d3_3 d3_4 d3_5
  have HF4 := Lib.hid (HF3.out.noTrans f4)
  clear f4 d3_0 d3_1 d3_2 d3_3 d3_4 d3_5
  go_wp2_with fail
  go_ret2
  exact ⟨rfl, HF4.out⟩
theorem betweenW_any (a0 : Option Addr) (l0 k0 : Nat) (a1 : Option Addr) (l1 k1 : Nat) (a2 : Option Addr) (l2 k2 : Nat) (e o t : Int) (ps : List Pt) (zs : List Int) (ws : List Wl) (a b : Int) (w : World) (hp : PtsIn w a0 l0 ps) (hz : IntsIn w a1 l1 zs) (hw : WlsIn w a2 l2 ws) :
    Calls Try.prog 24 #[.agg #[.slice a0 l0 k0, .slice a1 l1 k1, .slice a2 l2 k2, .int .i64 e, .int .i64 o, .int .i64 t], .int .i64 a, .int .i64 b] w fun e' w' => e' = .returned (.tuple #[.int .i64 (bwV (ckB l0 l1 l2 e o t ps zs ws) l0 e ps zs ws a b), .int .i64 (bwE (ckB l0 l1 l2 e o t ps zs ws) l0 a b)]) ∧ Fr no w w' := by
  cases g0 : ckB l0 l1 l2 e o t ps zs ws
  · have h0 := betw_0 a0 l0 k0 a1 l1 k1 a2 l2 k2 e o t ps zs ws a b w hp hz hw g0
    simp only [bwV, bwE, bwB, Bool.false_and, Bool.false_eq_true, if_false]
    exact h0
  cases g1 : hnB l0 a
  · have h0 := betw_1 a0 l0 k0 a1 l1 k1 a2 l2 k2 e o t ps zs ws a b w hp hz hw g0 g1
    simp only [bwV, bwE, bwB, g1, Bool.false_and, Bool.and_false, Bool.false_eq_true, if_false, if_true]
    exact h0
  cases g2 : hnB l0 b
  · have h0 := betw_2 a0 l0 k0 a1 l1 k1 a2 l2 k2 e o t ps zs ws a b w hp hz hw g0 g1 g2
    simp only [bwV, bwE, bwB, g1, g2, Bool.and_false, Bool.false_eq_true, if_false, if_true]
    exact h0
  have h0 := betw_3 a0 l0 k0 a1 l1 k1 a2 l2 k2 e o t ps zs ws a b w hp hz hw g0 g1 g2
  simp only [bwV, bwE, bwB, g1, g2, Bool.and_true, if_true]
  exact h0
set_option maxHeartbeats 4000000 in
theorem betwR_0 (a0 : Option Addr) (l0 k0 : Nat) (a1 : Option Addr) (l1 k1 : Nat) (a2 : Option Addr) (l2 k2 : Nat) (e o t : Int) (ps : List Pt) (zs : List Int) (ws : List Wl) (a b : Int) (w : World) (hp : PtsIn w a0 l0 ps) (hz : IntsIn w a1 l1 zs) (hw : WlsIn w a2 l2 ws) (g0 : ckB l0 l1 l2 e o t ps zs ws = false) :
    Calls Try.prog 101 #[.agg #[.slice a0 l0 k0, .slice a1 l1 k1, .slice a2 l2 k2, .int .i64 e, .int .i64 o, .int .i64 t], .int .i64 a, .int .i64 b] w fun e' w' => e' = .returned (.tuple #[.int .i64 0, .int .i64 1]) ∧ Fr no w w' := by
  have K0 := Lib.hid (fun (w' : World) (h : Fr no w w') => checkR_any a0 l0 k0 a1 l1 k1 a2 l2 k2 e o t ps zs ws w' (hp.kept h) (hz.kept h) (hw.kept h))
  rw [g0] at K0
  clear hp hz hw g0
  have KS := Lib.hid (show ∀ w0 w' : World, Fr no w0 w' → w0.cell? ⟨w.heap.size, 0, none⟩ = some (.slice a0 l0 k0) → w0.cell? ⟨w.heap.size, 1, none⟩ = some (.slice a1 l1 k1) → w0.cell? ⟨w.heap.size, 2, none⟩ = some (.slice a2 l2 k2) → w0.cell? ⟨w.heap.size, 3, none⟩ = some (.int .i64 e) → w0.cell? ⟨w.heap.size, 4, none⟩ = some (.int .i64 o) → w0.cell? ⟨w.heap.size, 5, none⟩ = some (.int .i64 t) → (w'.cell? ⟨w.heap.size, 0, none⟩ = some (.slice a0 l0 k0) ∧ w'.cell? ⟨w.heap.size, 1, none⟩ = some (.slice a1 l1 k1) ∧ w'.cell? ⟨w.heap.size, 2, none⟩ = some (.slice a2 l2 k2) ∧ w'.cell? ⟨w.heap.size, 3, none⟩ = some (.int .i64 e) ∧ w'.cell? ⟨w.heap.size, 4, none⟩ = some (.int .i64 o) ∧ w'.cell? ⟨w.heap.size, 5, none⟩ = some (.int .i64 t)) from fun _ _ h a0 a1 a2 a3 a4 a5 => ⟨h.keepc a0, h.keepc a1, h.keepc a2, h.keepc a3, h.keepc a4, h.keepc a5⟩)
  obtain ⟨W, hW⟩ : ∃ W, W = (w.alloc (.cells #[.slice a0 l0 k0, .slice a1 l1 k1, .slice a2 l2 k2, .int .i64 e, .int .i64 o, .int .i64 t] 26 (0, 0))) := ⟨_, rfl⟩
  have HF := Lib.hid (show Fr no w W by rw [hW]; exact (Fr.refl no w).alloc _)
  have c0 : W.cell? ⟨w.heap.size, 0, none⟩ = some (.slice a0 l0 k0) := by rw [hW]; go_simp
  have c1 : W.cell? ⟨w.heap.size, 1, none⟩ = some (.slice a1 l1 k1) := by rw [hW]; go_simp
  have c2 : W.cell? ⟨w.heap.size, 2, none⟩ = some (.slice a2 l2 k2) := by rw [hW]; go_simp
  have c3 : W.cell? ⟨w.heap.size, 3, none⟩ = some (.int .i64 e) := by rw [hW]; go_simp
  have c4 : W.cell? ⟨w.heap.size, 4, none⟩ = some (.int .i64 o) := by rw [hW]; go_simp
  have c5 : W.cell? ⟨w.heap.size, 5, none⟩ = some (.int .i64 t) := by rw [hW]; go_simp
  have HW := Lib.hid hW
  clear hW
  go_enter Try.func101, Try.ntmps101
  go_wp2_with fail
  rw [← HW.out]
  refine (K0.out _ HF.out).mono ?_
  rintro e y1 ⟨rfl, f1⟩
  obtain ⟨d1_0, d1_1, d1_2, d1_3, d1_4, d1_5⟩ := KS.out _ _ f1 c0 c1 c2 c3 c4 c5
  have HF1 := Lib.hid (HF.out.noTrans f1)
  clear f1 c0 c1 c2 c3 c4 c5
  go_wp2_with fail
  go_ret2
  exact ⟨rfl, HF1.out⟩
set_option maxHeartbeats 4000000 in
theorem betwR_1 (a0 : Option Addr) (l0 k0 : Nat) (a1 : Option Addr) (l1 k1 : Nat) (a2 : Option Addr) (l2 k2 : Nat) (e o t : Int) (ps : List Pt) (zs : List Int) (ws : List Wl) (a b : Int) (w : World) (hp : PtsIn w a0 l0 ps) (hz : IntsIn w a1 l1 zs) (hw : WlsIn w a2 l2 ws) (g0 : ckB l0 l1 l2 e o t ps zs ws = true) (g1 : a < 0) :
    Calls Try.prog 101 #[.agg #[.slice a0 l0 k0, .slice a1 l1 k1, .slice a2 l2 k2, .int .i64 e, .int .i64 o, .int .i64 t], .int .i64 a, .int .i64 b] w fun e' w' => e' = .returned (.tuple #[.int .i64 0, .int .i64 7]) ∧ Fr no w w' := by
  have K0 := Lib.hid (fun (w' : World) (h : Fr no w w') => checkR_any a0 l0 k0 a1 l1 k1 a2 l2 k2 e o t ps zs ws w' (hp.kept h) (hz.kept h) (hw.kept h))
  rw [g0] at K0
  clear hp hz hw g0
  have KS := Lib.hid (show ∀ w0 w' : World, Fr no w0 w' → w0.cell? ⟨w.heap.size, 0, none⟩ = some (.slice a0 l0 k0) → w0.cell? ⟨w.heap.size, 1, none⟩ = some (.slice a1 l1 k1) → w0.cell? ⟨w.heap.size, 2, none⟩ = some (.slice a2 l2 k2) → w0.cell? ⟨w.heap.size, 3, none⟩ = some (.int .i64 e) → w0.cell? ⟨w.heap.size, 4, none⟩ = some (.int .i64 o) → w0.cell? ⟨w.heap.size, 5, none⟩ = some (.int .i64 t) → (w'.cell? ⟨w.heap.size, 0, none⟩ = some (.slice a0 l0 k0) ∧ w'.cell? ⟨w.heap.size, 1, none⟩ = some (.slice a1 l1 k1) ∧ w'.cell? ⟨w.heap.size, 2, none⟩ = some (.slice a2 l2 k2) ∧ w'.cell? ⟨w.heap.size, 3, none⟩ = some (.int .i64 e) ∧ w'.cell? ⟨w.heap.size, 4, none⟩ = some (.int .i64 o) ∧ w'.cell? ⟨w.heap.size, 5, none⟩ = some (.int .i64 t)) from fun _ _ h a0 a1 a2 a3 a4 a5 => ⟨h.keepc a0, h.keepc a1, h.keepc a2, h.keepc a3, h.keepc a4, h.keepc a5⟩)
  obtain ⟨W, hW⟩ : ∃ W, W = (w.alloc (.cells #[.slice a0 l0 k0, .slice a1 l1 k1, .slice a2 l2 k2, .int .i64 e, .int .i64 o, .int .i64 t] 26 (0, 0))) := ⟨_, rfl⟩
  have HF := Lib.hid (show Fr no w W by rw [hW]; exact (Fr.refl no w).alloc _)
  have c0 : W.cell? ⟨w.heap.size, 0, none⟩ = some (.slice a0 l0 k0) := by rw [hW]; go_simp
  have c1 : W.cell? ⟨w.heap.size, 1, none⟩ = some (.slice a1 l1 k1) := by rw [hW]; go_simp
  have c2 : W.cell? ⟨w.heap.size, 2, none⟩ = some (.slice a2 l2 k2) := by rw [hW]; go_simp
  have c3 : W.cell? ⟨w.heap.size, 3, none⟩ = some (.int .i64 e) := by rw [hW]; go_simp
  have c4 : W.cell? ⟨w.heap.size, 4, none⟩ = some (.int .i64 o) := by rw [hW]; go_simp
  have c5 : W.cell? ⟨w.heap.size, 5, none⟩ = some (.int .i64 t) := by rw [hW]; go_simp
  have HW := Lib.hid hW
  clear hW
  go_enter Try.func101, Try.ntmps101
  go_wp2_with fail
  rw [← HW.out]
  refine (K0.out _ HF.out).mono ?_
  rintro e y1 ⟨rfl, f1⟩
  obtain ⟨d1_0, d1_1, d1_2, d1_3, d1_4, d1_5⟩ := KS.out _ _ f1 c0 c1 c2 c3 c4 c5
  have HF1 := Lib.hid (HF.out.noTrans f1)
  clear f1 c0 c1 c2 c3 c4 c5
  go_wp2_with fail
  go_ret2
  exact ⟨rfl, HF1.out⟩
set_option maxHeartbeats 4000000 in
theorem betwR_2 (a0 : Option Addr) (l0 k0 : Nat) (a1 : Option Addr) (l1 k1 : Nat) (a2 : Option Addr) (l2 k2 : Nat) (e o t : Int) (ps : List Pt) (zs : List Int) (ws : List Wl) (a b : Int) (w : World) (hp : PtsIn w a0 l0 ps) (hz : IntsIn w a1 l1 zs) (hw : WlsIn w a2 l2 ws) (g0 : ckB l0 l1 l2 e o t ps zs ws = true) (g1 : 0 ≤ a) (g2 : l0 ≤ a) :
    Calls Try.prog 101 #[.agg #[.slice a0 l0 k0, .slice a1 l1 k1, .slice a2 l2 k2, .int .i64 e, .int .i64 o, .int .i64 t], .int .i64 a, .int .i64 b] w fun e' w' => e' = .returned (.tuple #[.int .i64 0, .int .i64 7]) ∧ Fr no w w' := by
  have K0 := Lib.hid (fun (w' : World) (h : Fr no w w') => checkR_any a0 l0 k0 a1 l1 k1 a2 l2 k2 e o t ps zs ws w' (hp.kept h) (hz.kept h) (hw.kept h))
  rw [g0] at K0
  clear hp hz hw g0
  have KS := Lib.hid (show ∀ w0 w' : World, Fr no w0 w' → w0.cell? ⟨w.heap.size, 0, none⟩ = some (.slice a0 l0 k0) → w0.cell? ⟨w.heap.size, 1, none⟩ = some (.slice a1 l1 k1) → w0.cell? ⟨w.heap.size, 2, none⟩ = some (.slice a2 l2 k2) → w0.cell? ⟨w.heap.size, 3, none⟩ = some (.int .i64 e) → w0.cell? ⟨w.heap.size, 4, none⟩ = some (.int .i64 o) → w0.cell? ⟨w.heap.size, 5, none⟩ = some (.int .i64 t) → (w'.cell? ⟨w.heap.size, 0, none⟩ = some (.slice a0 l0 k0) ∧ w'.cell? ⟨w.heap.size, 1, none⟩ = some (.slice a1 l1 k1) ∧ w'.cell? ⟨w.heap.size, 2, none⟩ = some (.slice a2 l2 k2) ∧ w'.cell? ⟨w.heap.size, 3, none⟩ = some (.int .i64 e) ∧ w'.cell? ⟨w.heap.size, 4, none⟩ = some (.int .i64 o) ∧ w'.cell? ⟨w.heap.size, 5, none⟩ = some (.int .i64 t)) from fun _ _ h a0 a1 a2 a3 a4 a5 => ⟨h.keepc a0, h.keepc a1, h.keepc a2, h.keepc a3, h.keepc a4, h.keepc a5⟩)
  obtain ⟨W, hW⟩ : ∃ W, W = (w.alloc (.cells #[.slice a0 l0 k0, .slice a1 l1 k1, .slice a2 l2 k2, .int .i64 e, .int .i64 o, .int .i64 t] 26 (0, 0))) := ⟨_, rfl⟩
  have HF := Lib.hid (show Fr no w W by rw [hW]; exact (Fr.refl no w).alloc _)
  have c0 : W.cell? ⟨w.heap.size, 0, none⟩ = some (.slice a0 l0 k0) := by rw [hW]; go_simp
  have c1 : W.cell? ⟨w.heap.size, 1, none⟩ = some (.slice a1 l1 k1) := by rw [hW]; go_simp
  have c2 : W.cell? ⟨w.heap.size, 2, none⟩ = some (.slice a2 l2 k2) := by rw [hW]; go_simp
  have c3 : W.cell? ⟨w.heap.size, 3, none⟩ = some (.int .i64 e) := by rw [hW]; go_simp
  have c4 : W.cell? ⟨w.heap.size, 4, none⟩ = some (.int .i64 o) := by rw [hW]; go_simp
  have c5 : W.cell? ⟨w.heap.size, 5, none⟩ = some (.int .i64 t) := by rw [hW]; go_simp
  have HW := Lib.hid hW
  clear hW
  go_enter Try.func101, Try.ntmps101
  go_wp2_with fail
  rw [← HW.out]
  refine (K0.out _ HF.out).mono ?_
  rintro e y1 ⟨rfl, f1⟩
  obtain ⟨d1_0, d1_1, d1_2, d1_3, d1_4, d1_5⟩ := KS.out _ _ f1 c0 c1 c2 c3 c4 c5
  have HF1 := Lib.hid (HF.out.noTrans f1)
  clear f1 c0 c1 c2 c3 c4 c5
  go_wp2_with fail
  go_ret2
  exact ⟨rfl, HF1.out⟩
set_option maxHeartbeats 4000000 in
theorem betwR_3 (a0 : Option Addr) (l0 k0 : Nat) (a1 : Option Addr) (l1 k1 : Nat) (a2 : Option Addr) (l2 k2 : Nat) (e o t : Int) (ps : List Pt) (zs : List Int) (ws : List Wl) (a b : Int) (w : World) (hp : PtsIn w a0 l0 ps) (hz : IntsIn w a1 l1 zs) (hw : WlsIn w a2 l2 ws) (g0 : ckB l0 l1 l2 e o t ps zs ws = true) (g1 : 0 ≤ a) (g2 : a < l0) (g3 : b < 0) :
    Calls Try.prog 101 #[.agg #[.slice a0 l0 k0, .slice a1 l1 k1, .slice a2 l2 k2, .int .i64 e, .int .i64 o, .int .i64 t], .int .i64 a, .int .i64 b] w fun e' w' => e' = .returned (.tuple #[.int .i64 0, .int .i64 7]) ∧ Fr no w w' := by
  have K0 := Lib.hid (fun (w' : World) (h : Fr no w w') => checkR_any a0 l0 k0 a1 l1 k1 a2 l2 k2 e o t ps zs ws w' (hp.kept h) (hz.kept h) (hw.kept h))
  rw [g0] at K0
  clear hp hz hw g0
  have KS := Lib.hid (show ∀ w0 w' : World, Fr no w0 w' → w0.cell? ⟨w.heap.size, 0, none⟩ = some (.slice a0 l0 k0) → w0.cell? ⟨w.heap.size, 1, none⟩ = some (.slice a1 l1 k1) → w0.cell? ⟨w.heap.size, 2, none⟩ = some (.slice a2 l2 k2) → w0.cell? ⟨w.heap.size, 3, none⟩ = some (.int .i64 e) → w0.cell? ⟨w.heap.size, 4, none⟩ = some (.int .i64 o) → w0.cell? ⟨w.heap.size, 5, none⟩ = some (.int .i64 t) → (w'.cell? ⟨w.heap.size, 0, none⟩ = some (.slice a0 l0 k0) ∧ w'.cell? ⟨w.heap.size, 1, none⟩ = some (.slice a1 l1 k1) ∧ w'.cell? ⟨w.heap.size, 2, none⟩ = some (.slice a2 l2 k2) ∧ w'.cell? ⟨w.heap.size, 3, none⟩ = some (.int .i64 e) ∧ w'.cell? ⟨w.heap.size, 4, none⟩ = some (.int .i64 o) ∧ w'.cell? ⟨w.heap.size, 5, none⟩ = some (.int .i64 t)) from fun _ _ h a0 a1 a2 a3 a4 a5 => ⟨h.keepc a0, h.keepc a1, h.keepc a2, h.keepc a3, h.keepc a4, h.keepc a5⟩)
  obtain ⟨W, hW⟩ : ∃ W, W = (w.alloc (.cells #[.slice a0 l0 k0, .slice a1 l1 k1, .slice a2 l2 k2, .int .i64 e, .int .i64 o, .int .i64 t] 26 (0, 0))) := ⟨_, rfl⟩
  have HF := Lib.hid (show Fr no w W by rw [hW]; exact (Fr.refl no w).alloc _)
  have c0 : W.cell? ⟨w.heap.size, 0, none⟩ = some (.slice a0 l0 k0) := by rw [hW]; go_simp
  have c1 : W.cell? ⟨w.heap.size, 1, none⟩ = some (.slice a1 l1 k1) := by rw [hW]; go_simp
  have c2 : W.cell? ⟨w.heap.size, 2, none⟩ = some (.slice a2 l2 k2) := by rw [hW]; go_simp
  have c3 : W.cell? ⟨w.heap.size, 3, none⟩ = some (.int .i64 e) := by rw [hW]; go_simp
  have c4 : W.cell? ⟨w.heap.size, 4, none⟩ = some (.int .i64 o) := by rw [hW]; go_simp
  have c5 : W.cell? ⟨w.heap.size, 5, none⟩ = some (.int .i64 t) := by rw [hW]; go_simp
  have HW := Lib.hid hW
  clear hW
  go_enter Try.func101, Try.ntmps101
  go_wp2_with fail
  rw [← HW.out]
  refine (K0.out _ HF.out).mono ?_
  rintro e y1 ⟨rfl, f1⟩
  obtain ⟨d1_0, d1_1, d1_2, d1_3, d1_4, d1_5⟩ := KS.out _ _ f1 c0 c1 c2 c3 c4 c5
  have HF1 := Lib.hid (HF.out.noTrans f1)
  clear f1 c0 c1 c2 c3 c4 c5
  go_wp2_with fail
  go_ret2
  exact ⟨rfl, HF1.out⟩
set_option maxHeartbeats 4000000 in
theorem betwR_4 (a0 : Option Addr) (l0 k0 : Nat) (a1 : Option Addr) (l1 k1 : Nat) (a2 : Option Addr) (l2 k2 : Nat) (e o t : Int) (ps : List Pt) (zs : List Int) (ws : List Wl) (a b : Int) (w : World) (hp : PtsIn w a0 l0 ps) (hz : IntsIn w a1 l1 zs) (hw : WlsIn w a2 l2 ws) (g0 : ckB l0 l1 l2 e o t ps zs ws = true) (g1 : 0 ≤ a) (g2 : a < l0) (g3 : 0 ≤ b) (g4 : l0 ≤ b) :
    Calls Try.prog 101 #[.agg #[.slice a0 l0 k0, .slice a1 l1 k1, .slice a2 l2 k2, .int .i64 e, .int .i64 o, .int .i64 t], .int .i64 a, .int .i64 b] w fun e' w' => e' = .returned (.tuple #[.int .i64 0, .int .i64 7]) ∧ Fr no w w' := by
  have K0 := Lib.hid (fun (w' : World) (h : Fr no w w') => checkR_any a0 l0 k0 a1 l1 k1 a2 l2 k2 e o t ps zs ws w' (hp.kept h) (hz.kept h) (hw.kept h))
  rw [g0] at K0
  clear hp hz hw g0
  have KS := Lib.hid (show ∀ w0 w' : World, Fr no w0 w' → w0.cell? ⟨w.heap.size, 0, none⟩ = some (.slice a0 l0 k0) → w0.cell? ⟨w.heap.size, 1, none⟩ = some (.slice a1 l1 k1) → w0.cell? ⟨w.heap.size, 2, none⟩ = some (.slice a2 l2 k2) → w0.cell? ⟨w.heap.size, 3, none⟩ = some (.int .i64 e) → w0.cell? ⟨w.heap.size, 4, none⟩ = some (.int .i64 o) → w0.cell? ⟨w.heap.size, 5, none⟩ = some (.int .i64 t) → (w'.cell? ⟨w.heap.size, 0, none⟩ = some (.slice a0 l0 k0) ∧ w'.cell? ⟨w.heap.size, 1, none⟩ = some (.slice a1 l1 k1) ∧ w'.cell? ⟨w.heap.size, 2, none⟩ = some (.slice a2 l2 k2) ∧ w'.cell? ⟨w.heap.size, 3, none⟩ = some (.int .i64 e) ∧ w'.cell? ⟨w.heap.size, 4, none⟩ = some (.int .i64 o) ∧ w'.cell? ⟨w.heap.size, 5, none⟩ = some (.int .i64 t)) from fun _ _ h a0 a1 a2 a3 a4 a5 => ⟨h.keepc a0, h.keepc a1, h.keepc a2, h.keepc a3, h.keepc a4, h.keepc a5⟩)
  obtain ⟨W, hW⟩ : ∃ W, W = (w.alloc (.cells #[.slice a0 l0 k0, .slice a1 l1 k1, .slice a2 l2 k2, .int .i64 e, .int .i64 o, .int .i64 t] 26 (0, 0))) := ⟨_, rfl⟩
  have HF := Lib.hid (show Fr no w W by rw [hW]; exact (Fr.refl no w).alloc _)
  have c0 : W.cell? ⟨w.heap.size, 0, none⟩ = some (.slice a0 l0 k0) := by rw [hW]; go_simp
  have c1 : W.cell? ⟨w.heap.size, 1, none⟩ = some (.slice a1 l1 k1) := by rw [hW]; go_simp
  have c2 : W.cell? ⟨w.heap.size, 2, none⟩ = some (.slice a2 l2 k2) := by rw [hW]; go_simp
  have c3 : W.cell? ⟨w.heap.size, 3, none⟩ = some (.int .i64 e) := by rw [hW]; go_simp
  have c4 : W.cell? ⟨w.heap.size, 4, none⟩ = some (.int .i64 o) := by rw [hW]; go_simp
  have c5 : W.cell? ⟨w.heap.size, 5, none⟩ = some (.int .i64 t) := by rw [hW]; go_simp
  have HW := Lib.hid hW
  clear hW
  go_enter Try.func101, Try.ntmps101
  go_wp2_with fail
  rw [← HW.out]
  refine (K0.out _ HF.out).mono ?_
  rintro e y1 ⟨rfl, f1⟩
  obtain ⟨d1_0, d1_1, d1_2, d1_3, d1_4, d1_5⟩ := KS.out _ _ f1 c0 c1 c2 c3 c4 c5
  have HF1 := Lib.hid (HF.out.noTrans f1)
  clear f1 c0 c1 c2 c3 c4 c5
  go_wp2_with fail
  go_ret2
  exact ⟨rfl, HF1.out⟩
set_option maxHeartbeats 4000000 in
theorem betwR_5 (a0 : Option Addr) (l0 k0 : Nat) (a1 : Option Addr) (l1 k1 : Nat) (a2 : Option Addr) (l2 k2 : Nat) (e o t : Int) (ps : List Pt) (zs : List Int) (ws : List Wl) (a b : Int) (w : World) (hp : PtsIn w a0 l0 ps) (hz : IntsIn w a1 l1 zs) (hw : WlsIn w a2 l2 ws) (g0 : ckB l0 l1 l2 e o t ps zs ws = true) (g1 : 0 ≤ a) (g2 : a < l0) (g5 : a = b) :
    Calls Try.prog 101 #[.agg #[.slice a0 l0 k0, .slice a1 l1 k1, .slice a2 l2 k2, .int .i64 e, .int .i64 o, .int .i64 t], .int .i64 a, .int .i64 b] w fun e' w' => e' = .returned (.tuple #[.int .i64 0, .int .i64 0]) ∧ Fr no w w' := by
  have K0 := Lib.hid (fun (w' : World) (h : Fr no w w') => checkR_any a0 l0 k0 a1 l1 k1 a2 l2 k2 e o t ps zs ws w' (hp.kept h) (hz.kept h) (hw.kept h))
  rw [g0] at K0
  subst g5
  clear hp hz hw g0
  have KS := Lib.hid (show ∀ w0 w' : World, Fr no w0 w' → w0.cell? ⟨w.heap.size, 0, none⟩ = some (.slice a0 l0 k0) → w0.cell? ⟨w.heap.size, 1, none⟩ = some (.slice a1 l1 k1) → w0.cell? ⟨w.heap.size, 2, none⟩ = some (.slice a2 l2 k2) → w0.cell? ⟨w.heap.size, 3, none⟩ = some (.int .i64 e) → w0.cell? ⟨w.heap.size, 4, none⟩ = some (.int .i64 o) → w0.cell? ⟨w.heap.size, 5, none⟩ = some (.int .i64 t) → (w'.cell? ⟨w.heap.size, 0, none⟩ = some (.slice a0 l0 k0) ∧ w'.cell? ⟨w.heap.size, 1, none⟩ = some (.slice a1 l1 k1) ∧ w'.cell? ⟨w.heap.size, 2, none⟩ = some (.slice a2 l2 k2) ∧ w'.cell? ⟨w.heap.size, 3, none⟩ = some (.int .i64 e) ∧ w'.cell? ⟨w.heap.size, 4, none⟩ = some (.int .i64 o) ∧ w'.cell? ⟨w.heap.size, 5, none⟩ = some (.int .i64 t)) from fun _ _ h a0 a1 a2 a3 a4 a5 => ⟨h.keepc a0, h.keepc a1, h.keepc a2, h.keepc a3, h.keepc a4, h.keepc a5⟩)
  obtain ⟨W, hW⟩ : ∃ W, W = (w.alloc (.cells #[.slice a0 l0 k0, .slice a1 l1 k1, .slice a2 l2 k2, .int .i64 e, .int .i64 o, .int .i64 t] 26 (0, 0))) := ⟨_, rfl⟩
  have HF := Lib.hid (show Fr no w W by rw [hW]; exact (Fr.refl no w).alloc _)
  have c0 : W.cell? ⟨w.heap.size, 0, none⟩ = some (.slice a0 l0 k0) := by rw [hW]; go_simp
  have c1 : W.cell? ⟨w.heap.size, 1, none⟩ = some (.slice a1 l1 k1) := by rw [hW]; go_simp
  have c2 : W.cell? ⟨w.heap.size, 2, none⟩ = some (.slice a2 l2 k2) := by rw [hW]; go_simp
  have c3 : W.cell? ⟨w.heap.size, 3, none⟩ = some (.int .i64 e) := by rw [hW]; go_simp
  have c4 : W.cell? ⟨w.heap.size, 4, none⟩ = some (.int .i64 o) := by rw [hW]; go_simp
  have c5 : W.cell? ⟨w.heap.size, 5, none⟩ = some (.int .i64 t) := by rw [hW]; go_simp
  have HW := Lib.hid hW
  clear hW
  go_enter Try.func101, Try.ntmps101
  go_wp2_with fail
  rw [← HW.out]
  refine (K0.out _ HF.out).mono ?_
  rintro e y1 ⟨rfl, f1⟩
  obtain ⟨d1_0, d1_1, d1_2, d1_3, d1_4, d1_5⟩ := KS.out _ _ f1 c0 c1 c2 c3 c4 c5
  have HF1 := Lib.hid (HF.out.noTrans f1)
  clear f1 c0 c1 c2 c3 c4 c5
  go_wp2_with fail
  go_ret2
  exact ⟨rfl, HF1.out⟩
set_option maxHeartbeats 8000000 in
theorem betwR_6 (a0 : Option Addr) (l0 k0 : Nat) (a1 : Option Addr) (l1 k1 : Nat) (a2 : Option Addr) (l2 k2 : Nat) (e o t : Int) (ps : List Pt) (zs : List Int) (ws : List Wl) (a b : Nat) (w : World) (hp : PtsIn w a0 l0 ps) (hz : IntsIn w a1 l1 zs) (hw : WlsIn w a2 l2 ws) (g0 : ckB l0 l1 l2 e o t ps zs ws = true) (ha : a < l0) (hb : b < l0) (hab : a ≠ b) :
    Calls Try.prog 101 #[.agg #[.slice a0 l0 k0, .slice a1 l1 k1, .slice a2 l2 k2, .int .i64 e, .int .i64 o, .int .i64 t], .int .i64 a, .int .i64 b] w fun e' w' => e' = .returned (.tuple #[.int .i64 (btF e ps zs ws a b), .int .i64 0]) ∧ Fr no w w' := by
  have hg := ckB_t g0
  have K0 := fun (w' : World) (h : Fr no w w') => checkR_any a0 l0 k0 a1 l1 k1 a2 l2 k2 e o t ps zs ws w' (hp.kept h) (hz.kept h) (hw.kept h)
  rw [g0] at K0
  have r1 := hg.n1
  have r2 := hg.n2
  have la := hp.1
  have lz := hz.1
  have pa := ptAt_ok hg.ps (show a < ps.length by omega)
  have pb := ptAt_ok hg.ps (show b < ps.length by omega)
  have pz := all_get isP 0 zs a (by omega) hg.zs
  obtain ⟨bp, op, rfl, ea0, ea1⟩ := hp.2 a (by omega)
  obtain ⟨b', o', heq, eb0, eb1⟩ := hp.2 b (by omega)
  obtain ⟨rfl, rfl⟩ : b' = bp ∧ o' = op := by cases heq; exact ⟨rfl, rfl⟩
  obtain ⟨bz, oz, rfl, ez⟩ := hz.2 a (by omega)
  have K0 := Lib.hid K0
  have HV := Lib.hid (show btF e ps zs ws a b = arF e (ptAt ps a).x (ptAt ps a).y (ptAt ps b).x (ptAt ps b).y (zs.getD a 0) ws by unfold btF; rw [if_neg (by omega)]; rfl)
  obtain ⟨n1, n2⟩ := pt_near pa
  obtain ⟨n3, n4⟩ := pt_near pb
  have K := fun (w' : World) (h : Fr no w w') => atR_any (some ⟨b', o', none⟩) l0 k0 (some ⟨bz, oz, none⟩) l1 k1 a2 l2 k2 e o t (ptAt ps a).x (ptAt ps a).y (ptAt ps b).x (ptAt ps b).y (zs.getD a 0) ws w' hg.ex (hw.kept h) hg.ws (Nat.le_trans hg.n3 (by decide)) n1 n2 n3 n4 pz
  clear n1 n2 n3 n4 pa pb pz
  generalize (ptAt ps a).x = ax at *
  generalize (ptAt ps a).y = ay at *
  generalize (ptAt ps b).x = bx at *
  generalize (ptAt ps b).y = by_ at *
  generalize zs.getD a 0 = p at *
  have K := Lib.hid K
  have hab1 : ((a : Int) == (b : Int)) = false := by rw [beq_eq_false_iff_ne]; omega
  have i1 : (a : Int) < (l0 : Int) := by omega
  have i2 : (b : Int) < (l0 : Int) := by omega
  have i3 : (a : Int) < (l1 : Int) := by omega
  have i4 : a < l1 := by omega
  have i5 : (l0 : Int) ≤ 32 := by omega
  clear hp hz hw hg hab r1 r2 la lz g0
  have KS := Lib.hid (show ∀ w0 w' : World, Fr no w0 w' → w0.cell? ⟨w.heap.size, 0, none⟩ = some (.slice (some ⟨b', o', none⟩) l0 k0) → w0.cell? ⟨w.heap.size, 1, none⟩ = some (.slice (some ⟨bz, oz, none⟩) l1 k1) → w0.cell? ⟨w.heap.size, 2, none⟩ = some (.slice a2 l2 k2) → w0.cell? ⟨w.heap.size, 3, none⟩ = some (.int .i64 e) → w0.cell? ⟨w.heap.size, 4, none⟩ = some (.int .i64 o) → w0.cell? ⟨w.heap.size, 5, none⟩ = some (.int .i64 t) → w0.cell? ⟨b', o' + a * 2, none⟩ = some (.int .i64 ax) → w0.cell? ⟨b', o' + a * 2 + 1, none⟩ = some (.int .i64 ay) → w0.cell? ⟨b', o' + b * 2, none⟩ = some (.int .i64 bx) → w0.cell? ⟨b', o' + b * 2 + 1, none⟩ = some (.int .i64 by_) → w0.cell? ⟨bz, oz + a, none⟩ = some (.int .i64 p) → (w'.cell? ⟨w.heap.size, 0, none⟩ = some (.slice (some ⟨b', o', none⟩) l0 k0) ∧ w'.cell? ⟨w.heap.size, 1, none⟩ = some (.slice (some ⟨bz, oz, none⟩) l1 k1) ∧ w'.cell? ⟨w.heap.size, 2, none⟩ = some (.slice a2 l2 k2) ∧ w'.cell? ⟨w.heap.size, 3, none⟩ = some (.int .i64 e) ∧ w'.cell? ⟨w.heap.size, 4, none⟩ = some (.int .i64 o) ∧ w'.cell? ⟨w.heap.size, 5, none⟩ = some (.int .i64 t) ∧ w'.cell? ⟨b', o' + a * 2, none⟩ = some (.int .i64 ax) ∧ w'.cell? ⟨b', o' + a * 2 + 1, none⟩ = some (.int .i64 ay) ∧ w'.cell? ⟨b', o' + b * 2, none⟩ = some (.int .i64 bx) ∧ w'.cell? ⟨b', o' + b * 2 + 1, none⟩ = some (.int .i64 by_) ∧ w'.cell? ⟨bz, oz + a, none⟩ = some (.int .i64 p)) from fun _ _ h a0 a1 a2 a3 a4 a5 a6 a7 a8 a9 a10 => ⟨h.keepc a0, h.keepc a1, h.keepc a2, h.keepc a3, h.keepc a4, h.keepc a5, h.keepc a6, h.keepc a7, h.keepc a8, h.keepc a9, h.keepc a10⟩)
  obtain ⟨W, hW⟩ : ∃ W, W = (w.alloc (.cells #[.slice (some ⟨b', o', none⟩) l0 k0, .slice (some ⟨bz, oz, none⟩) l1 k1, .slice a2 l2 k2, .int .i64 e, .int .i64 o, .int .i64 t] 26 (0, 0))) := ⟨_, rfl⟩
  have HF := Lib.hid (show Fr no w W by rw [hW]; exact (Fr.refl no w).alloc _)
  have c0 : W.cell? ⟨w.heap.size, 0, none⟩ = some (.slice (some ⟨b', o', none⟩) l0 k0) := by rw [hW]; go_simp
  have c1 : W.cell? ⟨w.heap.size, 1, none⟩ = some (.slice (some ⟨bz, oz, none⟩) l1 k1) := by rw [hW]; go_simp
  have c2 : W.cell? ⟨w.heap.size, 2, none⟩ = some (.slice a2 l2 k2) := by rw [hW]; go_simp
  have c3 : W.cell? ⟨w.heap.size, 3, none⟩ = some (.int .i64 e) := by rw [hW]; go_simp
  have c4 : W.cell? ⟨w.heap.size, 4, none⟩ = some (.int .i64 o) := by rw [hW]; go_simp
  have c5 : W.cell? ⟨w.heap.size, 5, none⟩ = some (.int .i64 t) := by rw [hW]; go_simp
  have HW := Lib.hid hW
  clear hW
  have c6 := HF.out.keepc ea0
  have c7 := HF.out.keepc ea1
  have c8 := HF.out.keepc eb0
  have c9 := HF.out.keepc eb1
  have c10 := HF.out.keepc ez
  clear ea0 ea1 eb0 eb1 ez
  go_enter Try.func101, Try.ntmps101
  go_wp2_with fail
  rw [← HW.out]
  refine (K0.out _ HF.out).mono ?_
  rintro e y1 ⟨rfl, f1⟩
  obtain ⟨d1_0, d1_1, d1_2, d1_3, d1_4, d1_5, d1_6, d1_7, d1_8, d1_9, d1_10⟩ := KS.out _ _ f1 c0 c1 c2 c3 c4 c5 c6 c7 c8 c9 c10
  have HF1 := Lib.hid (HF.out.noTrans f1)
  clear f1 c0 c1 c2 c3 c4 c5 c6 c7 c8 c9 c10
  go_wp2_with fail
  have tokf3 : True := trivial
  go_region_held3 (fun w' => w'.cell? ⟨w.heap.size, 0, none⟩ = some (.slice (some ⟨b', o', none⟩) l0 k0) ∧ w'.cell? ⟨w.heap.size, 1, none⟩ = some (.slice (some ⟨bz, oz, none⟩) l1 k1) ∧ w'.cell? ⟨w.heap.size, 2, none⟩ = some (.slice a2 l2 k2) ∧ w'.cell? ⟨w.heap.size, 3, none⟩ = some (.int .i64 e) ∧ w'.cell? ⟨w.heap.size, 4, none⟩ = some (.int .i64 o) ∧ w'.cell? ⟨w.heap.size, 5, none⟩ = some (.int .i64 t) ∧ w'.cell? ⟨b', o' + a * 2, none⟩ = some (.int .i64 ax) ∧ w'.cell? ⟨b', o' + a * 2 + 1, none⟩ = some (.int .i64 ay) ∧ w'.cell? ⟨b', o' + b * 2, none⟩ = some (.int .i64 bx) ∧ w'.cell? ⟨b', o' + b * 2 + 1, none⟩ = some (.int .i64 by_) ∧ w'.cell? ⟨bz, oz + a, none⟩ = some (.int .i64 p)) (go_keep)
    (first
      | (go_at_call 140; have _tk := tokf3; refine (K.out _ HF1.out.drew).mono ?_; rintro e w3 ⟨rfl, f3⟩; clear _tk tokf3; obtain ⟨kf30, kf31, kf32, kf33, kf34, kf35, kf36, kf37, kf38, kf39, kf310⟩ := KS.out _ _ f3 d1_0 d1_1 d1_2 d1_3 d1_4 d1_5 d1_6 d1_7 d1_8 d1_9 d1_10))
  have HF3 := Lib.hid (HF1.out.drew.noTrans f3)
  clear f3
  go_wp2_with fail
  go_ret2
  rw [HV.out]
  exact ⟨rfl, HF3.out⟩
theorem betweenR_any (a0 : Option Addr) (l0 k0 : Nat) (a1 : Option Addr) (l1 k1 : Nat) (a2 : Option Addr) (l2 k2 : Nat) (e o t : Int) (ps : List Pt) (zs : List Int) (ws : List Wl) (a b : Int) (w : World) (hp : PtsIn w a0 l0 ps) (hz : IntsIn w a1 l1 zs) (hw : WlsIn w a2 l2 ws) :
    Calls Try.prog 101 #[.agg #[.slice a0 l0 k0, .slice a1 l1 k1, .slice a2 l2 k2, .int .i64 e, .int .i64 o, .int .i64 t], .int .i64 a, .int .i64 b] w fun e' w' => e' = .returned (.tuple #[.int .i64 (bwV (ckB l0 l1 l2 e o t ps zs ws) l0 e ps zs ws a b), .int .i64 (bwE (ckB l0 l1 l2 e o t ps zs ws) l0 a b)]) ∧ Fr no w w' := by
  cases g0 : ckB l0 l1 l2 e o t ps zs ws
  · have h0 := betwR_0 a0 l0 k0 a1 l1 k1 a2 l2 k2 e o t ps zs ws a b w hp hz hw g0
    simp only [bwV, bwE, bwB, Bool.false_and, Bool.false_eq_true, if_false]
    exact h0
  by_cases h1 : 0 ≤ a
  case neg =>
    have g1 : hnB l0 a = false := by simp [hnB, inR]; omega
    have h0 := betwR_1 a0 l0 k0 a1 l1 k1 a2 l2 k2 e o t ps zs ws a b w hp hz hw g0 (by omega)
    simp only [bwV, bwE, bwB, g1, Bool.false_and, Bool.and_false, Bool.false_eq_true, if_false, if_true]
    exact h0
  by_cases h2 : a < l0
  case neg =>
    have g1 : hnB l0 a = false := by simp [hnB, inR]; omega
    have h0 := betwR_2 a0 l0 k0 a1 l1 k1 a2 l2 k2 e o t ps zs ws a b w hp hz hw g0 h1 (by omega)
    simp only [bwV, bwE, bwB, g1, Bool.false_and, Bool.and_false, Bool.false_eq_true, if_false, if_true]
    exact h0
  have g1 : hnB l0 a = true := by simp [hnB, inR]; omega
  by_cases h3 : 0 ≤ b
  case neg =>
    have g2 : hnB l0 b = false := by simp [hnB, inR]; omega
    have h0 := betwR_3 a0 l0 k0 a1 l1 k1 a2 l2 k2 e o t ps zs ws a b w hp hz hw g0 h1 h2 (by omega)
    simp only [bwV, bwE, bwB, g2, Bool.and_false, Bool.false_eq_true, if_false, if_true]
    exact h0
  by_cases h4 : b < l0
  case neg =>
    have g2 : hnB l0 b = false := by simp [hnB, inR]; omega
    have h0 := betwR_4 a0 l0 k0 a1 l1 k1 a2 l2 k2 e o t ps zs ws a b w hp hz hw g0 h1 h2 h3 (by omega)
    simp only [bwV, bwE, bwB, g2, Bool.and_false, Bool.false_eq_true, if_false, if_true]
    exact h0
  have g2 : hnB l0 b = true := by simp [hnB, inR]; omega
  simp only [bwV, bwE, bwB, g1, g2, Bool.and_true, if_true]
  by_cases h5 : a = b
  · have h0 := betwR_5 a0 l0 k0 a1 l1 k1 a2 l2 k2 e o t ps zs ws a b w hp hz hw g0 h1 h2 h5
    rw [btF, if_pos h5]
    exact h0
  · obtain ⟨a, rfl⟩ := Int.eq_ofNat_of_zero_le h1
    obtain ⟨b, rfl⟩ := Int.eq_ofNat_of_zero_le h3
    exact betwR_6 a0 l0 k0 a1 l1 k1 a2 l2 k2 e o t ps zs ws a b w hp hz hw g0 (by omega) (by omega) (by omega)
end Go.Proofs.Ytdenlinehjigaaa
