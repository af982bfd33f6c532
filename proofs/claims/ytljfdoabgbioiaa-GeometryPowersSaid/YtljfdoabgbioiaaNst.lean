/- The nearest node: the program's and the document's. -/
import Derived.Test.YtljfdoabgbioiaaLawC
namespace Go.Proofs.Ytljfdoabgbioiaa
open Go.RowKit
set_option linter.unusedVariables false

def sqP (ps : List Pt) (i : Nat) (x y : Int) : Int := sqF (ptAt ps i).x (ptAt ps i).y x y
/-- The nearest of the first k points. -/
def nb (ps : List Pt) (x y : Int) : Nat → Nat
  | 0 => 0
  | k + 1 => if sqP ps k x y < sqP ps (nb ps x y k) x y then k else nb ps x y k
theorem nb_lt (ps : List Pt) (x y : Int) (k : Nat) : nb ps x y k < k + 1 := by
  induction k with
  | zero => exact Nat.zero_lt_one
  | succ k ih => unfold nb; split <;> omega
theorem nb_lt' (ps : List Pt) (x y : Int) (k : Nat) (h : 0 < k) : nb ps x y k < k := by
  cases k with
  | zero => omega
  | succ k =>
    have := nb_lt ps x y k
    unfold nb
    split <;> omega
theorem nb_one (ps : List Pt) (x y : Int) : nb ps x y 1 = 0 := by unfold nb; split <;> simp [nb]
def nrV (B P : Bool) (n : Nat) : Int := if B = true then (if P = true then (n : Int) else 0) else 0
def nrE (B P : Bool) : Int := if B = true then (if P = true then 0 else 2) else 1
set_option maxHeartbeats 4000000 in
theorem nearest_0 (a0 : Option Addr) (l0 k0 : Nat) (a1 : Option Addr) (l1 k1 : Nat) (a2 : Option Addr) (l2 k2 : Nat) (e o t : Int) (ps : List Pt) (zs : List Int) (ws : List Wl) (x y : Int) (w : World) (hp : PtsIn w a0 l0 ps) (hz : IntsIn w a1 l1 zs) (hw : WlsIn w a2 l2 ws) (g0 : (ckB l0 l1 l2 e o t ps zs ws) = false) : Calls Try.prog 28 #[.agg #[.slice a0 l0 k0, .slice a1 l1 k1, .slice a2 l2 k2, .int .i64 e, .int .i64 o, .int .i64 t], .agg #[.int .i64 x, .int .i64 y]] w fun e' w' => e' = .returned (.tuple #[.int .i64 0, .int .i64 1]) ∧ Fr no w w' := by
  have KS := Lib.hid (show ∀ w0 w' : World, Fr no w0 w' → w0.cell? ⟨w.heap.size, 0, none⟩ = some (.slice a0 l0 k0) → w0.cell? ⟨w.heap.size, 1, none⟩ = some (.slice a1 l1 k1) → w0.cell? ⟨w.heap.size, 2, none⟩ = some (.slice a2 l2 k2) → w0.cell? ⟨w.heap.size, 3, none⟩ = some (.int .i64 e) → w0.cell? ⟨w.heap.size, 4, none⟩ = some (.int .i64 o) → w0.cell? ⟨w.heap.size, 5, none⟩ = some (.int .i64 t) → w0.cell? ⟨w.heap.size + 1, 0, none⟩ = some (.int .i64 x) → w0.cell? ⟨w.heap.size + 1, 1, none⟩ = some (.int .i64 y) → (w'.cell? ⟨w.heap.size, 0, none⟩ = some (.slice a0 l0 k0) ∧ w'.cell? ⟨w.heap.size, 1, none⟩ = some (.slice a1 l1 k1) ∧ w'.cell? ⟨w.heap.size, 2, none⟩ = some (.slice a2 l2 k2) ∧ w'.cell? ⟨w.heap.size, 3, none⟩ = some (.int .i64 e) ∧ w'.cell? ⟨w.heap.size, 4, none⟩ = some (.int .i64 o) ∧ w'.cell? ⟨w.heap.size, 5, none⟩ = some (.int .i64 t) ∧ w'.cell? ⟨w.heap.size + 1, 0, none⟩ = some (.int .i64 x) ∧ w'.cell? ⟨w.heap.size + 1, 1, none⟩ = some (.int .i64 y)) from fun _ _ h a0 a1 a2 a3 a4 a5 a6 a7 => ⟨h.keepc a0, h.keepc a1, h.keepc a2, h.keepc a3, h.keepc a4, h.keepc a5, h.keepc a6, h.keepc a7⟩)
  obtain ⟨W, hW⟩ : ∃ W, W = ((w.alloc (.cells #[.slice a0 l0 k0, .slice a1 l1 k1, .slice a2 l2 k2, .int .i64 e, .int .i64 o, .int .i64 t] 34 (0, 0))).alloc (.cells #[.int .i64 x, .int .i64 y] 23 (0, 0))) := ⟨_, rfl⟩
  have HF := Lib.hid (show Fr no w W by rw [hW]; exact ((Fr.refl no w).alloc _).alloc _)
  have c0 : W.cell? ⟨w.heap.size, 0, none⟩ = some (.slice a0 l0 k0) := by rw [hW]; go_simp
  have c1 : W.cell? ⟨w.heap.size, 1, none⟩ = some (.slice a1 l1 k1) := by rw [hW]; go_simp
  have c2 : W.cell? ⟨w.heap.size, 2, none⟩ = some (.slice a2 l2 k2) := by rw [hW]; go_simp
  have c3 : W.cell? ⟨w.heap.size, 3, none⟩ = some (.int .i64 e) := by rw [hW]; go_simp
  have c4 : W.cell? ⟨w.heap.size, 4, none⟩ = some (.int .i64 o) := by rw [hW]; go_simp
  have c5 : W.cell? ⟨w.heap.size, 5, none⟩ = some (.int .i64 t) := by rw [hW]; go_simp
  have c6 : W.cell? ⟨w.heap.size + 1, 0, none⟩ = some (.int .i64 x) := by rw [hW]; go_simp
  have c7 : W.cell? ⟨w.heap.size + 1, 1, none⟩ = some (.int .i64 y) := by rw [hW]; go_simp
  have HW := Lib.hid hW
  clear hW
  have K24 := fun w' (h : Fr no w w') => check_any a0 l0 k0 a1 l1 k1 a2 l2 k2 e o t ps zs ws w' (hp.kept h) (hz.kept h) (hw.kept h)
  rw [g0, show ckE false = 1 from rfl] at K24
  have K24 := Lib.hid K24
  clear hp hz hw g0
  go_enter Try.func28, Try.ntmps28
  go_wp2_with fail
  rw [← HW.out]
  refine (K24.out _ HF.out).mono ?_
  rintro e y1 ⟨rfl, f1⟩
  obtain ⟨d1_0, d1_1, d1_2, d1_3, d1_4, d1_5, d1_6, d1_7⟩ := KS.out _ _ f1 c0 c1 c2 c3 c4 c5 c6 c7
  have HF1 := Lib.hid (HF.out.noTrans f1)
  clear f1 c0 c1 c2 c3 c4 c5 c6 c7
  go_wp2_with fail
  go_ret2
  exact ⟨rfl, HF1.out⟩
set_option maxHeartbeats 4000000 in
theorem nearest_1 (a0 : Option Addr) (l0 k0 : Nat) (a1 : Option Addr) (l1 k1 : Nat) (a2 : Option Addr) (l2 k2 : Nat) (e o t : Int) (ps : List Pt) (zs : List Int) (ws : List Wl) (x y : Int) (w : World) (hp : PtsIn w a0 l0 ps) (hz : IntsIn w a1 l1 zs) (hw : WlsIn w a2 l2 ws) (g0 : (ckB l0 l1 l2 e o t ps zs ws) = true) (g1 : ptB x y = false) : Calls Try.prog 28 #[.agg #[.slice a0 l0 k0, .slice a1 l1 k1, .slice a2 l2 k2, .int .i64 e, .int .i64 o, .int .i64 t], .agg #[.int .i64 x, .int .i64 y]] w fun e' w' => e' = .returned (.tuple #[.int .i64 0, .int .i64 2]) ∧ Fr no w w' := by
  have KS := Lib.hid (show ∀ w0 w' : World, Fr no w0 w' → w0.cell? ⟨w.heap.size, 0, none⟩ = some (.slice a0 l0 k0) → w0.cell? ⟨w.heap.size, 1, none⟩ = some (.slice a1 l1 k1) → w0.cell? ⟨w.heap.size, 2, none⟩ = some (.slice a2 l2 k2) → w0.cell? ⟨w.heap.size, 3, none⟩ = some (.int .i64 e) → w0.cell? ⟨w.heap.size, 4, none⟩ = some (.int .i64 o) → w0.cell? ⟨w.heap.size, 5, none⟩ = some (.int .i64 t) → w0.cell? ⟨w.heap.size + 1, 0, none⟩ = some (.int .i64 x) → w0.cell? ⟨w.heap.size + 1, 1, none⟩ = some (.int .i64 y) → (w'.cell? ⟨w.heap.size, 0, none⟩ = some (.slice a0 l0 k0) ∧ w'.cell? ⟨w.heap.size, 1, none⟩ = some (.slice a1 l1 k1) ∧ w'.cell? ⟨w.heap.size, 2, none⟩ = some (.slice a2 l2 k2) ∧ w'.cell? ⟨w.heap.size, 3, none⟩ = some (.int .i64 e) ∧ w'.cell? ⟨w.heap.size, 4, none⟩ = some (.int .i64 o) ∧ w'.cell? ⟨w.heap.size, 5, none⟩ = some (.int .i64 t) ∧ w'.cell? ⟨w.heap.size + 1, 0, none⟩ = some (.int .i64 x) ∧ w'.cell? ⟨w.heap.size + 1, 1, none⟩ = some (.int .i64 y)) from fun _ _ h a0 a1 a2 a3 a4 a5 a6 a7 => ⟨h.keepc a0, h.keepc a1, h.keepc a2, h.keepc a3, h.keepc a4, h.keepc a5, h.keepc a6, h.keepc a7⟩)
  obtain ⟨W, hW⟩ : ∃ W, W = ((w.alloc (.cells #[.slice a0 l0 k0, .slice a1 l1 k1, .slice a2 l2 k2, .int .i64 e, .int .i64 o, .int .i64 t] 34 (0, 0))).alloc (.cells #[.int .i64 x, .int .i64 y] 23 (0, 0))) := ⟨_, rfl⟩
  have HF := Lib.hid (show Fr no w W by rw [hW]; exact ((Fr.refl no w).alloc _).alloc _)
  have c0 : W.cell? ⟨w.heap.size, 0, none⟩ = some (.slice a0 l0 k0) := by rw [hW]; go_simp
  have c1 : W.cell? ⟨w.heap.size, 1, none⟩ = some (.slice a1 l1 k1) := by rw [hW]; go_simp
  have c2 : W.cell? ⟨w.heap.size, 2, none⟩ = some (.slice a2 l2 k2) := by rw [hW]; go_simp
  have c3 : W.cell? ⟨w.heap.size, 3, none⟩ = some (.int .i64 e) := by rw [hW]; go_simp
  have c4 : W.cell? ⟨w.heap.size, 4, none⟩ = some (.int .i64 o) := by rw [hW]; go_simp
  have c5 : W.cell? ⟨w.heap.size, 5, none⟩ = some (.int .i64 t) := by rw [hW]; go_simp
  have c6 : W.cell? ⟨w.heap.size + 1, 0, none⟩ = some (.int .i64 x) := by rw [hW]; go_simp
  have c7 : W.cell? ⟨w.heap.size + 1, 1, none⟩ = some (.int .i64 y) := by rw [hW]; go_simp
  have HW := Lib.hid hW
  clear hW
  have K24 := fun w' (h : Fr no w w') => check_any a0 l0 k0 a1 l1 k1 a2 l2 k2 e o t ps zs ws w' (hp.kept h) (hz.kept h) (hw.kept h)
  rw [g0, show ckE true = 0 from rfl] at K24
  have K24 := Lib.hid K24
  have KP := fun w => isPoint_any x y w
  rw [g1] at KP
  have KP := Lib.hid KP
  clear hp hz hw g0 g1
  go_enter Try.func28, Try.ntmps28
  go_wp2_with fail
  rw [← HW.out]
  refine (K24.out _ HF.out).mono ?_
  rintro e y1 ⟨rfl, f1⟩
  obtain ⟨d1_0, d1_1, d1_2, d1_3, d1_4, d1_5, d1_6, d1_7⟩ := KS.out _ _ f1 c0 c1 c2 c3 c4 c5 c6 c7
  have HF1 := Lib.hid (HF.out.noTrans f1)
  clear f1 c0 c1 c2 c3 c4 c5 c6 c7
  go_wp2_with fail
  refine (KP.out _).mono ?_
  rintro e y2 ⟨rfl, f2⟩
  obtain ⟨d2_0, d2_1, d2_2, d2_3, d2_4, d2_5, d2_6, d2_7⟩ := KS.out _ _ f2 d1_0 d1_1 d1_2 d1_3 d1_4 d1_5 d1_6 d1_7
  have HF2 := Lib.hid (HF1.out.noTrans f2)
  clear f2 d1_0 d1_1 d1_2 d1_3 d1_4 d1_5 d1_6 d1_7
  go_wp2_with fail
  go_ret2
  exact ⟨rfl, HF2.out⟩
set_option maxHeartbeats 4000000 in
theorem nearest_2 (a0 : Option Addr) (l0 k0 : Nat) (a1 : Option Addr) (l1 k1 : Nat) (a2 : Option Addr) (l2 k2 : Nat) (e o t : Int) (ps : List Pt) (zs : List Int) (ws : List Wl) (x y : Int) (w : World) (hp : PtsIn w a0 l0 ps) (hz : IntsIn w a1 l1 zs) (hw : WlsIn w a2 l2 ws) (g0 : (ckB l0 l1 l2 e o t ps zs ws) = true) (g1 : ptB x y = true) : Calls Try.prog 28 #[.agg #[.slice a0 l0 k0, .slice a1 l1 k1, .slice a2 l2 k2, .int .i64 e, .int .i64 o, .int .i64 t], .agg #[.int .i64 x, .int .i64 y]] w fun e' w' => e' = .returned (.tuple #[.int .i64 (nb ps x y l0), .int .i64 0]) ∧ Fr no w w' := by
  have KS := Lib.hid (show ∀ w0 w' : World, Fr no w0 w' → w0.cell? ⟨w.heap.size, 0, none⟩ = some (.slice a0 l0 k0) → w0.cell? ⟨w.heap.size, 1, none⟩ = some (.slice a1 l1 k1) → w0.cell? ⟨w.heap.size, 2, none⟩ = some (.slice a2 l2 k2) → w0.cell? ⟨w.heap.size, 3, none⟩ = some (.int .i64 e) → w0.cell? ⟨w.heap.size, 4, none⟩ = some (.int .i64 o) → w0.cell? ⟨w.heap.size, 5, none⟩ = some (.int .i64 t) → w0.cell? ⟨w.heap.size + 1, 0, none⟩ = some (.int .i64 x) → w0.cell? ⟨w.heap.size + 1, 1, none⟩ = some (.int .i64 y) → (w'.cell? ⟨w.heap.size, 0, none⟩ = some (.slice a0 l0 k0) ∧ w'.cell? ⟨w.heap.size, 1, none⟩ = some (.slice a1 l1 k1) ∧ w'.cell? ⟨w.heap.size, 2, none⟩ = some (.slice a2 l2 k2) ∧ w'.cell? ⟨w.heap.size, 3, none⟩ = some (.int .i64 e) ∧ w'.cell? ⟨w.heap.size, 4, none⟩ = some (.int .i64 o) ∧ w'.cell? ⟨w.heap.size, 5, none⟩ = some (.int .i64 t) ∧ w'.cell? ⟨w.heap.size + 1, 0, none⟩ = some (.int .i64 x) ∧ w'.cell? ⟨w.heap.size + 1, 1, none⟩ = some (.int .i64 y)) from fun _ _ h a0 a1 a2 a3 a4 a5 a6 a7 => ⟨h.keepc a0, h.keepc a1, h.keepc a2, h.keepc a3, h.keepc a4, h.keepc a5, h.keepc a6, h.keepc a7⟩)
  obtain ⟨W, hW⟩ : ∃ W, W = ((w.alloc (.cells #[.slice a0 l0 k0, .slice a1 l1 k1, .slice a2 l2 k2, .int .i64 e, .int .i64 o, .int .i64 t] 34 (0, 0))).alloc (.cells #[.int .i64 x, .int .i64 y] 23 (0, 0))) := ⟨_, rfl⟩
  have HF := Lib.hid (show Fr no w W by rw [hW]; exact ((Fr.refl no w).alloc _).alloc _)
  have c0 : W.cell? ⟨w.heap.size, 0, none⟩ = some (.slice a0 l0 k0) := by rw [hW]; go_simp
  have c1 : W.cell? ⟨w.heap.size, 1, none⟩ = some (.slice a1 l1 k1) := by rw [hW]; go_simp
  have c2 : W.cell? ⟨w.heap.size, 2, none⟩ = some (.slice a2 l2 k2) := by rw [hW]; go_simp
  have c3 : W.cell? ⟨w.heap.size, 3, none⟩ = some (.int .i64 e) := by rw [hW]; go_simp
  have c4 : W.cell? ⟨w.heap.size, 4, none⟩ = some (.int .i64 o) := by rw [hW]; go_simp
  have c5 : W.cell? ⟨w.heap.size, 5, none⟩ = some (.int .i64 t) := by rw [hW]; go_simp
  have c6 : W.cell? ⟨w.heap.size + 1, 0, none⟩ = some (.int .i64 x) := by rw [hW]; go_simp
  have c7 : W.cell? ⟨w.heap.size + 1, 1, none⟩ = some (.int .i64 y) := by rw [hW]; go_simp
  have HW := Lib.hid hW
  clear hW
  have K24 := fun w' (h : Fr no w w') => check_any a0 l0 k0 a1 l1 k1 a2 l2 k2 e o t ps zs ws w' (hp.kept h) (hz.kept h) (hw.kept h)
  rw [g0, show ckE true = 0 from rfl] at K24
  have K24 := Lib.hid K24
  have KP := fun w => isPoint_any x y w
  rw [g1] at KP
  have KP := Lib.hid KP
  have hg := ckB_t g0
  have HP := Lib.hid hp
  have q2 : (2 : Int) ≤ (l0 : Int) := by have := hg.n0; omega
  have q3 : (l0 : Int) ≤ 32 := by have := hg.n1; omega
  have HOK := Lib.hid hg.ps
  obtain ⟨nx, ny⟩ := pt_near g1
  have HX := Lib.hid nx
  have HY := Lib.hid ny
  clear hg nx ny
  clear hp hz hw g0 g1
  go_enter Try.func28, Try.ntmps28
  go_wp2_with fail
  rw [← HW.out]
  refine (K24.out _ HF.out).mono ?_
  rintro e y1 ⟨rfl, f1⟩
  obtain ⟨d1_0, d1_1, d1_2, d1_3, d1_4, d1_5, d1_6, d1_7⟩ := KS.out _ _ f1 c0 c1 c2 c3 c4 c5 c6 c7
  have HF1 := Lib.hid (HF.out.noTrans f1)
  clear f1 c0 c1 c2 c3 c4 c5 c6 c7
  go_wp2_with fail
  refine (KP.out _).mono ?_
  rintro e y2 ⟨rfl, f2⟩
  obtain ⟨d2_0, d2_1, d2_2, d2_3, d2_4, d2_5, d2_6, d2_7⟩ := KS.out _ _ f2 d1_0 d1_1 d1_2 d1_3 d1_4 d1_5 d1_6 d1_7
  have HF2 := Lib.hid (HF1.out.noTrans f2)
  clear f2 d1_0 d1_1 d1_2 d1_3 d1_4 d1_5 d1_6 d1_7
  go_wp2_with fail
  have HC0 := Lib.hid d2_0
  have HC1 := Lib.hid d2_6
  have HC2 := Lib.hid d2_7
  go_loopw [6, 7, 8, 18] (fun b_ _ _ i wr => ∃ k : Nat, 0 ≤ k ∧ k ≤ l0 ∧ i = .int .i64 k ∧ b_ = .int .i64 (nb ps x y k) ∧ Fr no y2 wr) (fun _ _ _ i _ => l0 - (intOf i).toNat)
  case atStart => exact ⟨0, by omega, by omega, rfl, rfl, Fr.refl _ _⟩
  case round =>
    obtain ⟨k, hk0, hk, rfl, rfl, hf⟩ := hrel
    have HFr := Lib.hid hf
    clear hf d2_0 d2_1 d2_2 d2_3 d2_4 d2_5 d2_6 d2_7
    have r0 := HFr.out.keepc HC0.out
    have r1 := HFr.out.keepc HC1.out
    have r2 := HFr.out.keepc HC2.out
    have z0 := blt r0
    have z1 := blt r1
    by_cases hlt : k < l0
    · obtain ⟨b, off, rfl, p0, p1⟩ := (HP.out.kept (HF2.out.noTrans HFr.out)).2 k hlt
      have hm : nb ps x y k < l0 := by have := nb_lt ps x y k; omega
      obtain ⟨b', off', e', m0, m1⟩ := (HP.out.kept (HF2.out.noTrans HFr.out)).2 (nb ps x y k) hm
      obtain ⟨rfl, rfl⟩ : b = b' ∧ off = off' := by simpa using e'
      clear e'
      have HN := Lib.hid (show nb ps x y (k + 1) = if sqP ps k x y < sqP ps (nb ps x y k) x y then k else nb ps x y k from rfl)
      have o1 := pt_near (ptAt_ok HOK.out (i := k) (by have := HP.out.1; omega))
      have o2 := pt_near (ptAt_ok HOK.out (i := nb ps x y k) (by have := HP.out.1; omega))
      have KA := fun w => square_any (ptAt ps k).x (ptAt ps k).y x y w o1.1 o1.2 HX.out HY.out
      have KB := fun w => square_any (ptAt ps (nb ps x y k)).x (ptAt ps (nb ps x y k)).y x y w o2.1 o2.2 HX.out HY.out
      clear o1 o2
      rw [show sqF (ptAt ps k).x (ptAt ps k).y x y = sqP ps k x y from rfl] at KA
      rw [show sqF (ptAt ps (nb ps x y k)).x (ptAt ps (nb ps x y k)).y x y = sqP ps (nb ps x y k) x y from rfl] at KB
      generalize hnb : nb ps x y k = m at *
      have HNB := Lib.hid hnb
      clear hnb
      generalize sqP ps k x y = sa at *
      generalize sqP ps m x y = sb at *
      generalize ptAt ps k = pk at *
      generalize ptAt ps m = pm at *
      obtain ⟨ux, uy⟩ := pk
      obtain ⟨vx, vy⟩ := pm
      simp only at KA KB p0 p1 m0 m1
      have KA := Lib.hid KA
      have KB := Lib.hid KB
      have hmI : (m : Int) < (l0 : Int) := by omega
      have hkI : (k : Int) < (l0 : Int) := by omega
      have z2 := blt m0
      obtain ⟨WR, hWR⟩ : ∃ X, X = wr.alloc (.cells #[.int .i64 ux, .int .i64 uy] 23 (0, 0)) := ⟨_, rfl⟩
      have fWR : Fr no wr WR := by rw [hWR]; exact (Fr.refl no wr).alloc _
      have s5 : WR.cell? ⟨wr.heap.size, 0, none⟩ = some (.int .i64 ux) := by rw [hWR]; go_simp
      have s6 : WR.cell? ⟨wr.heap.size, 1, none⟩ = some (.int .i64 uy) := by rw [hWR]; go_simp
      have s0 := fWR.keepc r0
      have s1 := fWR.keepc r1
      have s2 := fWR.keepc r2
      have s3 := fWR.keepc m0
      have s4 := fWR.keepc m1
      have HFW := Lib.hid fWR
      have HWR := Lib.hid hWR
      clear fWR hWR
      have KR := Lib.hid (show ∀ w0 w' : World, Fr no w0 w' → w0.cell? ⟨w.heap.size, 0, none⟩ = some (.slice (some ⟨b, off, none⟩) l0 k0) → w0.cell? ⟨w.heap.size + 1, 0, none⟩ = some (.int .i64 x) → w0.cell? ⟨w.heap.size + 1, 1, none⟩ = some (.int .i64 y) → w0.cell? ⟨b, off + m * 2, none⟩ = some (.int .i64 vx) → w0.cell? ⟨b, off + m * 2 + 1, none⟩ = some (.int .i64 vy) → w0.cell? ⟨wr.heap.size, 0, none⟩ = some (.int .i64 ux) → w0.cell? ⟨wr.heap.size, 1, none⟩ = some (.int .i64 uy) → (w'.cell? ⟨w.heap.size, 0, none⟩ = some (.slice (some ⟨b, off, none⟩) l0 k0) ∧ w'.cell? ⟨w.heap.size + 1, 0, none⟩ = some (.int .i64 x) ∧ w'.cell? ⟨w.heap.size + 1, 1, none⟩ = some (.int .i64 y) ∧ w'.cell? ⟨b, off + m * 2, none⟩ = some (.int .i64 vx) ∧ w'.cell? ⟨b, off + m * 2 + 1, none⟩ = some (.int .i64 vy) ∧ w'.cell? ⟨wr.heap.size, 0, none⟩ = some (.int .i64 ux) ∧ w'.cell? ⟨wr.heap.size, 1, none⟩ = some (.int .i64 uy)) from fun _ _ h a0 a1 a2 a3 a4 a5 a6 => ⟨h.keepc a0, h.keepc a1, h.keepc a2, h.keepc a3, h.keepc a4, h.keepc a5, h.keepc a6⟩)
      by_cases hs : sa < sb
      · have hn := HN.out
        rw [if_pos hs] at hn
        have HN2 := Lib.hid hn
        clear hn
        go_wp2_with fail
        rw [← HWR.out]
        clear p0 p1 r0 r1 r2 m0 m1
        have tokf5 : True := trivial
        have tokf6 : True := trivial
        go_region_held3 (fun w' => w'.cell? ⟨w.heap.size, 0, none⟩ = some (.slice (some ⟨b, off, none⟩) l0 k0) ∧ w'.cell? ⟨w.heap.size + 1, 0, none⟩ = some (.int .i64 x) ∧ w'.cell? ⟨w.heap.size + 1, 1, none⟩ = some (.int .i64 y) ∧ w'.cell? ⟨b, off + m * 2, none⟩ = some (.int .i64 vx) ∧ w'.cell? ⟨b, off + m * 2 + 1, none⟩ = some (.int .i64 vy) ∧ w'.cell? ⟨wr.heap.size, 0, none⟩ = some (.int .i64 ux) ∧ w'.cell? ⟨wr.heap.size, 1, none⟩ = some (.int .i64 uy)) (go_keep)
          (first
            | (go_at_call 13; have _tk := tokf5; refine (KA.out _).mono ?_; rintro e x5 ⟨rfl, f5⟩; clear _tk tokf5; obtain ⟨kf50, kf51, kf52, kf53, kf54, kf55, kf56⟩ := KR.out _ _ f5 s0 s1 s2 s3 s4 s5 s6)
            | (go_at_call 13; have _tk := tokf6; refine (KB.out _).mono ?_; rintro e x6 ⟨rfl, f6⟩; clear _tk tokf6; obtain ⟨kf60, kf61, kf62, kf63, kf64, kf65, kf66⟩ := KR.out _ _ f6 kf50 kf51 kf52 kf53 kf54 kf55 kf56))
        have HF5 := Lib.hid (((HFr.out.noTrans HFW.out).drew.noTrans f5).noTrans f6)
        clear f5 f6 s0 s1 s2 s3 s4 s5 s6 kf50 kf51 kf52 kf53 kf54 kf55 kf56 kf61 kf62 kf63 kf64 kf65 kf66
        go_wp2_with fail
        exact ⟨⟨k + 1, by omega, by omega, by go_num, by rw [HN2.out], HF5.out⟩, by simp [intOf]; omega⟩
      · have hn := HN.out
        rw [if_neg hs] at hn
        have hs' : sb ≤ sa := by omega
        clear hs
        have HN2 := Lib.hid hn
        clear hn
        go_wp2_with fail
        rw [← HWR.out]
        clear p0 p1 r0 r1 r2 m0 m1
        have tokf5 : True := trivial
        have tokf6 : True := trivial
        go_region_held3 (fun w' => w'.cell? ⟨w.heap.size, 0, none⟩ = some (.slice (some ⟨b, off, none⟩) l0 k0) ∧ w'.cell? ⟨w.heap.size + 1, 0, none⟩ = some (.int .i64 x) ∧ w'.cell? ⟨w.heap.size + 1, 1, none⟩ = some (.int .i64 y) ∧ w'.cell? ⟨b, off + m * 2, none⟩ = some (.int .i64 vx) ∧ w'.cell? ⟨b, off + m * 2 + 1, none⟩ = some (.int .i64 vy) ∧ w'.cell? ⟨wr.heap.size, 0, none⟩ = some (.int .i64 ux) ∧ w'.cell? ⟨wr.heap.size, 1, none⟩ = some (.int .i64 uy)) (go_keep)
          (first
            | (go_at_call 13; have _tk := tokf5; refine (KA.out _).mono ?_; rintro e x5 ⟨rfl, f5⟩; clear _tk tokf5; obtain ⟨kf50, kf51, kf52, kf53, kf54, kf55, kf56⟩ := KR.out _ _ f5 s0 s1 s2 s3 s4 s5 s6)
            | (go_at_call 13; have _tk := tokf6; refine (KB.out _).mono ?_; rintro e x6 ⟨rfl, f6⟩; clear _tk tokf6; obtain ⟨kf60, kf61, kf62, kf63, kf64, kf65, kf66⟩ := KR.out _ _ f6 kf50 kf51 kf52 kf53 kf54 kf55 kf56))
        have HF5 := Lib.hid (((HFr.out.noTrans HFW.out).drew.noTrans f5).noTrans f6)
        clear f5 f6 s0 s1 s2 s3 s4 s5 s6 kf50 kf51 kf52 kf53 kf54 kf55 kf56 kf61 kf62 kf63 kf64 kf65 kf66
        go_wp2_with fail
        exact ⟨⟨k + 1, by omega, by omega, by go_num, by rw [HN2.out], HF5.out⟩, by simp [intOf]; omega⟩
    · obtain rfl : k = l0 := by omega
      go_wp2_with fail
      go_ret2
      exact ⟨rfl, HF2.out.noTrans HFr.out⟩
theorem nearest_any (a0 : Option Addr) (l0 k0 : Nat) (a1 : Option Addr) (l1 k1 : Nat) (a2 : Option Addr) (l2 k2 : Nat) (e o t : Int) (ps : List Pt) (zs : List Int) (ws : List Wl) (x y : Int) (w : World) (hp : PtsIn w a0 l0 ps) (hz : IntsIn w a1 l1 zs) (hw : WlsIn w a2 l2 ws) : Calls Try.prog 28 #[.agg #[.slice a0 l0 k0, .slice a1 l1 k1, .slice a2 l2 k2, .int .i64 e, .int .i64 o, .int .i64 t], .agg #[.int .i64 x, .int .i64 y]] w fun e' w' => e' = .returned (.tuple #[.int .i64 (nrV (ckB l0 l1 l2 e o t ps zs ws) (ptB x y) (nb ps x y l0)), .int .i64 (nrE (ckB l0 l1 l2 e o t ps zs ws) (ptB x y))]) ∧ Fr no w w' := by
  cases g0 : (ckB l0 l1 l2 e o t ps zs ws)
  · exact nearest_0 a0 l0 k0 a1 l1 k1 a2 l2 k2 e o t ps zs ws x y w hp hz hw g0
  cases g1 : ptB x y
  · exact nearest_1 a0 l0 k0 a1 l1 k1 a2 l2 k2 e o t ps zs ws x y w hp hz hw g0 g1
  · exact nearest_2 a0 l0 k0 a1 l1 k1 a2 l2 k2 e o t ps zs ws x y w hp hz hw g0 g1
set_option maxHeartbeats 4000000 in
theorem nearestR_0 (a0 : Option Addr) (l0 k0 : Nat) (a1 : Option Addr) (l1 k1 : Nat) (a2 : Option Addr) (l2 k2 : Nat) (e o t : Int) (ps : List Pt) (zs : List Int) (ws : List Wl) (x y : Int) (w : World) (hp : PtsIn w a0 l0 ps) (hz : IntsIn w a1 l1 zs) (hw : WlsIn w a2 l2 ws) (g0 : (ckB l0 l1 l2 e o t ps zs ws) = false) : Calls Try.prog 29 #[.agg #[.slice a0 l0 k0, .slice a1 l1 k1, .slice a2 l2 k2, .int .i64 e, .int .i64 o, .int .i64 t], .agg #[.int .i64 x, .int .i64 y]] w fun e' w' => e' = .returned (.tuple #[.int .i64 0, .int .i64 1]) ∧ Fr no w w' := by
  have KS := Lib.hid (show ∀ w0 w' : World, Fr no w0 w' → w0.cell? ⟨w.heap.size, 0, none⟩ = some (.slice a0 l0 k0) → w0.cell? ⟨w.heap.size, 1, none⟩ = some (.slice a1 l1 k1) → w0.cell? ⟨w.heap.size, 2, none⟩ = some (.slice a2 l2 k2) → w0.cell? ⟨w.heap.size, 3, none⟩ = some (.int .i64 e) → w0.cell? ⟨w.heap.size, 4, none⟩ = some (.int .i64 o) → w0.cell? ⟨w.heap.size, 5, none⟩ = some (.int .i64 t) → w0.cell? ⟨w.heap.size + 1, 0, none⟩ = some (.int .i64 x) → w0.cell? ⟨w.heap.size + 1, 1, none⟩ = some (.int .i64 y) → (w'.cell? ⟨w.heap.size, 0, none⟩ = some (.slice a0 l0 k0) ∧ w'.cell? ⟨w.heap.size, 1, none⟩ = some (.slice a1 l1 k1) ∧ w'.cell? ⟨w.heap.size, 2, none⟩ = some (.slice a2 l2 k2) ∧ w'.cell? ⟨w.heap.size, 3, none⟩ = some (.int .i64 e) ∧ w'.cell? ⟨w.heap.size, 4, none⟩ = some (.int .i64 o) ∧ w'.cell? ⟨w.heap.size, 5, none⟩ = some (.int .i64 t) ∧ w'.cell? ⟨w.heap.size + 1, 0, none⟩ = some (.int .i64 x) ∧ w'.cell? ⟨w.heap.size + 1, 1, none⟩ = some (.int .i64 y)) from fun _ _ h a0 a1 a2 a3 a4 a5 a6 a7 => ⟨h.keepc a0, h.keepc a1, h.keepc a2, h.keepc a3, h.keepc a4, h.keepc a5, h.keepc a6, h.keepc a7⟩)
  obtain ⟨W, hW⟩ : ∃ W, W = ((w.alloc (.cells #[.slice a0 l0 k0, .slice a1 l1 k1, .slice a2 l2 k2, .int .i64 e, .int .i64 o, .int .i64 t] 34 (0, 0))).alloc (.cells #[.int .i64 x, .int .i64 y] 23 (0, 0))) := ⟨_, rfl⟩
  have HF := Lib.hid (show Fr no w W by rw [hW]; exact ((Fr.refl no w).alloc _).alloc _)
  have c0 : W.cell? ⟨w.heap.size, 0, none⟩ = some (.slice a0 l0 k0) := by rw [hW]; go_simp
  have c1 : W.cell? ⟨w.heap.size, 1, none⟩ = some (.slice a1 l1 k1) := by rw [hW]; go_simp
  have c2 : W.cell? ⟨w.heap.size, 2, none⟩ = some (.slice a2 l2 k2) := by rw [hW]; go_simp
  have c3 : W.cell? ⟨w.heap.size, 3, none⟩ = some (.int .i64 e) := by rw [hW]; go_simp
  have c4 : W.cell? ⟨w.heap.size, 4, none⟩ = some (.int .i64 o) := by rw [hW]; go_simp
  have c5 : W.cell? ⟨w.heap.size, 5, none⟩ = some (.int .i64 t) := by rw [hW]; go_simp
  have c6 : W.cell? ⟨w.heap.size + 1, 0, none⟩ = some (.int .i64 x) := by rw [hW]; go_simp
  have c7 : W.cell? ⟨w.heap.size + 1, 1, none⟩ = some (.int .i64 y) := by rw [hW]; go_simp
  have HW := Lib.hid hW
  clear hW
  have K24 := fun w' (h : Fr no w w') => checkR_any a0 l0 k0 a1 l1 k1 a2 l2 k2 e o t ps zs ws w' (hp.kept h) (hz.kept h) (hw.kept h)
  rw [g0, show ckE false = 1 from rfl] at K24
  have K24 := Lib.hid K24
  clear hp hz hw g0
  go_enter Try.func29, Try.ntmps29
  go_wp2_with fail
  rw [← HW.out]
  refine (K24.out _ HF.out).mono ?_
  rintro e y1 ⟨rfl, f1⟩
  obtain ⟨d1_0, d1_1, d1_2, d1_3, d1_4, d1_5, d1_6, d1_7⟩ := KS.out _ _ f1 c0 c1 c2 c3 c4 c5 c6 c7
  have HF1 := Lib.hid (HF.out.noTrans f1)
  clear f1 c0 c1 c2 c3 c4 c5 c6 c7
  go_wp2_with fail
  go_ret2
  exact ⟨rfl, HF1.out⟩
set_option maxHeartbeats 4000000 in
theorem nearestR_1 (a0 : Option Addr) (l0 k0 : Nat) (a1 : Option Addr) (l1 k1 : Nat) (a2 : Option Addr) (l2 k2 : Nat) (e o t : Int) (ps : List Pt) (zs : List Int) (ws : List Wl) (x y : Int) (w : World) (hp : PtsIn w a0 l0 ps) (hz : IntsIn w a1 l1 zs) (hw : WlsIn w a2 l2 ws) (g0 : (ckB l0 l1 l2 e o t ps zs ws) = true) (g1 : ptB x y = false) : Calls Try.prog 29 #[.agg #[.slice a0 l0 k0, .slice a1 l1 k1, .slice a2 l2 k2, .int .i64 e, .int .i64 o, .int .i64 t], .agg #[.int .i64 x, .int .i64 y]] w fun e' w' => e' = .returned (.tuple #[.int .i64 0, .int .i64 2]) ∧ Fr no w w' := by
  have KS := Lib.hid (show ∀ w0 w' : World, Fr no w0 w' → w0.cell? ⟨w.heap.size, 0, none⟩ = some (.slice a0 l0 k0) → w0.cell? ⟨w.heap.size, 1, none⟩ = some (.slice a1 l1 k1) → w0.cell? ⟨w.heap.size, 2, none⟩ = some (.slice a2 l2 k2) → w0.cell? ⟨w.heap.size, 3, none⟩ = some (.int .i64 e) → w0.cell? ⟨w.heap.size, 4, none⟩ = some (.int .i64 o) → w0.cell? ⟨w.heap.size, 5, none⟩ = some (.int .i64 t) → w0.cell? ⟨w.heap.size + 1, 0, none⟩ = some (.int .i64 x) → w0.cell? ⟨w.heap.size + 1, 1, none⟩ = some (.int .i64 y) → (w'.cell? ⟨w.heap.size, 0, none⟩ = some (.slice a0 l0 k0) ∧ w'.cell? ⟨w.heap.size, 1, none⟩ = some (.slice a1 l1 k1) ∧ w'.cell? ⟨w.heap.size, 2, none⟩ = some (.slice a2 l2 k2) ∧ w'.cell? ⟨w.heap.size, 3, none⟩ = some (.int .i64 e) ∧ w'.cell? ⟨w.heap.size, 4, none⟩ = some (.int .i64 o) ∧ w'.cell? ⟨w.heap.size, 5, none⟩ = some (.int .i64 t) ∧ w'.cell? ⟨w.heap.size + 1, 0, none⟩ = some (.int .i64 x) ∧ w'.cell? ⟨w.heap.size + 1, 1, none⟩ = some (.int .i64 y)) from fun _ _ h a0 a1 a2 a3 a4 a5 a6 a7 => ⟨h.keepc a0, h.keepc a1, h.keepc a2, h.keepc a3, h.keepc a4, h.keepc a5, h.keepc a6, h.keepc a7⟩)
  obtain ⟨W, hW⟩ : ∃ W, W = ((w.alloc (.cells #[.slice a0 l0 k0, .slice a1 l1 k1, .slice a2 l2 k2, .int .i64 e, .int .i64 o, .int .i64 t] 34 (0, 0))).alloc (.cells #[.int .i64 x, .int .i64 y] 23 (0, 0))) := ⟨_, rfl⟩
  have HF := Lib.hid (show Fr no w W by rw [hW]; exact ((Fr.refl no w).alloc _).alloc _)
  have c0 : W.cell? ⟨w.heap.size, 0, none⟩ = some (.slice a0 l0 k0) := by rw [hW]; go_simp
  have c1 : W.cell? ⟨w.heap.size, 1, none⟩ = some (.slice a1 l1 k1) := by rw [hW]; go_simp
  have c2 : W.cell? ⟨w.heap.size, 2, none⟩ = some (.slice a2 l2 k2) := by rw [hW]; go_simp
  have c3 : W.cell? ⟨w.heap.size, 3, none⟩ = some (.int .i64 e) := by rw [hW]; go_simp
  have c4 : W.cell? ⟨w.heap.size, 4, none⟩ = some (.int .i64 o) := by rw [hW]; go_simp
  have c5 : W.cell? ⟨w.heap.size, 5, none⟩ = some (.int .i64 t) := by rw [hW]; go_simp
  have c6 : W.cell? ⟨w.heap.size + 1, 0, none⟩ = some (.int .i64 x) := by rw [hW]; go_simp
  have c7 : W.cell? ⟨w.heap.size + 1, 1, none⟩ = some (.int .i64 y) := by rw [hW]; go_simp
  have HW := Lib.hid hW
  clear hW
  have K24 := fun w' (h : Fr no w w') => checkR_any a0 l0 k0 a1 l1 k1 a2 l2 k2 e o t ps zs ws w' (hp.kept h) (hz.kept h) (hw.kept h)
  rw [g0, show ckE true = 0 from rfl] at K24
  have K24 := Lib.hid K24
  have KP := fun w => point_any x y w
  rw [g1] at KP
  have KP := Lib.hid KP
  clear hp hz hw g0 g1
  go_enter Try.func29, Try.ntmps29
  go_wp2_with fail
  rw [← HW.out]
  refine (K24.out _ HF.out).mono ?_
  rintro e y1 ⟨rfl, f1⟩
  obtain ⟨d1_0, d1_1, d1_2, d1_3, d1_4, d1_5, d1_6, d1_7⟩ := KS.out _ _ f1 c0 c1 c2 c3 c4 c5 c6 c7
  have HF1 := Lib.hid (HF.out.noTrans f1)
  clear f1 c0 c1 c2 c3 c4 c5 c6 c7
  go_wp2_with fail
  refine (KP.out _).mono ?_
  rintro e y2 ⟨rfl, f2⟩
  obtain ⟨d2_0, d2_1, d2_2, d2_3, d2_4, d2_5, d2_6, d2_7⟩ := KS.out _ _ f2 d1_0 d1_1 d1_2 d1_3 d1_4 d1_5 d1_6 d1_7
  have HF2 := Lib.hid (HF1.out.noTrans f2)
  clear f2 d1_0 d1_1 d1_2 d1_3 d1_4 d1_5 d1_6 d1_7
  go_wp2_with fail
  go_ret2
  exact ⟨rfl, HF2.out⟩
set_option maxHeartbeats 4000000 in
theorem nearestR_2 (a0 : Option Addr) (l0 k0 : Nat) (a1 : Option Addr) (l1 k1 : Nat) (a2 : Option Addr) (l2 k2 : Nat) (e o t : Int) (ps : List Pt) (zs : List Int) (ws : List Wl) (x y : Int) (w : World) (hp : PtsIn w a0 l0 ps) (hz : IntsIn w a1 l1 zs) (hw : WlsIn w a2 l2 ws) (g0 : (ckB l0 l1 l2 e o t ps zs ws) = true) (g1 : ptB x y = true) : Calls Try.prog 29 #[.agg #[.slice a0 l0 k0, .slice a1 l1 k1, .slice a2 l2 k2, .int .i64 e, .int .i64 o, .int .i64 t], .agg #[.int .i64 x, .int .i64 y]] w fun e' w' => e' = .returned (.tuple #[.int .i64 (nb ps x y l0), .int .i64 0]) ∧ Fr no w w' := by
  have KS := Lib.hid (show ∀ w0 w' : World, Fr no w0 w' → w0.cell? ⟨w.heap.size, 0, none⟩ = some (.slice a0 l0 k0) → w0.cell? ⟨w.heap.size, 1, none⟩ = some (.slice a1 l1 k1) → w0.cell? ⟨w.heap.size, 2, none⟩ = some (.slice a2 l2 k2) → w0.cell? ⟨w.heap.size, 3, none⟩ = some (.int .i64 e) → w0.cell? ⟨w.heap.size, 4, none⟩ = some (.int .i64 o) → w0.cell? ⟨w.heap.size, 5, none⟩ = some (.int .i64 t) → w0.cell? ⟨w.heap.size + 1, 0, none⟩ = some (.int .i64 x) → w0.cell? ⟨w.heap.size + 1, 1, none⟩ = some (.int .i64 y) → (w'.cell? ⟨w.heap.size, 0, none⟩ = some (.slice a0 l0 k0) ∧ w'.cell? ⟨w.heap.size, 1, none⟩ = some (.slice a1 l1 k1) ∧ w'.cell? ⟨w.heap.size, 2, none⟩ = some (.slice a2 l2 k2) ∧ w'.cell? ⟨w.heap.size, 3, none⟩ = some (.int .i64 e) ∧ w'.cell? ⟨w.heap.size, 4, none⟩ = some (.int .i64 o) ∧ w'.cell? ⟨w.heap.size, 5, none⟩ = some (.int .i64 t) ∧ w'.cell? ⟨w.heap.size + 1, 0, none⟩ = some (.int .i64 x) ∧ w'.cell? ⟨w.heap.size + 1, 1, none⟩ = some (.int .i64 y)) from fun _ _ h a0 a1 a2 a3 a4 a5 a6 a7 => ⟨h.keepc a0, h.keepc a1, h.keepc a2, h.keepc a3, h.keepc a4, h.keepc a5, h.keepc a6, h.keepc a7⟩)
  obtain ⟨W, hW⟩ : ∃ W, W = ((w.alloc (.cells #[.slice a0 l0 k0, .slice a1 l1 k1, .slice a2 l2 k2, .int .i64 e, .int .i64 o, .int .i64 t] 34 (0, 0))).alloc (.cells #[.int .i64 x, .int .i64 y] 23 (0, 0))) := ⟨_, rfl⟩
  have HF := Lib.hid (show Fr no w W by rw [hW]; exact ((Fr.refl no w).alloc _).alloc _)
  have c0 : W.cell? ⟨w.heap.size, 0, none⟩ = some (.slice a0 l0 k0) := by rw [hW]; go_simp
  have c1 : W.cell? ⟨w.heap.size, 1, none⟩ = some (.slice a1 l1 k1) := by rw [hW]; go_simp
  have c2 : W.cell? ⟨w.heap.size, 2, none⟩ = some (.slice a2 l2 k2) := by rw [hW]; go_simp
  have c3 : W.cell? ⟨w.heap.size, 3, none⟩ = some (.int .i64 e) := by rw [hW]; go_simp
  have c4 : W.cell? ⟨w.heap.size, 4, none⟩ = some (.int .i64 o) := by rw [hW]; go_simp
  have c5 : W.cell? ⟨w.heap.size, 5, none⟩ = some (.int .i64 t) := by rw [hW]; go_simp
  have c6 : W.cell? ⟨w.heap.size + 1, 0, none⟩ = some (.int .i64 x) := by rw [hW]; go_simp
  have c7 : W.cell? ⟨w.heap.size + 1, 1, none⟩ = some (.int .i64 y) := by rw [hW]; go_simp
  have HW := Lib.hid hW
  clear hW
  have K24 := fun w' (h : Fr no w w') => checkR_any a0 l0 k0 a1 l1 k1 a2 l2 k2 e o t ps zs ws w' (hp.kept h) (hz.kept h) (hw.kept h)
  rw [g0, show ckE true = 0 from rfl] at K24
  have K24 := Lib.hid K24
  have KP := fun w => point_any x y w
  rw [g1] at KP
  have KP := Lib.hid KP
  have hg := ckB_t g0
  have HP := Lib.hid hp
  have q2 : (2 : Int) ≤ (l0 : Int) := by have := hg.n0; omega
  have q3 : (l0 : Int) ≤ 32 := by have := hg.n1; omega
  have HOK := Lib.hid hg.ps
  obtain ⟨nx, ny⟩ := pt_near g1
  have HX := Lib.hid nx
  have HY := Lib.hid ny
  clear hg nx ny
  clear hp hz hw g0 g1
  go_enter Try.func29, Try.ntmps29
  go_wp2_with fail
  rw [← HW.out]
  refine (K24.out _ HF.out).mono ?_
  rintro e y1 ⟨rfl, f1⟩
  obtain ⟨d1_0, d1_1, d1_2, d1_3, d1_4, d1_5, d1_6, d1_7⟩ := KS.out _ _ f1 c0 c1 c2 c3 c4 c5 c6 c7
  have HF1 := Lib.hid (HF.out.noTrans f1)
  clear f1 c0 c1 c2 c3 c4 c5 c6 c7
  go_wp2_with fail
  refine (KP.out _).mono ?_
  rintro e y2 ⟨rfl, f2⟩
  obtain ⟨d2_0, d2_1, d2_2, d2_3, d2_4, d2_5, d2_6, d2_7⟩ := KS.out _ _ f2 d1_0 d1_1 d1_2 d1_3 d1_4 d1_5 d1_6 d1_7
  have HF2 := Lib.hid (HF1.out.noTrans f2)
  clear f2 d1_0 d1_1 d1_2 d1_3 d1_4 d1_5 d1_6 d1_7
  go_wp2_with fail
  have HC0 := Lib.hid d2_0
  have HC1 := Lib.hid d2_6
  have HC2 := Lib.hid d2_7
  go_loopw [6, 7] (fun b_ i wr => ∃ k : Nat, 1 ≤ k ∧ k ≤ l0 ∧ i = .int .i64 k ∧ b_ = .int .i64 (nb ps x y k) ∧ Fr no y2 wr) (fun _ i _ => l0 - (intOf i).toNat)
  case atStart => exact ⟨1, by omega, by omega, rfl, by rw [nb_one]; rfl, Fr.refl _ _⟩
  case round =>
    obtain ⟨k, hk0, hk, rfl, rfl, hf⟩ := hrel
    have HFr := Lib.hid hf
    clear hf d2_0 d2_1 d2_2 d2_3 d2_4 d2_5 d2_6 d2_7
    have r0 := HFr.out.keepc HC0.out
    have r1 := HFr.out.keepc HC1.out
    have r2 := HFr.out.keepc HC2.out
    have z0 := blt r0
    have z1 := blt r1
    by_cases hlt : k < l0
    · obtain ⟨b, off, rfl, p0, p1⟩ := (HP.out.kept (HF2.out.noTrans HFr.out)).2 k hlt
      have hm : nb ps x y k < l0 := by have := nb_lt ps x y k; omega
      obtain ⟨b', off', e', m0, m1⟩ := (HP.out.kept (HF2.out.noTrans HFr.out)).2 (nb ps x y k) hm
      obtain ⟨rfl, rfl⟩ : b = b' ∧ off = off' := by simpa using e'
      clear e'
      have HN := Lib.hid (show nb ps x y (k + 1) = if sqP ps k x y < sqP ps (nb ps x y k) x y then k else nb ps x y k from rfl)
      have o1 := pt_near (ptAt_ok HOK.out (i := k) (by have := HP.out.1; omega))
      have o2 := pt_near (ptAt_ok HOK.out (i := nb ps x y k) (by have := HP.out.1; omega))
      have KA := fun w => squareR_any (ptAt ps k).x (ptAt ps k).y x y w o1.1 o1.2 HX.out HY.out
      have KB := fun w => squareR_any (ptAt ps (nb ps x y k)).x (ptAt ps (nb ps x y k)).y x y w o2.1 o2.2 HX.out HY.out
      clear o1 o2
      rw [show sqF (ptAt ps k).x (ptAt ps k).y x y = sqP ps k x y from rfl] at KA
      rw [show sqF (ptAt ps (nb ps x y k)).x (ptAt ps (nb ps x y k)).y x y = sqP ps (nb ps x y k) x y from rfl] at KB
      generalize hnb : nb ps x y k = m at *
      have HNB := Lib.hid hnb
      clear hnb
      generalize sqP ps k x y = sa at *
      generalize sqP ps m x y = sb at *
      generalize ptAt ps k = pk at *
      generalize ptAt ps m = pm at *
      obtain ⟨ux, uy⟩ := pk
      obtain ⟨vx, vy⟩ := pm
      simp only at KA KB p0 p1 m0 m1
      have KA := Lib.hid KA
      have KB := Lib.hid KB
      have hmI : (m : Int) < (l0 : Int) := by omega
      have hkI : (k : Int) < (l0 : Int) := by omega
      have z2 := blt m0
      have s0 := r0
      have s1 := r1
      have s2 := r2
      have s3 := m0
      have s4 := m1
      have s5 := p0
      have s6 := p1
      have KR := Lib.hid (show ∀ w0 w' : World, Fr no w0 w' → w0.cell? ⟨w.heap.size, 0, none⟩ = some (.slice (some ⟨b, off, none⟩) l0 k0) → w0.cell? ⟨w.heap.size + 1, 0, none⟩ = some (.int .i64 x) → w0.cell? ⟨w.heap.size + 1, 1, none⟩ = some (.int .i64 y) → w0.cell? ⟨b, off + m * 2, none⟩ = some (.int .i64 vx) → w0.cell? ⟨b, off + m * 2 + 1, none⟩ = some (.int .i64 vy) → w0.cell? ⟨b, off + k * 2, none⟩ = some (.int .i64 ux) → w0.cell? ⟨b, off + k * 2 + 1, none⟩ = some (.int .i64 uy) → (w'.cell? ⟨w.heap.size, 0, none⟩ = some (.slice (some ⟨b, off, none⟩) l0 k0) ∧ w'.cell? ⟨w.heap.size + 1, 0, none⟩ = some (.int .i64 x) ∧ w'.cell? ⟨w.heap.size + 1, 1, none⟩ = some (.int .i64 y) ∧ w'.cell? ⟨b, off + m * 2, none⟩ = some (.int .i64 vx) ∧ w'.cell? ⟨b, off + m * 2 + 1, none⟩ = some (.int .i64 vy) ∧ w'.cell? ⟨b, off + k * 2, none⟩ = some (.int .i64 ux) ∧ w'.cell? ⟨b, off + k * 2 + 1, none⟩ = some (.int .i64 uy)) from fun _ _ h a0 a1 a2 a3 a4 a5 a6 => ⟨h.keepc a0, h.keepc a1, h.keepc a2, h.keepc a3, h.keepc a4, h.keepc a5, h.keepc a6⟩)
      by_cases hs : sa < sb
      · have hn := HN.out
        rw [if_pos hs] at hn
        have HN2 := Lib.hid hn
        clear hn
        go_wp2_with fail
        clear r0 r1 r2 m0 m1 p0 p1
        have tokf5 : True := trivial
        have tokf6 : True := trivial
        go_region_held3 (fun w' => w'.cell? ⟨w.heap.size, 0, none⟩ = some (.slice (some ⟨b, off, none⟩) l0 k0) ∧ w'.cell? ⟨w.heap.size + 1, 0, none⟩ = some (.int .i64 x) ∧ w'.cell? ⟨w.heap.size + 1, 1, none⟩ = some (.int .i64 y) ∧ w'.cell? ⟨b, off + m * 2, none⟩ = some (.int .i64 vx) ∧ w'.cell? ⟨b, off + m * 2 + 1, none⟩ = some (.int .i64 vy) ∧ w'.cell? ⟨b, off + k * 2, none⟩ = some (.int .i64 ux) ∧ w'.cell? ⟨b, off + k * 2 + 1, none⟩ = some (.int .i64 uy)) (go_keep)
          (first
            | (go_at_call 14; have _tk := tokf5; refine (KA.out _).mono ?_; rintro e x5 ⟨rfl, f5⟩; clear _tk tokf5; obtain ⟨kf50, kf51, kf52, kf53, kf54, kf55, kf56⟩ := KR.out _ _ f5 s0 s1 s2 s3 s4 s5 s6)
            | (go_at_call 14; have _tk := tokf6; refine (KB.out _).mono ?_; rintro e x6 ⟨rfl, f6⟩; clear _tk tokf6; obtain ⟨kf60, kf61, kf62, kf63, kf64, kf65, kf66⟩ := KR.out _ _ f6 kf50 kf51 kf52 kf53 kf54 kf55 kf56))
        have HF5 := Lib.hid (((HFr.out).drew.noTrans f5).noTrans f6)
        clear f5 f6 s0 s1 s2 s3 s4 s5 s6 kf50 kf51 kf52 kf53 kf54 kf55 kf56 kf61 kf62 kf63 kf64 kf65 kf66
        go_wp2_with fail
        exact ⟨⟨k + 1, by omega, by omega, by go_num, by rw [HN2.out], HF5.out⟩, by simp [intOf]; omega⟩
      · have hn := HN.out
        rw [if_neg hs] at hn
        have hs' : sb ≤ sa := by omega
        clear hs
        have HN2 := Lib.hid hn
        clear hn
        go_wp2_with fail
        clear r0 r1 r2 m0 m1 p0 p1
        have tokf5 : True := trivial
        have tokf6 : True := trivial
        go_region_held3 (fun w' => w'.cell? ⟨w.heap.size, 0, none⟩ = some (.slice (some ⟨b, off, none⟩) l0 k0) ∧ w'.cell? ⟨w.heap.size + 1, 0, none⟩ = some (.int .i64 x) ∧ w'.cell? ⟨w.heap.size + 1, 1, none⟩ = some (.int .i64 y) ∧ w'.cell? ⟨b, off + m * 2, none⟩ = some (.int .i64 vx) ∧ w'.cell? ⟨b, off + m * 2 + 1, none⟩ = some (.int .i64 vy) ∧ w'.cell? ⟨b, off + k * 2, none⟩ = some (.int .i64 ux) ∧ w'.cell? ⟨b, off + k * 2 + 1, none⟩ = some (.int .i64 uy)) (go_keep)
          (first
            | (go_at_call 14; have _tk := tokf5; refine (KA.out _).mono ?_; rintro e x5 ⟨rfl, f5⟩; clear _tk tokf5; obtain ⟨kf50, kf51, kf52, kf53, kf54, kf55, kf56⟩ := KR.out _ _ f5 s0 s1 s2 s3 s4 s5 s6)
            | (go_at_call 14; have _tk := tokf6; refine (KB.out _).mono ?_; rintro e x6 ⟨rfl, f6⟩; clear _tk tokf6; obtain ⟨kf60, kf61, kf62, kf63, kf64, kf65, kf66⟩ := KR.out _ _ f6 kf50 kf51 kf52 kf53 kf54 kf55 kf56))
        have HF5 := Lib.hid (((HFr.out).drew.noTrans f5).noTrans f6)
        clear f5 f6 s0 s1 s2 s3 s4 s5 s6 kf50 kf51 kf52 kf53 kf54 kf55 kf56 kf61 kf62 kf63 kf64 kf65 kf66
        go_wp2_with fail
        exact ⟨⟨k + 1, by omega, by omega, by go_num, by rw [HN2.out], HF5.out⟩, by simp [intOf]; omega⟩
    · obtain rfl : k = l0 := by omega
      go_wp2_with fail
      go_ret2
      exact ⟨rfl, HF2.out.noTrans HFr.out⟩
theorem nearestR_any (a0 : Option Addr) (l0 k0 : Nat) (a1 : Option Addr) (l1 k1 : Nat) (a2 : Option Addr) (l2 k2 : Nat) (e o t : Int) (ps : List Pt) (zs : List Int) (ws : List Wl) (x y : Int) (w : World) (hp : PtsIn w a0 l0 ps) (hz : IntsIn w a1 l1 zs) (hw : WlsIn w a2 l2 ws) : Calls Try.prog 29 #[.agg #[.slice a0 l0 k0, .slice a1 l1 k1, .slice a2 l2 k2, .int .i64 e, .int .i64 o, .int .i64 t], .agg #[.int .i64 x, .int .i64 y]] w fun e' w' => e' = .returned (.tuple #[.int .i64 (nrV (ckB l0 l1 l2 e o t ps zs ws) (ptB x y) (nb ps x y l0)), .int .i64 (nrE (ckB l0 l1 l2 e o t ps zs ws) (ptB x y))]) ∧ Fr no w w' := by
  cases g0 : (ckB l0 l1 l2 e o t ps zs ws)
  · exact nearestR_0 a0 l0 k0 a1 l1 k1 a2 l2 k2 e o t ps zs ws x y w hp hz hw g0
  cases g1 : ptB x y
  · exact nearestR_1 a0 l0 k0 a1 l1 k1 a2 l2 k2 e o t ps zs ws x y w hp hz hw g0 g1
  · exact nearestR_2 a0 l0 k0 a1 l1 k1 a2 l2 k2 e o t ps zs ws x y w hp hz hw g0 g1
end Go.Proofs.Ytljfdoabgbioiaa
