/- Check of a site. -/
import Derived.Test.YtdenlinehjigaaaSit
namespace Go.Proofs.Ytdenlinehjigaaa
open Go.RowKit
set_option linter.unusedVariables false

/-- A valid site. -/
def ckB (l0 l1 l2 : Nat) (e o t : Int) (ps : List Pt) (zs : List Int) (ws : List Wl) : Bool :=
  inR l0 2 32 && (decide (l1 = l0) && (decide (l2 ≤ 32) && (decide (e = 2 ∨ e = 4) && (inR t 1000 100000 && (inR o 1 MX && (ps.all ptOk && (zs.all isP && ws.all wlOk)))))))
def ckE (b : Bool) : Int := if b then 0 else 1
set_option maxHeartbeats 4000000 in
theorem check_0 (a0 : Option Addr) (l0 k0 : Nat) (a1 : Option Addr) (l1 k1 : Nat) (a2 : Option Addr) (l2 k2 : Nat) (e o t : Int) (ps : List Pt) (zs : List Int) (ws : List Wl) (w : World) (hp : PtsIn w a0 l0 ps) (hz : IntsIn w a1 l1 zs) (hw : WlsIn w a2 l2 ws) (g0 : inR l0 2 32 = false) :
    Calls Try.prog 20 #[.agg #[.slice a0 l0 k0, .slice a1 l1 k1, .slice a2 l2 k2, .int .i64 e, .int .i64 o, .int .i64 t]] w fun e w' => e = .returned (.int .i64 1) ∧ Fr no w w' := by
  have K0 := Lib.hid (fun w => within_any (l0 : Int) 2 32 w)
  rw [g0] at K0
  clear hp hz hw g0
  have KS := Lib.hid (show ∀ w0 w' : World, Fr no w0 w' → w0.cell? ⟨w.heap.size, 0, none⟩ = some (.slice a0 l0 k0) → w0.cell? ⟨w.heap.size, 1, none⟩ = some (.slice a1 l1 k1) → w0.cell? ⟨w.heap.size, 2, none⟩ = some (.slice a2 l2 k2) → w0.cell? ⟨w.heap.size, 3, none⟩ = some (.int .i64 e) → w0.cell? ⟨w.heap.size, 4, none⟩ = some (.int .i64 o) → w0.cell? ⟨w.heap.size, 5, none⟩ = some (.int .i64 t) → (w'.cell? ⟨w.heap.size, 0, none⟩ = some (.slice a0 l0 k0) ∧ w'.cell? ⟨w.heap.size, 1, none⟩ = some (.slice a1 l1 k1) ∧ w'.cell? ⟨w.heap.size, 2, none⟩ = some (.slice a2 l2 k2) ∧ w'.cell? ⟨w.heap.size, 3, none⟩ = some (.int .i64 e) ∧ w'.cell? ⟨w.heap.size, 4, none⟩ = some (.int .i64 o) ∧ w'.cell? ⟨w.heap.size, 5, none⟩ = some (.int .i64 t)) from fun _ _ h a0 a1 a2 a3 a4 a5 => ⟨h.keepc a0, h.keepc a1, h.keepc a2, h.keepc a3, h.keepc a4, h.keepc a5⟩)
  obtain ⟨W, hW⟩ : ∃ W, W = (w.alloc (.cells #[.slice a0 l0 k0, .slice a1 l1 k1, .slice a2 l2 k2, .int .i64 e, .int .i64 o, .int .i64 t] 26 (0, 0))) := ⟨_, rfl⟩
  have HF := Lib.hid (show Fr no w W by rw [hW]; exact (Fr.refl no w).alloc _)
  have c0 : W.cell? ⟨w.heap.size, 0, none⟩ = some (.slice a0 l0 k0) := by rw [hW]; go_simp
  have c1 : W.cell? ⟨w.heap.size, 1, none⟩ = some (.slice a1 l1 k1) := by rw [hW]; go_simp
  have c2 : W.cell? ⟨w.heap.size, 2, none⟩ = some (.slice a2 l2 k2) := by rw [hW]; go_simp
  have c3 : W.cell? ⟨w.heap.size, 3, none⟩ = some (.int .i64 e) := by rw [hW]; go_simp
  have c4 : W.cell? ⟨w.heap.size, 4, none⟩ = some (.int .i64 o) := by rw [hW]; go_simp
  have c5 : W.cell? ⟨w.heap.size, 5, none⟩ = some (.int .i64 t) := by rw [hW]; go_simp
  have HW := Lib.hid hW
  clear hW
  go_enter Try.func20, Try.ntmps20
  go_wp2_with fail
  rw [← HW.out]
  refine (K0.out _).mono ?_
  rintro e w' ⟨rfl, rfl⟩
  go_wp2_with fail
  go_ret
  exact ⟨rfl, HF.out⟩
set_option maxHeartbeats 4000000 in
theorem check_1 (a0 : Option Addr) (l0 k0 : Nat) (a1 : Option Addr) (l1 k1 : Nat) (a2 : Option Addr) (l2 k2 : Nat) (e o t : Int) (ps : List Pt) (zs : List Int) (ws : List Wl) (w : World) (hp : PtsIn w a0 l0 ps) (hz : IntsIn w a1 l1 zs) (hw : WlsIn w a2 l2 ws) (g0 : inR l0 2 32 = true) (g1 : ¬ l1 = l0) :
    Calls Try.prog 20 #[.agg #[.slice a0 l0 k0, .slice a1 l1 k1, .slice a2 l2 k2, .int .i64 e, .int .i64 o, .int .i64 t]] w fun e w' => e = .returned (.int .i64 1) ∧ Fr no w w' := by
  have b0 : l0 ≤ 32 := by have := (inR_t.1 g0).2; omega
  have K0 := Lib.hid (fun w => within_any (l0 : Int) 2 32 w)
  rw [g0] at K0
  have q1 : ((l1 : Int) == (l0 : Int)) = false := by rw [beq_eq_false_iff_ne]; omega
  have q1n : ((l1 : Int) != (l0 : Int)) = true := by rw [bne_iff_ne]; omega
  clear hp hz hw g0 g1 b0
  have KS := Lib.hid (show ∀ w0 w' : World, Fr no w0 w' → w0.cell? ⟨w.heap.size, 0, none⟩ = some (.slice a0 l0 k0) → w0.cell? ⟨w.heap.size, 1, none⟩ = some (.slice a1 l1 k1) → w0.cell? ⟨w.heap.size, 2, none⟩ = some (.slice a2 l2 k2) → w0.cell? ⟨w.heap.size, 3, none⟩ = some (.int .i64 e) → w0.cell? ⟨w.heap.size, 4, none⟩ = some (.int .i64 o) → w0.cell? ⟨w.heap.size, 5, none⟩ = some (.int .i64 t) → (w'.cell? ⟨w.heap.size, 0, none⟩ = some (.slice a0 l0 k0) ∧ w'.cell? ⟨w.heap.size, 1, none⟩ = some (.slice a1 l1 k1) ∧ w'.cell? ⟨w.heap.size, 2, none⟩ = some (.slice a2 l2 k2) ∧ w'.cell? ⟨w.heap.size, 3, none⟩ = some (.int .i64 e) ∧ w'.cell? ⟨w.heap.size, 4, none⟩ = some (.int .i64 o) ∧ w'.cell? ⟨w.heap.size, 5, none⟩ = some (.int .i64 t)) from fun _ _ h a0 a1 a2 a3 a4 a5 => ⟨h.keepc a0, h.keepc a1, h.keepc a2, h.keepc a3, h.keepc a4, h.keepc a5⟩)
  obtain ⟨W, hW⟩ : ∃ W, W = (w.alloc (.cells #[.slice a0 l0 k0, .slice a1 l1 k1, .slice a2 l2 k2, .int .i64 e, .int .i64 o, .int .i64 t] 26 (0, 0))) := ⟨_, rfl⟩
  have HF := Lib.hid (show Fr no w W by rw [hW]; exact (Fr.refl no w).alloc _)
  have c0 : W.cell? ⟨w.heap.size, 0, none⟩ = some (.slice a0 l0 k0) := by rw [hW]; go_simp
  have c1 : W.cell? ⟨w.heap.size, 1, none⟩ = some (.slice a1 l1 k1) := by rw [hW]; go_simp
  have c2 : W.cell? ⟨w.heap.size, 2, none⟩ = some (.slice a2 l2 k2) := by rw [hW]; go_simp
  have c3 : W.cell? ⟨w.heap.size, 3, none⟩ = some (.int .i64 e) := by rw [hW]; go_simp
  have c4 : W.cell? ⟨w.heap.size, 4, none⟩ = some (.int .i64 o) := by rw [hW]; go_simp
  have c5 : W.cell? ⟨w.heap.size, 5, none⟩ = some (.int .i64 t) := by rw [hW]; go_simp
  have HW := Lib.hid hW
  clear hW
  go_enter Try.func20, Try.ntmps20
  go_wp2_with fail
  rw [← HW.out]
  refine (K0.out _).mono ?_
  rintro e w' ⟨rfl, rfl⟩
  go_wp2_with fail
  go_ret
  exact ⟨rfl, HF.out⟩
set_option maxHeartbeats 4000000 in
theorem check_2 (a0 : Option Addr) (l0 k0 : Nat) (a1 : Option Addr) (l1 k1 : Nat) (a2 : Option Addr) (l2 k2 : Nat) (e o t : Int) (ps : List Pt) (zs : List Int) (ws : List Wl) (w : World) (hp : PtsIn w a0 l0 ps) (hz : IntsIn w a1 l1 zs) (hw : WlsIn w a2 l2 ws) (g0 : inR l0 2 32 = true) (g1 : l1 = l0) (g2 : ¬ l2 ≤ 32) :
    Calls Try.prog 20 #[.agg #[.slice a0 l0 k0, .slice a1 l1 k1, .slice a2 l2 k2, .int .i64 e, .int .i64 o, .int .i64 t]] w fun e w' => e = .returned (.int .i64 1) ∧ Fr no w w' := by
  have b0 : l0 ≤ 32 := by have := (inR_t.1 g0).2; omega
  have K0 := Lib.hid (fun w => within_any (l0 : Int) 2 32 w)
  rw [g0] at K0
  have q1 : ((l1 : Int) == (l0 : Int)) = true := by rw [beq_iff_eq]; omega
  have q1n : ((l1 : Int) != (l0 : Int)) = false := by simp; omega
  have b1 : l1 ≤ 32 := by omega
  have q2 : 32 < (l2 : Int) := by omega
  clear hp hz hw g0 g1 g2 b0 b1
  have KS := Lib.hid (show ∀ w0 w' : World, Fr no w0 w' → w0.cell? ⟨w.heap.size, 0, none⟩ = some (.slice a0 l0 k0) → w0.cell? ⟨w.heap.size, 1, none⟩ = some (.slice a1 l1 k1) → w0.cell? ⟨w.heap.size, 2, none⟩ = some (.slice a2 l2 k2) → w0.cell? ⟨w.heap.size, 3, none⟩ = some (.int .i64 e) → w0.cell? ⟨w.heap.size, 4, none⟩ = some (.int .i64 o) → w0.cell? ⟨w.heap.size, 5, none⟩ = some (.int .i64 t) → (w'.cell? ⟨w.heap.size, 0, none⟩ = some (.slice a0 l0 k0) ∧ w'.cell? ⟨w.heap.size, 1, none⟩ = some (.slice a1 l1 k1) ∧ w'.cell? ⟨w.heap.size, 2, none⟩ = some (.slice a2 l2 k2) ∧ w'.cell? ⟨w.heap.size, 3, none⟩ = some (.int .i64 e) ∧ w'.cell? ⟨w.heap.size, 4, none⟩ = some (.int .i64 o) ∧ w'.cell? ⟨w.heap.size, 5, none⟩ = some (.int .i64 t)) from fun _ _ h a0 a1 a2 a3 a4 a5 => ⟨h.keepc a0, h.keepc a1, h.keepc a2, h.keepc a3, h.keepc a4, h.keepc a5⟩)
  obtain ⟨W, hW⟩ : ∃ W, W = (w.alloc (.cells #[.slice a0 l0 k0, .slice a1 l1 k1, .slice a2 l2 k2, .int .i64 e, .int .i64 o, .int .i64 t] 26 (0, 0))) := ⟨_, rfl⟩
  have HF := Lib.hid (show Fr no w W by rw [hW]; exact (Fr.refl no w).alloc _)
  have c0 : W.cell? ⟨w.heap.size, 0, none⟩ = some (.slice a0 l0 k0) := by rw [hW]; go_simp
  have c1 : W.cell? ⟨w.heap.size, 1, none⟩ = some (.slice a1 l1 k1) := by rw [hW]; go_simp
  have c2 : W.cell? ⟨w.heap.size, 2, none⟩ = some (.slice a2 l2 k2) := by rw [hW]; go_simp
  have c3 : W.cell? ⟨w.heap.size, 3, none⟩ = some (.int .i64 e) := by rw [hW]; go_simp
  have c4 : W.cell? ⟨w.heap.size, 4, none⟩ = some (.int .i64 o) := by rw [hW]; go_simp
  have c5 : W.cell? ⟨w.heap.size, 5, none⟩ = some (.int .i64 t) := by rw [hW]; go_simp
  have HW := Lib.hid hW
  clear hW
  go_enter Try.func20, Try.ntmps20
  go_wp2_with fail
  rw [← HW.out]
  refine (K0.out _).mono ?_
  rintro e w' ⟨rfl, rfl⟩
  go_wp2_with fail
  go_ret
  exact ⟨rfl, HF.out⟩
set_option maxHeartbeats 4000000 in
theorem check_3 (a0 : Option Addr) (l0 k0 : Nat) (a1 : Option Addr) (l1 k1 : Nat) (a2 : Option Addr) (l2 k2 : Nat) (e o t : Int) (ps : List Pt) (zs : List Int) (ws : List Wl) (w : World) (hp : PtsIn w a0 l0 ps) (hz : IntsIn w a1 l1 zs) (hw : WlsIn w a2 l2 ws) (g0 : inR l0 2 32 = true) (g1 : l1 = l0) (g2 : l2 ≤ 32) (g3 : ¬ (e = 2 ∨ e = 4)) :
    Calls Try.prog 20 #[.agg #[.slice a0 l0 k0, .slice a1 l1 k1, .slice a2 l2 k2, .int .i64 e, .int .i64 o, .int .i64 t]] w fun e w' => e = .returned (.int .i64 1) ∧ Fr no w w' := by
  have b0 : l0 ≤ 32 := by have := (inR_t.1 g0).2; omega
  have K0 := Lib.hid (fun w => within_any (l0 : Int) 2 32 w)
  rw [g0] at K0
  have q1 : ((l1 : Int) == (l0 : Int)) = true := by rw [beq_iff_eq]; omega
  have q1n : ((l1 : Int) != (l0 : Int)) = false := by simp; omega
  have b1 : l1 ≤ 32 := by omega
  have q2 : (l2 : Int) ≤ 32 := by omega
  have q3 : (e == 2) = false := by rw [beq_eq_false_iff_ne]; omega
  have q4 : (e == 4) = false := by rw [beq_eq_false_iff_ne]; omega
  have q5 : (e != 2) = true := by rw [bne_iff_ne]; omega
  have q6 : (e != 4) = true := by rw [bne_iff_ne]; omega
  clear hp hz hw g0 g1 g2 g3 b0 b1
  have KS := Lib.hid (show ∀ w0 w' : World, Fr no w0 w' → w0.cell? ⟨w.heap.size, 0, none⟩ = some (.slice a0 l0 k0) → w0.cell? ⟨w.heap.size, 1, none⟩ = some (.slice a1 l1 k1) → w0.cell? ⟨w.heap.size, 2, none⟩ = some (.slice a2 l2 k2) → w0.cell? ⟨w.heap.size, 3, none⟩ = some (.int .i64 e) → w0.cell? ⟨w.heap.size, 4, none⟩ = some (.int .i64 o) → w0.cell? ⟨w.heap.size, 5, none⟩ = some (.int .i64 t) → (w'.cell? ⟨w.heap.size, 0, none⟩ = some (.slice a0 l0 k0) ∧ w'.cell? ⟨w.heap.size, 1, none⟩ = some (.slice a1 l1 k1) ∧ w'.cell? ⟨w.heap.size, 2, none⟩ = some (.slice a2 l2 k2) ∧ w'.cell? ⟨w.heap.size, 3, none⟩ = some (.int .i64 e) ∧ w'.cell? ⟨w.heap.size, 4, none⟩ = some (.int .i64 o) ∧ w'.cell? ⟨w.heap.size, 5, none⟩ = some (.int .i64 t)) from fun _ _ h a0 a1 a2 a3 a4 a5 => ⟨h.keepc a0, h.keepc a1, h.keepc a2, h.keepc a3, h.keepc a4, h.keepc a5⟩)
  obtain ⟨W, hW⟩ : ∃ W, W = (w.alloc (.cells #[.slice a0 l0 k0, .slice a1 l1 k1, .slice a2 l2 k2, .int .i64 e, .int .i64 o, .int .i64 t] 26 (0, 0))) := ⟨_, rfl⟩
  have HF := Lib.hid (show Fr no w W by rw [hW]; exact (Fr.refl no w).alloc _)
  have c0 : W.cell? ⟨w.heap.size, 0, none⟩ = some (.slice a0 l0 k0) := by rw [hW]; go_simp
  have c1 : W.cell? ⟨w.heap.size, 1, none⟩ = some (.slice a1 l1 k1) := by rw [hW]; go_simp
  have c2 : W.cell? ⟨w.heap.size, 2, none⟩ = some (.slice a2 l2 k2) := by rw [hW]; go_simp
  have c3 : W.cell? ⟨w.heap.size, 3, none⟩ = some (.int .i64 e) := by rw [hW]; go_simp
  have c4 : W.cell? ⟨w.heap.size, 4, none⟩ = some (.int .i64 o) := by rw [hW]; go_simp
  have c5 : W.cell? ⟨w.heap.size, 5, none⟩ = some (.int .i64 t) := by rw [hW]; go_simp
  have HW := Lib.hid hW
  clear hW
  go_enter Try.func20, Try.ntmps20
  go_wp2_with fail
  rw [← HW.out]
  refine (K0.out _).mono ?_
  rintro e w' ⟨rfl, rfl⟩
  go_wp2_with fail
  go_ret
  exact ⟨rfl, HF.out⟩
set_option maxHeartbeats 4000000 in
theorem check_4 (a0 : Option Addr) (l0 k0 : Nat) (a1 : Option Addr) (l1 k1 : Nat) (a2 : Option Addr) (l2 k2 : Nat) (e o t : Int) (ps : List Pt) (zs : List Int) (ws : List Wl) (w : World) (hp : PtsIn w a0 l0 ps) (hz : IntsIn w a1 l1 zs) (hw : WlsIn w a2 l2 ws) (g0 : inR l0 2 32 = true) (g1 : l1 = l0) (g2 : l2 ≤ 32) (g3 : (e = 2 ∨ e = 4)) (g4 : inR t 1000 100000 = false) :
    Calls Try.prog 20 #[.agg #[.slice a0 l0 k0, .slice a1 l1 k1, .slice a2 l2 k2, .int .i64 e, .int .i64 o, .int .i64 t]] w fun e w' => e = .returned (.int .i64 1) ∧ Fr no w w' := by
  have b0 : l0 ≤ 32 := by have := (inR_t.1 g0).2; omega
  have K0 := Lib.hid (fun w => within_any (l0 : Int) 2 32 w)
  rw [g0] at K0
  have K4 := Lib.hid (fun w => within_any t 1000 100000 w)
  rw [g4] at K4
  have q1 : ((l1 : Int) == (l0 : Int)) = true := by rw [beq_iff_eq]; omega
  have q1n : ((l1 : Int) != (l0 : Int)) = false := by simp; omega
  have b1 : l1 ≤ 32 := by omega
  have q2 : (l2 : Int) ≤ 32 := by omega
  clear hp hz hw g0 g1 g2 g4 b0 b1
  rcases g3 with rfl | rfl
  · have KS := Lib.hid (show ∀ w0 w' : World, Fr no w0 w' → w0.cell? ⟨w.heap.size, 0, none⟩ = some (.slice a0 l0 k0) → w0.cell? ⟨w.heap.size, 1, none⟩ = some (.slice a1 l1 k1) → w0.cell? ⟨w.heap.size, 2, none⟩ = some (.slice a2 l2 k2) → w0.cell? ⟨w.heap.size, 3, none⟩ = some (.int .i64 2) → w0.cell? ⟨w.heap.size, 4, none⟩ = some (.int .i64 o) → w0.cell? ⟨w.heap.size, 5, none⟩ = some (.int .i64 t) → (w'.cell? ⟨w.heap.size, 0, none⟩ = some (.slice a0 l0 k0) ∧ w'.cell? ⟨w.heap.size, 1, none⟩ = some (.slice a1 l1 k1) ∧ w'.cell? ⟨w.heap.size, 2, none⟩ = some (.slice a2 l2 k2) ∧ w'.cell? ⟨w.heap.size, 3, none⟩ = some (.int .i64 2) ∧ w'.cell? ⟨w.heap.size, 4, none⟩ = some (.int .i64 o) ∧ w'.cell? ⟨w.heap.size, 5, none⟩ = some (.int .i64 t)) from fun _ _ h a0 a1 a2 a3 a4 a5 => ⟨h.keepc a0, h.keepc a1, h.keepc a2, h.keepc a3, h.keepc a4, h.keepc a5⟩)
    obtain ⟨W, hW⟩ : ∃ W, W = (w.alloc (.cells #[.slice a0 l0 k0, .slice a1 l1 k1, .slice a2 l2 k2, .int .i64 2, .int .i64 o, .int .i64 t] 26 (0, 0))) := ⟨_, rfl⟩
    have HF := Lib.hid (show Fr no w W by rw [hW]; exact (Fr.refl no w).alloc _)
    have c0 : W.cell? ⟨w.heap.size, 0, none⟩ = some (.slice a0 l0 k0) := by rw [hW]; go_simp
    have c1 : W.cell? ⟨w.heap.size, 1, none⟩ = some (.slice a1 l1 k1) := by rw [hW]; go_simp
    have c2 : W.cell? ⟨w.heap.size, 2, none⟩ = some (.slice a2 l2 k2) := by rw [hW]; go_simp
    have c3 : W.cell? ⟨w.heap.size, 3, none⟩ = some (.int .i64 2) := by rw [hW]; go_simp
    have c4 : W.cell? ⟨w.heap.size, 4, none⟩ = some (.int .i64 o) := by rw [hW]; go_simp
    have c5 : W.cell? ⟨w.heap.size, 5, none⟩ = some (.int .i64 t) := by rw [hW]; go_simp
    have HW := Lib.hid hW
    clear hW
    go_enter Try.func20, Try.ntmps20
    go_wp2_with fail
    rw [← HW.out]
    refine (K0.out _).mono ?_
    rintro e w' ⟨rfl, rfl⟩
    go_wp2_with fail
    refine (K4.out _).mono ?_
    rintro e w' ⟨rfl, rfl⟩
    go_wp2_with fail
    go_ret
    exact ⟨rfl, HF.out⟩
  · have KS := Lib.hid (show ∀ w0 w' : World, Fr no w0 w' → w0.cell? ⟨w.heap.size, 0, none⟩ = some (.slice a0 l0 k0) → w0.cell? ⟨w.heap.size, 1, none⟩ = some (.slice a1 l1 k1) → w0.cell? ⟨w.heap.size, 2, none⟩ = some (.slice a2 l2 k2) → w0.cell? ⟨w.heap.size, 3, none⟩ = some (.int .i64 4) → w0.cell? ⟨w.heap.size, 4, none⟩ = some (.int .i64 o) → w0.cell? ⟨w.heap.size, 5, none⟩ = some (.int .i64 t) → (w'.cell? ⟨w.heap.size, 0, none⟩ = some (.slice a0 l0 k0) ∧ w'.cell? ⟨w.heap.size, 1, none⟩ = some (.slice a1 l1 k1) ∧ w'.cell? ⟨w.heap.size, 2, none⟩ = some (.slice a2 l2 k2) ∧ w'.cell? ⟨w.heap.size, 3, none⟩ = some (.int .i64 4) ∧ w'.cell? ⟨w.heap.size, 4, none⟩ = some (.int .i64 o) ∧ w'.cell? ⟨w.heap.size, 5, none⟩ = some (.int .i64 t)) from fun _ _ h a0 a1 a2 a3 a4 a5 => ⟨h.keepc a0, h.keepc a1, h.keepc a2, h.keepc a3, h.keepc a4, h.keepc a5⟩)
    obtain ⟨W, hW⟩ : ∃ W, W = (w.alloc (.cells #[.slice a0 l0 k0, .slice a1 l1 k1, .slice a2 l2 k2, .int .i64 4, .int .i64 o, .int .i64 t] 26 (0, 0))) := ⟨_, rfl⟩
    have HF := Lib.hid (show Fr no w W by rw [hW]; exact (Fr.refl no w).alloc _)
    have c0 : W.cell? ⟨w.heap.size, 0, none⟩ = some (.slice a0 l0 k0) := by rw [hW]; go_simp
    have c1 : W.cell? ⟨w.heap.size, 1, none⟩ = some (.slice a1 l1 k1) := by rw [hW]; go_simp
    have c2 : W.cell? ⟨w.heap.size, 2, none⟩ = some (.slice a2 l2 k2) := by rw [hW]; go_simp
    have c3 : W.cell? ⟨w.heap.size, 3, none⟩ = some (.int .i64 4) := by rw [hW]; go_simp
    have c4 : W.cell? ⟨w.heap.size, 4, none⟩ = some (.int .i64 o) := by rw [hW]; go_simp
    have c5 : W.cell? ⟨w.heap.size, 5, none⟩ = some (.int .i64 t) := by rw [hW]; go_simp
    have HW := Lib.hid hW
    clear hW
    go_enter Try.func20, Try.ntmps20
    go_wp2_with fail
    rw [← HW.out]
    refine (K0.out _).mono ?_
    rintro e w' ⟨rfl, rfl⟩
    go_wp2_with fail
    refine (K4.out _).mono ?_
    rintro e w' ⟨rfl, rfl⟩
    go_wp2_with fail
    go_ret
    exact ⟨rfl, HF.out⟩
set_option maxHeartbeats 4000000 in
theorem check_5 (a0 : Option Addr) (l0 k0 : Nat) (a1 : Option Addr) (l1 k1 : Nat) (a2 : Option Addr) (l2 k2 : Nat) (e o t : Int) (ps : List Pt) (zs : List Int) (ws : List Wl) (w : World) (hp : PtsIn w a0 l0 ps) (hz : IntsIn w a1 l1 zs) (hw : WlsIn w a2 l2 ws) (g0 : inR l0 2 32 = true) (g1 : l1 = l0) (g2 : l2 ≤ 32) (g3 : (e = 2 ∨ e = 4)) (g4 : inR t 1000 100000 = true) (g5 : inR o 1 68719476736 = false) :
    Calls Try.prog 20 #[.agg #[.slice a0 l0 k0, .slice a1 l1 k1, .slice a2 l2 k2, .int .i64 e, .int .i64 o, .int .i64 t]] w fun e w' => e = .returned (.int .i64 1) ∧ Fr no w w' := by
  have b0 : l0 ≤ 32 := by have := (inR_t.1 g0).2; omega
  have K0 := Lib.hid (fun w => within_any (l0 : Int) 2 32 w)
  rw [g0] at K0
  have K4 := Lib.hid (fun w => within_any t 1000 100000 w)
  rw [g4] at K4
  have K5 := Lib.hid (fun w => within_any o 1 68719476736 w)
  rw [g5] at K5
  have q1 : ((l1 : Int) == (l0 : Int)) = true := by rw [beq_iff_eq]; omega
  have q1n : ((l1 : Int) != (l0 : Int)) = false := by simp; omega
  have b1 : l1 ≤ 32 := by omega
  have q2 : (l2 : Int) ≤ 32 := by omega
  clear hp hz hw g0 g1 g2 g4 g5 b0 b1
  rcases g3 with rfl | rfl
  · have KS := Lib.hid (show ∀ w0 w' : World, Fr no w0 w' → w0.cell? ⟨w.heap.size, 0, none⟩ = some (.slice a0 l0 k0) → w0.cell? ⟨w.heap.size, 1, none⟩ = some (.slice a1 l1 k1) → w0.cell? ⟨w.heap.size, 2, none⟩ = some (.slice a2 l2 k2) → w0.cell? ⟨w.heap.size, 3, none⟩ = some (.int .i64 2) → w0.cell? ⟨w.heap.size, 4, none⟩ = some (.int .i64 o) → w0.cell? ⟨w.heap.size, 5, none⟩ = some (.int .i64 t) → (w'.cell? ⟨w.heap.size, 0, none⟩ = some (.slice a0 l0 k0) ∧ w'.cell? ⟨w.heap.size, 1, none⟩ = some (.slice a1 l1 k1) ∧ w'.cell? ⟨w.heap.size, 2, none⟩ = some (.slice a2 l2 k2) ∧ w'.cell? ⟨w.heap.size, 3, none⟩ = some (.int .i64 2) ∧ w'.cell? ⟨w.heap.size, 4, none⟩ = some (.int .i64 o) ∧ w'.cell? ⟨w.heap.size, 5, none⟩ = some (.int .i64 t)) from fun _ _ h a0 a1 a2 a3 a4 a5 => ⟨h.keepc a0, h.keepc a1, h.keepc a2, h.keepc a3, h.keepc a4, h.keepc a5⟩)
    obtain ⟨W, hW⟩ : ∃ W, W = (w.alloc (.cells #[.slice a0 l0 k0, .slice a1 l1 k1, .slice a2 l2 k2, .int .i64 2, .int .i64 o, .int .i64 t] 26 (0, 0))) := ⟨_, rfl⟩
    have HF := Lib.hid (show Fr no w W by rw [hW]; exact (Fr.refl no w).alloc _)
    have c0 : W.cell? ⟨w.heap.size, 0, none⟩ = some (.slice a0 l0 k0) := by rw [hW]; go_simp
    have c1 : W.cell? ⟨w.heap.size, 1, none⟩ = some (.slice a1 l1 k1) := by rw [hW]; go_simp
    have c2 : W.cell? ⟨w.heap.size, 2, none⟩ = some (.slice a2 l2 k2) := by rw [hW]; go_simp
    have c3 : W.cell? ⟨w.heap.size, 3, none⟩ = some (.int .i64 2) := by rw [hW]; go_simp
    have c4 : W.cell? ⟨w.heap.size, 4, none⟩ = some (.int .i64 o) := by rw [hW]; go_simp
    have c5 : W.cell? ⟨w.heap.size, 5, none⟩ = some (.int .i64 t) := by rw [hW]; go_simp
    have HW := Lib.hid hW
    clear hW
    go_enter Try.func20, Try.ntmps20
    go_wp2_with fail
    rw [← HW.out]
    refine (K0.out _).mono ?_
    rintro e w' ⟨rfl, rfl⟩
    go_wp2_with fail
    refine (K4.out _).mono ?_
    rintro e w' ⟨rfl, rfl⟩
    go_wp2_with fail
    refine (K5.out _).mono ?_
    rintro e w' ⟨rfl, rfl⟩
    go_wp2_with fail
    go_ret
    exact ⟨rfl, HF.out⟩
  · have KS := Lib.hid (show ∀ w0 w' : World, Fr no w0 w' → w0.cell? ⟨w.heap.size, 0, none⟩ = some (.slice a0 l0 k0) → w0.cell? ⟨w.heap.size, 1, none⟩ = some (.slice a1 l1 k1) → w0.cell? ⟨w.heap.size, 2, none⟩ = some (.slice a2 l2 k2) → w0.cell? ⟨w.heap.size, 3, none⟩ = some (.int .i64 4) → w0.cell? ⟨w.heap.size, 4, none⟩ = some (.int .i64 o) → w0.cell? ⟨w.heap.size, 5, none⟩ = some (.int .i64 t) → (w'.cell? ⟨w.heap.size, 0, none⟩ = some (.slice a0 l0 k0) ∧ w'.cell? ⟨w.heap.size, 1, none⟩ = some (.slice a1 l1 k1) ∧ w'.cell? ⟨w.heap.size, 2, none⟩ = some (.slice a2 l2 k2) ∧ w'.cell? ⟨w.heap.size, 3, none⟩ = some (.int .i64 4) ∧ w'.cell? ⟨w.heap.size, 4, none⟩ = some (.int .i64 o) ∧ w'.cell? ⟨w.heap.size, 5, none⟩ = some (.int .i64 t)) from fun _ _ h a0 a1 a2 a3 a4 a5 => ⟨h.keepc a0, h.keepc a1, h.keepc a2, h.keepc a3, h.keepc a4, h.keepc a5⟩)
    obtain ⟨W, hW⟩ : ∃ W, W = (w.alloc (.cells #[.slice a0 l0 k0, .slice a1 l1 k1, .slice a2 l2 k2, .int .i64 4, .int .i64 o, .int .i64 t] 26 (0, 0))) := ⟨_, rfl⟩
    have HF := Lib.hid (show Fr no w W by rw [hW]; exact (Fr.refl no w).alloc _)
    have c0 : W.cell? ⟨w.heap.size, 0, none⟩ = some (.slice a0 l0 k0) := by rw [hW]; go_simp
    have c1 : W.cell? ⟨w.heap.size, 1, none⟩ = some (.slice a1 l1 k1) := by rw [hW]; go_simp
    have c2 : W.cell? ⟨w.heap.size, 2, none⟩ = some (.slice a2 l2 k2) := by rw [hW]; go_simp
    have c3 : W.cell? ⟨w.heap.size, 3, none⟩ = some (.int .i64 4) := by rw [hW]; go_simp
    have c4 : W.cell? ⟨w.heap.size, 4, none⟩ = some (.int .i64 o) := by rw [hW]; go_simp
    have c5 : W.cell? ⟨w.heap.size, 5, none⟩ = some (.int .i64 t) := by rw [hW]; go_simp
    have HW := Lib.hid hW
    clear hW
    go_enter Try.func20, Try.ntmps20
    go_wp2_with fail
    rw [← HW.out]
    refine (K0.out _).mono ?_
    rintro e w' ⟨rfl, rfl⟩
    go_wp2_with fail
    refine (K4.out _).mono ?_
    rintro e w' ⟨rfl, rfl⟩
    go_wp2_with fail
    refine (K5.out _).mono ?_
    rintro e w' ⟨rfl, rfl⟩
    go_wp2_with fail
    go_ret
    exact ⟨rfl, HF.out⟩
set_option maxHeartbeats 4000000 in
theorem check_6 (a0 : Option Addr) (l0 k0 : Nat) (a1 : Option Addr) (l1 k1 : Nat) (a2 : Option Addr) (l2 k2 : Nat) (e o t : Int) (ps : List Pt) (zs : List Int) (ws : List Wl) (w : World) (hp : PtsIn w a0 l0 ps) (hz : IntsIn w a1 l1 zs) (hw : WlsIn w a2 l2 ws) (g0 : inR l0 2 32 = true) (g1 : l1 = l0) (g2 : l2 ≤ 32) (g3 : (e = 2 ∨ e = 4)) (g4 : inR t 1000 100000 = true) (g5 : inR o 1 68719476736 = true) (g6 : ps.all ptOk = false) :
    Calls Try.prog 20 #[.agg #[.slice a0 l0 k0, .slice a1 l1 k1, .slice a2 l2 k2, .int .i64 e, .int .i64 o, .int .i64 t]] w fun e w' => e = .returned (.int .i64 1) ∧ Fr no w w' := by
  have b0 : l0 ≤ 32 := by have := (inR_t.1 g0).2; omega
  have K0 := Lib.hid (fun w => within_any (l0 : Int) 2 32 w)
  rw [g0] at K0
  have K4 := Lib.hid (fun w => within_any t 1000 100000 w)
  rw [g4] at K4
  have K5 := Lib.hid (fun w => within_any o 1 68719476736 w)
  rw [g5] at K5
  have K6 := Lib.hid (fun (w' : World) (h : Fr no w w') => allPts_any a0 l0 k0 ps w' (hp.kept h) (by omega))
  rw [g6] at K6
  have q1 : ((l1 : Int) == (l0 : Int)) = true := by rw [beq_iff_eq]; omega
  have q1n : ((l1 : Int) != (l0 : Int)) = false := by simp; omega
  have b1 : l1 ≤ 32 := by omega
  have q2 : (l2 : Int) ≤ 32 := by omega
  clear hp hz hw g0 g1 g2 g4 g5 g6 b0 b1
  rcases g3 with rfl | rfl
  · have KS := Lib.hid (show ∀ w0 w' : World, Fr no w0 w' → w0.cell? ⟨w.heap.size, 0, none⟩ = some (.slice a0 l0 k0) → w0.cell? ⟨w.heap.size, 1, none⟩ = some (.slice a1 l1 k1) → w0.cell? ⟨w.heap.size, 2, none⟩ = some (.slice a2 l2 k2) → w0.cell? ⟨w.heap.size, 3, none⟩ = some (.int .i64 2) → w0.cell? ⟨w.heap.size, 4, none⟩ = some (.int .i64 o) → w0.cell? ⟨w.heap.size, 5, none⟩ = some (.int .i64 t) → (w'.cell? ⟨w.heap.size, 0, none⟩ = some (.slice a0 l0 k0) ∧ w'.cell? ⟨w.heap.size, 1, none⟩ = some (.slice a1 l1 k1) ∧ w'.cell? ⟨w.heap.size, 2, none⟩ = some (.slice a2 l2 k2) ∧ w'.cell? ⟨w.heap.size, 3, none⟩ = some (.int .i64 2) ∧ w'.cell? ⟨w.heap.size, 4, none⟩ = some (.int .i64 o) ∧ w'.cell? ⟨w.heap.size, 5, none⟩ = some (.int .i64 t)) from fun _ _ h a0 a1 a2 a3 a4 a5 => ⟨h.keepc a0, h.keepc a1, h.keepc a2, h.keepc a3, h.keepc a4, h.keepc a5⟩)
    obtain ⟨W, hW⟩ : ∃ W, W = (w.alloc (.cells #[.slice a0 l0 k0, .slice a1 l1 k1, .slice a2 l2 k2, .int .i64 2, .int .i64 o, .int .i64 t] 26 (0, 0))) := ⟨_, rfl⟩
    have HF := Lib.hid (show Fr no w W by rw [hW]; exact (Fr.refl no w).alloc _)
    have c0 : W.cell? ⟨w.heap.size, 0, none⟩ = some (.slice a0 l0 k0) := by rw [hW]; go_simp
    have c1 : W.cell? ⟨w.heap.size, 1, none⟩ = some (.slice a1 l1 k1) := by rw [hW]; go_simp
    have c2 : W.cell? ⟨w.heap.size, 2, none⟩ = some (.slice a2 l2 k2) := by rw [hW]; go_simp
    have c3 : W.cell? ⟨w.heap.size, 3, none⟩ = some (.int .i64 2) := by rw [hW]; go_simp
    have c4 : W.cell? ⟨w.heap.size, 4, none⟩ = some (.int .i64 o) := by rw [hW]; go_simp
    have c5 : W.cell? ⟨w.heap.size, 5, none⟩ = some (.int .i64 t) := by rw [hW]; go_simp
    have HW := Lib.hid hW
    clear hW
    go_enter Try.func20, Try.ntmps20
    go_wp2_with fail
    rw [← HW.out]
    refine (K0.out _).mono ?_
    rintro e w' ⟨rfl, rfl⟩
    go_wp2_with fail
    refine (K4.out _).mono ?_
    rintro e w' ⟨rfl, rfl⟩
    go_wp2_with fail
    refine (K5.out _).mono ?_
    rintro e w' ⟨rfl, rfl⟩
    go_wp2_with fail
    refine (K6.out _ HF.out).mono ?_
    rintro e y1 ⟨rfl, f1⟩
    obtain ⟨d1_0, d1_1, d1_2, d1_3, d1_4, d1_5⟩ := KS.out _ _ f1 c0 c1 c2 c3 c4 c5
    have HF1 := Lib.hid (HF.out.noTrans f1)
    clear f1 c0 c1 c2 c3 c4 c5
    go_wp2_with fail
    go_ret
    exact ⟨rfl, HF1.out⟩
  · have KS := Lib.hid (show ∀ w0 w' : World, Fr no w0 w' → w0.cell? ⟨w.heap.size, 0, none⟩ = some (.slice a0 l0 k0) → w0.cell? ⟨w.heap.size, 1, none⟩ = some (.slice a1 l1 k1) → w0.cell? ⟨w.heap.size, 2, none⟩ = some (.slice a2 l2 k2) → w0.cell? ⟨w.heap.size, 3, none⟩ = some (.int .i64 4) → w0.cell? ⟨w.heap.size, 4, none⟩ = some (.int .i64 o) → w0.cell? ⟨w.heap.size, 5, none⟩ = some (.int .i64 t) → (w'.cell? ⟨w.heap.size, 0, none⟩ = some (.slice a0 l0 k0) ∧ w'.cell? ⟨w.heap.size, 1, none⟩ = some (.slice a1 l1 k1) ∧ w'.cell? ⟨w.heap.size, 2, none⟩ = some (.slice a2 l2 k2) ∧ w'.cell? ⟨w.heap.size, 3, none⟩ = some (.int .i64 4) ∧ w'.cell? ⟨w.heap.size, 4, none⟩ = some (.int .i64 o) ∧ w'.cell? ⟨w.heap.size, 5, none⟩ = some (.int .i64 t)) from fun _ _ h a0 a1 a2 a3 a4 a5 => ⟨h.keepc a0, h.keepc a1, h.keepc a2, h.keepc a3, h.keepc a4, h.keepc a5⟩)
    obtain ⟨W, hW⟩ : ∃ W, W = (w.alloc (.cells #[.slice a0 l0 k0, .slice a1 l1 k1, .slice a2 l2 k2, .int .i64 4, .int .i64 o, .int .i64 t] 26 (0, 0))) := ⟨_, rfl⟩
    have HF := Lib.hid (show Fr no w W by rw [hW]; exact (Fr.refl no w).alloc _)
    have c0 : W.cell? ⟨w.heap.size, 0, none⟩ = some (.slice a0 l0 k0) := by rw [hW]; go_simp
    have c1 : W.cell? ⟨w.heap.size, 1, none⟩ = some (.slice a1 l1 k1) := by rw [hW]; go_simp
    have c2 : W.cell? ⟨w.heap.size, 2, none⟩ = some (.slice a2 l2 k2) := by rw [hW]; go_simp
    have c3 : W.cell? ⟨w.heap.size, 3, none⟩ = some (.int .i64 4) := by rw [hW]; go_simp
    have c4 : W.cell? ⟨w.heap.size, 4, none⟩ = some (.int .i64 o) := by rw [hW]; go_simp
    have c5 : W.cell? ⟨w.heap.size, 5, none⟩ = some (.int .i64 t) := by rw [hW]; go_simp
    have HW := Lib.hid hW
    clear hW
    go_enter Try.func20, Try.ntmps20
    go_wp2_with fail
    rw [← HW.out]
    refine (K0.out _).mono ?_
    rintro e w' ⟨rfl, rfl⟩
    go_wp2_with fail
    refine (K4.out _).mono ?_
    rintro e w' ⟨rfl, rfl⟩
    go_wp2_with fail
    refine (K5.out _).mono ?_
    rintro e w' ⟨rfl, rfl⟩
    go_wp2_with fail
    refine (K6.out _ HF.out).mono ?_
    rintro e y1 ⟨rfl, f1⟩
    obtain ⟨d1_0, d1_1, d1_2, d1_3, d1_4, d1_5⟩ := KS.out _ _ f1 c0 c1 c2 c3 c4 c5
    have HF1 := Lib.hid (HF.out.noTrans f1)
    clear f1 c0 c1 c2 c3 c4 c5
    go_wp2_with fail
    go_ret
    exact ⟨rfl, HF1.out⟩
set_option maxHeartbeats 4000000 in
theorem check_7 (a0 : Option Addr) (l0 k0 : Nat) (a1 : Option Addr) (l1 k1 : Nat) (a2 : Option Addr) (l2 k2 : Nat) (e o t : Int) (ps : List Pt) (zs : List Int) (ws : List Wl) (w : World) (hp : PtsIn w a0 l0 ps) (hz : IntsIn w a1 l1 zs) (hw : WlsIn w a2 l2 ws) (g0 : inR l0 2 32 = true) (g1 : l1 = l0) (g2 : l2 ≤ 32) (g3 : (e = 2 ∨ e = 4)) (g4 : inR t 1000 100000 = true) (g5 : inR o 1 68719476736 = true) (g6 : ps.all ptOk = true) (g7 : zs.all isP = false) :
    Calls Try.prog 20 #[.agg #[.slice a0 l0 k0, .slice a1 l1 k1, .slice a2 l2 k2, .int .i64 e, .int .i64 o, .int .i64 t]] w fun e w' => e = .returned (.int .i64 1) ∧ Fr no w w' := by
  have b0 : l0 ≤ 32 := by have := (inR_t.1 g0).2; omega
  have K0 := Lib.hid (fun w => within_any (l0 : Int) 2 32 w)
  rw [g0] at K0
  have K4 := Lib.hid (fun w => within_any t 1000 100000 w)
  rw [g4] at K4
  have K5 := Lib.hid (fun w => within_any o 1 68719476736 w)
  rw [g5] at K5
  have K6 := Lib.hid (fun (w' : World) (h : Fr no w w') => allPts_any a0 l0 k0 ps w' (hp.kept h) (by omega))
  rw [g6] at K6
  have K7 := Lib.hid (fun (w' : World) (h : Fr no w w') => allInts_any a1 l1 k1 zs w' (hz.kept h) (by omega))
  rw [g7] at K7
  have q1 : ((l1 : Int) == (l0 : Int)) = true := by rw [beq_iff_eq]; omega
  have q1n : ((l1 : Int) != (l0 : Int)) = false := by simp; omega
  have b1 : l1 ≤ 32 := by omega
  have q2 : (l2 : Int) ≤ 32 := by omega
  clear hp hz hw g0 g1 g2 g4 g5 g6 g7 b0 b1
  rcases g3 with rfl | rfl
  · have KS := Lib.hid (show ∀ w0 w' : World, Fr no w0 w' → w0.cell? ⟨w.heap.size, 0, none⟩ = some (.slice a0 l0 k0) → w0.cell? ⟨w.heap.size, 1, none⟩ = some (.slice a1 l1 k1) → w0.cell? ⟨w.heap.size, 2, none⟩ = some (.slice a2 l2 k2) → w0.cell? ⟨w.heap.size, 3, none⟩ = some (.int .i64 2) → w0.cell? ⟨w.heap.size, 4, none⟩ = some (.int .i64 o) → w0.cell? ⟨w.heap.size, 5, none⟩ = some (.int .i64 t) → (w'.cell? ⟨w.heap.size, 0, none⟩ = some (.slice a0 l0 k0) ∧ w'.cell? ⟨w.heap.size, 1, none⟩ = some (.slice a1 l1 k1) ∧ w'.cell? ⟨w.heap.size, 2, none⟩ = some (.slice a2 l2 k2) ∧ w'.cell? ⟨w.heap.size, 3, none⟩ = some (.int .i64 2) ∧ w'.cell? ⟨w.heap.size, 4, none⟩ = some (.int .i64 o) ∧ w'.cell? ⟨w.heap.size, 5, none⟩ = some (.int .i64 t)) from fun _ _ h a0 a1 a2 a3 a4 a5 => ⟨h.keepc a0, h.keepc a1, h.keepc a2, h.keepc a3, h.keepc a4, h.keepc a5⟩)
    obtain ⟨W, hW⟩ : ∃ W, W = (w.alloc (.cells #[.slice a0 l0 k0, .slice a1 l1 k1, .slice a2 l2 k2, .int .i64 2, .int .i64 o, .int .i64 t] 26 (0, 0))) := ⟨_, rfl⟩
    have HF := Lib.hid (show Fr no w W by rw [hW]; exact (Fr.refl no w).alloc _)
    have c0 : W.cell? ⟨w.heap.size, 0, none⟩ = some (.slice a0 l0 k0) := by rw [hW]; go_simp
    have c1 : W.cell? ⟨w.heap.size, 1, none⟩ = some (.slice a1 l1 k1) := by rw [hW]; go_simp
    have c2 : W.cell? ⟨w.heap.size, 2, none⟩ = some (.slice a2 l2 k2) := by rw [hW]; go_simp
    have c3 : W.cell? ⟨w.heap.size, 3, none⟩ = some (.int .i64 2) := by rw [hW]; go_simp
    have c4 : W.cell? ⟨w.heap.size, 4, none⟩ = some (.int .i64 o) := by rw [hW]; go_simp
    have c5 : W.cell? ⟨w.heap.size, 5, none⟩ = some (.int .i64 t) := by rw [hW]; go_simp
    have HW := Lib.hid hW
    clear hW
    go_enter Try.func20, Try.ntmps20
    go_wp2_with fail
    rw [← HW.out]
    refine (K0.out _).mono ?_
    rintro e w' ⟨rfl, rfl⟩
    go_wp2_with fail
    refine (K4.out _).mono ?_
    rintro e w' ⟨rfl, rfl⟩
    go_wp2_with fail
    refine (K5.out _).mono ?_
    rintro e w' ⟨rfl, rfl⟩
    go_wp2_with fail
    refine (K6.out _ HF.out).mono ?_
    rintro e y1 ⟨rfl, f1⟩
    obtain ⟨d1_0, d1_1, d1_2, d1_3, d1_4, d1_5⟩ := KS.out _ _ f1 c0 c1 c2 c3 c4 c5
    have HF1 := Lib.hid (HF.out.noTrans f1)
    clear f1 c0 c1 c2 c3 c4 c5
    go_wp2_with fail
    refine (K7.out _ HF1.out).mono ?_
    rintro e y2 ⟨rfl, f2⟩
    obtain ⟨d2_0, d2_1, d2_2, d2_3, d2_4, d2_5⟩ := KS.out _ _ f2 d1_0 d1_1 d1_2 d1_3 d1_4 d1_5
    have HF2 := Lib.hid (HF1.out.noTrans f2)
    clear f2 d1_0 d1_1 d1_2 d1_3 d1_4 d1_5
    go_wp2_with fail
    go_ret
    exact ⟨rfl, HF2.out⟩
  · have KS := Lib.hid (show ∀ w0 w' : World, Fr no w0 w' → w0.cell? ⟨w.heap.size, 0, none⟩ = some (.slice a0 l0 k0) → w0.cell? ⟨w.heap.size, 1, none⟩ = some (.slice a1 l1 k1) → w0.cell? ⟨w.heap.size, 2, none⟩ = some (.slice a2 l2 k2) → w0.cell? ⟨w.heap.size, 3, none⟩ = some (.int .i64 4) → w0.cell? ⟨w.heap.size, 4, none⟩ = some (.int .i64 o) → w0.cell? ⟨w.heap.size, 5, none⟩ = some (.int .i64 t) → (w'.cell? ⟨w.heap.size, 0, none⟩ = some (.slice a0 l0 k0) ∧ w'.cell? ⟨w.heap.size, 1, none⟩ = some (.slice a1 l1 k1) ∧ w'.cell? ⟨w.heap.size, 2, none⟩ = some (.slice a2 l2 k2) ∧ w'.cell? ⟨w.heap.size, 3, none⟩ = some (.int .i64 4) ∧ w'.cell? ⟨w.heap.size, 4, none⟩ = some (.int .i64 o) ∧ w'.cell? ⟨w.heap.size, 5, none⟩ = some (.int .i64 t)) from fun _ _ h a0 a1 a2 a3 a4 a5 => ⟨h.keepc a0, h.keepc a1, h.keepc a2, h.keepc a3, h.keepc a4, h.keepc a5⟩)
    obtain ⟨W, hW⟩ : ∃ W, W = (w.alloc (.cells #[.slice a0 l0 k0, .slice a1 l1 k1, .slice a2 l2 k2, .int .i64 4, .int .i64 o, .int .i64 t] 26 (0, 0))) := ⟨_, rfl⟩
    have HF := Lib.hid (show Fr no w W by rw [hW]; exact (Fr.refl no w).alloc _)
    have c0 : W.cell? ⟨w.heap.size, 0, none⟩ = some (.slice a0 l0 k0) := by rw [hW]; go_simp
    have c1 : W.cell? ⟨w.heap.size, 1, none⟩ = some (.slice a1 l1 k1) := by rw [hW]; go_simp
    have c2 : W.cell? ⟨w.heap.size, 2, none⟩ = some (.slice a2 l2 k2) := by rw [hW]; go_simp
    have c3 : W.cell? ⟨w.heap.size, 3, none⟩ = some (.int .i64 4) := by rw [hW]; go_simp
    have c4 : W.cell? ⟨w.heap.size, 4, none⟩ = some (.int .i64 o) := by rw [hW]; go_simp
    have c5 : W.cell? ⟨w.heap.size, 5, none⟩ = some (.int .i64 t) := by rw [hW]; go_simp
    have HW := Lib.hid hW
    clear hW
    go_enter Try.func20, Try.ntmps20
    go_wp2_with fail
    rw [← HW.out]
    refine (K0.out _).mono ?_
    rintro e w' ⟨rfl, rfl⟩
    go_wp2_with fail
    refine (K4.out _).mono ?_
    rintro e w' ⟨rfl, rfl⟩
    go_wp2_with fail
    refine (K5.out _).mono ?_
    rintro e w' ⟨rfl, rfl⟩
    go_wp2_with fail
    refine (K6.out _ HF.out).mono ?_
    rintro e y1 ⟨rfl, f1⟩
    obtain ⟨d1_0, d1_1, d1_2, d1_3, d1_4, d1_5⟩ := KS.out _ _ f1 c0 c1 c2 c3 c4 c5
    have HF1 := Lib.hid (HF.out.noTrans f1)
    clear f1 c0 c1 c2 c3 c4 c5
    go_wp2_with fail
    refine (K7.out _ HF1.out).mono ?_
    rintro e y2 ⟨rfl, f2⟩
    obtain ⟨d2_0, d2_1, d2_2, d2_3, d2_4, d2_5⟩ := KS.out _ _ f2 d1_0 d1_1 d1_2 d1_3 d1_4 d1_5
    have HF2 := Lib.hid (HF1.out.noTrans f2)
    clear f2 d1_0 d1_1 d1_2 d1_3 d1_4 d1_5
    go_wp2_with fail
    go_ret
    exact ⟨rfl, HF2.out⟩
set_option maxHeartbeats 4000000 in
theorem check_8 (a0 : Option Addr) (l0 k0 : Nat) (a1 : Option Addr) (l1 k1 : Nat) (a2 : Option Addr) (l2 k2 : Nat) (e o t : Int) (ps : List Pt) (zs : List Int) (ws : List Wl) (w : World) (hp : PtsIn w a0 l0 ps) (hz : IntsIn w a1 l1 zs) (hw : WlsIn w a2 l2 ws) (g0 : inR l0 2 32 = true) (g1 : l1 = l0) (g2 : l2 ≤ 32) (g3 : (e = 2 ∨ e = 4)) (g4 : inR t 1000 100000 = true) (g5 : inR o 1 68719476736 = true) (g6 : ps.all ptOk = true) (g7 : zs.all isP = true) (g8 : ws.all wlOk = false) :
    Calls Try.prog 20 #[.agg #[.slice a0 l0 k0, .slice a1 l1 k1, .slice a2 l2 k2, .int .i64 e, .int .i64 o, .int .i64 t]] w fun e w' => e = .returned (.int .i64 1) ∧ Fr no w w' := by
  have b0 : l0 ≤ 32 := by have := (inR_t.1 g0).2; omega
  have K0 := Lib.hid (fun w => within_any (l0 : Int) 2 32 w)
  rw [g0] at K0
  have K4 := Lib.hid (fun w => within_any t 1000 100000 w)
  rw [g4] at K4
  have K5 := Lib.hid (fun w => within_any o 1 68719476736 w)
  rw [g5] at K5
  have K6 := Lib.hid (fun (w' : World) (h : Fr no w w') => allPts_any a0 l0 k0 ps w' (hp.kept h) (by omega))
  rw [g6] at K6
  have K7 := Lib.hid (fun (w' : World) (h : Fr no w w') => allInts_any a1 l1 k1 zs w' (hz.kept h) (by omega))
  rw [g7] at K7
  have K8 := Lib.hid (fun (w' : World) (h : Fr no w w') => allWls_any a2 l2 k2 ws w' (hw.kept h) (by omega))
  rw [g8] at K8
  have q1 : ((l1 : Int) == (l0 : Int)) = true := by rw [beq_iff_eq]; omega
  have q1n : ((l1 : Int) != (l0 : Int)) = false := by simp; omega
  have b1 : l1 ≤ 32 := by omega
  have q2 : (l2 : Int) ≤ 32 := by omega
  clear hp hz hw g0 g1 g2 g4 g5 g6 g7 g8 b0 b1
  rcases g3 with rfl | rfl
  · have KS := Lib.hid (show ∀ w0 w' : World, Fr no w0 w' → w0.cell? ⟨w.heap.size, 0, none⟩ = some (.slice a0 l0 k0) → w0.cell? ⟨w.heap.size, 1, none⟩ = some (.slice a1 l1 k1) → w0.cell? ⟨w.heap.size, 2, none⟩ = some (.slice a2 l2 k2) → w0.cell? ⟨w.heap.size, 3, none⟩ = some (.int .i64 2) → w0.cell? ⟨w.heap.size, 4, none⟩ = some (.int .i64 o) → w0.cell? ⟨w.heap.size, 5, none⟩ = some (.int .i64 t) → (w'.cell? ⟨w.heap.size, 0, none⟩ = some (.slice a0 l0 k0) ∧ w'.cell? ⟨w.heap.size, 1, none⟩ = some (.slice a1 l1 k1) ∧ w'.cell? ⟨w.heap.size, 2, none⟩ = some (.slice a2 l2 k2) ∧ w'.cell? ⟨w.heap.size, 3, none⟩ = some (.int .i64 2) ∧ w'.cell? ⟨w.heap.size, 4, none⟩ = some (.int .i64 o) ∧ w'.cell? ⟨w.heap.size, 5, none⟩ = some (.int .i64 t)) from fun _ _ h a0 a1 a2 a3 a4 a5 => ⟨h.keepc a0, h.keepc a1, h.keepc a2, h.keepc a3, h.keepc a4, h.keepc a5⟩)
    obtain ⟨W, hW⟩ : ∃ W, W = (w.alloc (.cells #[.slice a0 l0 k0, .slice a1 l1 k1, .slice a2 l2 k2, .int .i64 2, .int .i64 o, .int .i64 t] 26 (0, 0))) := ⟨_, rfl⟩
    have HF := Lib.hid (show Fr no w W by rw [hW]; exact (Fr.refl no w).alloc _)
    have c0 : W.cell? ⟨w.heap.size, 0, none⟩ = some (.slice a0 l0 k0) := by rw [hW]; go_simp
    have c1 : W.cell? ⟨w.heap.size, 1, none⟩ = some (.slice a1 l1 k1) := by rw [hW]; go_simp
    have c2 : W.cell? ⟨w.heap.size, 2, none⟩ = some (.slice a2 l2 k2) := by rw [hW]; go_simp
    have c3 : W.cell? ⟨w.heap.size, 3, none⟩ = some (.int .i64 2) := by rw [hW]; go_simp
    have c4 : W.cell? ⟨w.heap.size, 4, none⟩ = some (.int .i64 o) := by rw [hW]; go_simp
    have c5 : W.cell? ⟨w.heap.size, 5, none⟩ = some (.int .i64 t) := by rw [hW]; go_simp
    have HW := Lib.hid hW
    clear hW
    go_enter Try.func20, Try.ntmps20
    go_wp2_with fail
    rw [← HW.out]
    refine (K0.out _).mono ?_
    rintro e w' ⟨rfl, rfl⟩
    go_wp2_with fail
    refine (K4.out _).mono ?_
    rintro e w' ⟨rfl, rfl⟩
    go_wp2_with fail
    refine (K5.out _).mono ?_
    rintro e w' ⟨rfl, rfl⟩
    go_wp2_with fail
    refine (K6.out _ HF.out).mono ?_
    rintro e y1 ⟨rfl, f1⟩
    obtain ⟨d1_0, d1_1, d1_2, d1_3, d1_4, d1_5⟩ := KS.out _ _ f1 c0 c1 c2 c3 c4 c5
    have HF1 := Lib.hid (HF.out.noTrans f1)
    clear f1 c0 c1 c2 c3 c4 c5
    go_wp2_with fail
    refine (K7.out _ HF1.out).mono ?_
    rintro e y2 ⟨rfl, f2⟩
    obtain ⟨d2_0, d2_1, d2_2, d2_3, d2_4, d2_5⟩ := KS.out _ _ f2 d1_0 d1_1 d1_2 d1_3 d1_4 d1_5
    have HF2 := Lib.hid (HF1.out.noTrans f2)
    clear f2 d1_0 d1_1 d1_2 d1_3 d1_4 d1_5
    go_wp2_with fail
    refine (K8.out _ HF2.out).mono ?_
    rintro e y3 ⟨rfl, f3⟩
    obtain ⟨d3_0, d3_1, d3_2, d3_3, d3_4, d3_5⟩ := KS.out _ _ f3 d2_0 d2_1 d2_2 d2_3 d2_4 d2_5
    have HF3 := Lib.hid (HF2.out.noTrans f3)
    clear f3 d2_0 d2_1 d2_2 d2_3 d2_4 d2_5
    go_wp2_with fail
    go_ret
    exact ⟨rfl, HF3.out⟩
  · have KS := Lib.hid (show ∀ w0 w' : World, Fr no w0 w' → w0.cell? ⟨w.heap.size, 0, none⟩ = some (.slice a0 l0 k0) → w0.cell? ⟨w.heap.size, 1, none⟩ = some (.slice a1 l1 k1) → w0.cell? ⟨w.heap.size, 2, none⟩ = some (.slice a2 l2 k2) → w0.cell? ⟨w.heap.size, 3, none⟩ = some (.int .i64 4) → w0.cell? ⟨w.heap.size, 4, none⟩ = some (.int .i64 o) → w0.cell? ⟨w.heap.size, 5, none⟩ = some (.int .i64 t) → (w'.cell? ⟨w.heap.size, 0, none⟩ = some (.slice a0 l0 k0) ∧ w'.cell? ⟨w.heap.size, 1, none⟩ = some (.slice a1 l1 k1) ∧ w'.cell? ⟨w.heap.size, 2, none⟩ = some (.slice a2 l2 k2) ∧ w'.cell? ⟨w.heap.size, 3, none⟩ = some (.int .i64 4) ∧ w'.cell? ⟨w.heap.size, 4, none⟩ = some (.int .i64 o) ∧ w'.cell? ⟨w.heap.size, 5, none⟩ = some (.int .i64 t)) from fun _ _ h a0 a1 a2 a3 a4 a5 => ⟨h.keepc a0, h.keepc a1, h.keepc a2, h.keepc a3, h.keepc a4, h.keepc a5⟩)
    obtain ⟨W, hW⟩ : ∃ W, W = (w.alloc (.cells #[.slice a0 l0 k0, .slice a1 l1 k1, .slice a2 l2 k2, .int .i64 4, .int .i64 o, .int .i64 t] 26 (0, 0))) := ⟨_, rfl⟩
    have HF := Lib.hid (show Fr no w W by rw [hW]; exact (Fr.refl no w).alloc _)
    have c0 : W.cell? ⟨w.heap.size, 0, none⟩ = some (.slice a0 l0 k0) := by rw [hW]; go_simp
    have c1 : W.cell? ⟨w.heap.size, 1, none⟩ = some (.slice a1 l1 k1) := by rw [hW]; go_simp
    have c2 : W.cell? ⟨w.heap.size, 2, none⟩ = some (.slice a2 l2 k2) := by rw [hW]; go_simp
    have c3 : W.cell? ⟨w.heap.size, 3, none⟩ = some (.int .i64 4) := by rw [hW]; go_simp
    have c4 : W.cell? ⟨w.heap.size, 4, none⟩ = some (.int .i64 o) := by rw [hW]; go_simp
    have c5 : W.cell? ⟨w.heap.size, 5, none⟩ = some (.int .i64 t) := by rw [hW]; go_simp
    have HW := Lib.hid hW
    clear hW
    go_enter Try.func20, Try.ntmps20
    go_wp2_with fail
    rw [← HW.out]
    refine (K0.out _).mono ?_
    rintro e w' ⟨rfl, rfl⟩
    go_wp2_with fail
    refine (K4.out _).mono ?_
    rintro e w' ⟨rfl, rfl⟩
    go_wp2_with fail
    refine (K5.out _).mono ?_
    rintro e w' ⟨rfl, rfl⟩
    go_wp2_with fail
    refine (K6.out _ HF.out).mono ?_
    rintro e y1 ⟨rfl, f1⟩
    obtain ⟨d1_0, d1_1, d1_2, d1_3, d1_4, d1_5⟩ := KS.out _ _ f1 c0 c1 c2 c3 c4 c5
    have HF1 := Lib.hid (HF.out.noTrans f1)
    clear f1 c0 c1 c2 c3 c4 c5
    go_wp2_with fail
    refine (K7.out _ HF1.out).mono ?_
    rintro e y2 ⟨rfl, f2⟩
    obtain ⟨d2_0, d2_1, d2_2, d2_3, d2_4, d2_5⟩ := KS.out _ _ f2 d1_0 d1_1 d1_2 d1_3 d1_4 d1_5
    have HF2 := Lib.hid (HF1.out.noTrans f2)
    clear f2 d1_0 d1_1 d1_2 d1_3 d1_4 d1_5
    go_wp2_with fail
    refine (K8.out _ HF2.out).mono ?_
    rintro e y3 ⟨rfl, f3⟩
    obtain ⟨d3_0, d3_1, d3_2, d3_3, d3_4, d3_5⟩ := KS.out _ _ f3 d2_0 d2_1 d2_2 d2_3 d2_4 d2_5
    have HF3 := Lib.hid (HF2.out.noTrans f3)
    clear f3 d2_0 d2_1 d2_2 d2_3 d2_4 d2_5
    go_wp2_with fail
    go_ret
    exact ⟨rfl, HF3.out⟩
set_option maxHeartbeats 4000000 in
theorem check_9 (a0 : Option Addr) (l0 k0 : Nat) (a1 : Option Addr) (l1 k1 : Nat) (a2 : Option Addr) (l2 k2 : Nat) (e o t : Int) (ps : List Pt) (zs : List Int) (ws : List Wl) (w : World) (hp : PtsIn w a0 l0 ps) (hz : IntsIn w a1 l1 zs) (hw : WlsIn w a2 l2 ws) (g0 : inR l0 2 32 = true) (g1 : l1 = l0) (g2 : l2 ≤ 32) (g3 : (e = 2 ∨ e = 4)) (g4 : inR t 1000 100000 = true) (g5 : inR o 1 68719476736 = true) (g6 : ps.all ptOk = true) (g7 : zs.all isP = true) (g8 : ws.all wlOk = true) :
    Calls Try.prog 20 #[.agg #[.slice a0 l0 k0, .slice a1 l1 k1, .slice a2 l2 k2, .int .i64 e, .int .i64 o, .int .i64 t]] w fun e w' => e = .returned (.int .i64 0) ∧ Fr no w w' := by
  have b0 : l0 ≤ 32 := by have := (inR_t.1 g0).2; omega
  have K0 := Lib.hid (fun w => within_any (l0 : Int) 2 32 w)
  rw [g0] at K0
  have K4 := Lib.hid (fun w => within_any t 1000 100000 w)
  rw [g4] at K4
  have K5 := Lib.hid (fun w => within_any o 1 68719476736 w)
  rw [g5] at K5
  have K6 := Lib.hid (fun (w' : World) (h : Fr no w w') => allPts_any a0 l0 k0 ps w' (hp.kept h) (by omega))
  rw [g6] at K6
  have K7 := Lib.hid (fun (w' : World) (h : Fr no w w') => allInts_any a1 l1 k1 zs w' (hz.kept h) (by omega))
  rw [g7] at K7
  have K8 := Lib.hid (fun (w' : World) (h : Fr no w w') => allWls_any a2 l2 k2 ws w' (hw.kept h) (by omega))
  rw [g8] at K8
  have q1 : ((l1 : Int) == (l0 : Int)) = true := by rw [beq_iff_eq]; omega
  have q1n : ((l1 : Int) != (l0 : Int)) = false := by simp; omega
  have b1 : l1 ≤ 32 := by omega
  have q2 : (l2 : Int) ≤ 32 := by omega
  clear hp hz hw g0 g1 g2 g4 g5 g6 g7 g8 b0 b1
  rcases g3 with rfl | rfl
  · have KS := Lib.hid (show ∀ w0 w' : World, Fr no w0 w' → w0.cell? ⟨w.heap.size, 0, none⟩ = some (.slice a0 l0 k0) → w0.cell? ⟨w.heap.size, 1, none⟩ = some (.slice a1 l1 k1) → w0.cell? ⟨w.heap.size, 2, none⟩ = some (.slice a2 l2 k2) → w0.cell? ⟨w.heap.size, 3, none⟩ = some (.int .i64 2) → w0.cell? ⟨w.heap.size, 4, none⟩ = some (.int .i64 o) → w0.cell? ⟨w.heap.size, 5, none⟩ = some (.int .i64 t) → (w'.cell? ⟨w.heap.size, 0, none⟩ = some (.slice a0 l0 k0) ∧ w'.cell? ⟨w.heap.size, 1, none⟩ = some (.slice a1 l1 k1) ∧ w'.cell? ⟨w.heap.size, 2, none⟩ = some (.slice a2 l2 k2) ∧ w'.cell? ⟨w.heap.size, 3, none⟩ = some (.int .i64 2) ∧ w'.cell? ⟨w.heap.size, 4, none⟩ = some (.int .i64 o) ∧ w'.cell? ⟨w.heap.size, 5, none⟩ = some (.int .i64 t)) from fun _ _ h a0 a1 a2 a3 a4 a5 => ⟨h.keepc a0, h.keepc a1, h.keepc a2, h.keepc a3, h.keepc a4, h.keepc a5⟩)
    obtain ⟨W, hW⟩ : ∃ W, W = (w.alloc (.cells #[.slice a0 l0 k0, .slice a1 l1 k1, .slice a2 l2 k2, .int .i64 2, .int .i64 o, .int .i64 t] 26 (0, 0))) := ⟨_, rfl⟩
    have HF := Lib.hid (show Fr no w W by rw [hW]; exact (Fr.refl no w).alloc _)
    have c0 : W.cell? ⟨w.heap.size, 0, none⟩ = some (.slice a0 l0 k0) := by rw [hW]; go_simp
    have c1 : W.cell? ⟨w.heap.size, 1, none⟩ = some (.slice a1 l1 k1) := by rw [hW]; go_simp
    have c2 : W.cell? ⟨w.heap.size, 2, none⟩ = some (.slice a2 l2 k2) := by rw [hW]; go_simp
    have c3 : W.cell? ⟨w.heap.size, 3, none⟩ = some (.int .i64 2) := by rw [hW]; go_simp
    have c4 : W.cell? ⟨w.heap.size, 4, none⟩ = some (.int .i64 o) := by rw [hW]; go_simp
    have c5 : W.cell? ⟨w.heap.size, 5, none⟩ = some (.int .i64 t) := by rw [hW]; go_simp
    have HW := Lib.hid hW
    clear hW
    go_enter Try.func20, Try.ntmps20
    go_wp2_with fail
    rw [← HW.out]
    refine (K0.out _).mono ?_
    rintro e w' ⟨rfl, rfl⟩
    go_wp2_with fail
    refine (K4.out _).mono ?_
    rintro e w' ⟨rfl, rfl⟩
    go_wp2_with fail
    refine (K5.out _).mono ?_
    rintro e w' ⟨rfl, rfl⟩
    go_wp2_with fail
    refine (K6.out _ HF.out).mono ?_
    rintro e y1 ⟨rfl, f1⟩
    obtain ⟨d1_0, d1_1, d1_2, d1_3, d1_4, d1_5⟩ := KS.out _ _ f1 c0 c1 c2 c3 c4 c5
    have HF1 := Lib.hid (HF.out.noTrans f1)
    clear f1 c0 c1 c2 c3 c4 c5
    go_wp2_with fail
    refine (K7.out _ HF1.out).mono ?_
    rintro e y2 ⟨rfl, f2⟩
    obtain ⟨d2_0, d2_1, d2_2, d2_3, d2_4, d2_5⟩ := KS.out _ _ f2 d1_0 d1_1 d1_2 d1_3 d1_4 d1_5
    have HF2 := Lib.hid (HF1.out.noTrans f2)
    clear f2 d1_0 d1_1 d1_2 d1_3 d1_4 d1_5
    go_wp2_with fail
    refine (K8.out _ HF2.out).mono ?_
    rintro e y3 ⟨rfl, f3⟩
    obtain ⟨d3_0, d3_1, d3_2, d3_3, d3_4, d3_5⟩ := KS.out _ _ f3 d2_0 d2_1 d2_2 d2_3 d2_4 d2_5
    have HF3 := Lib.hid (HF2.out.noTrans f3)
    clear f3 d2_0 d2_1 d2_2 d2_3 d2_4 d2_5
    go_wp2_with fail
    go_ret
    exact ⟨rfl, HF3.out⟩
  · have KS := Lib.hid (show ∀ w0 w' : World, Fr no w0 w' → w0.cell? ⟨w.heap.size, 0, none⟩ = some (.slice a0 l0 k0) → w0.cell? ⟨w.heap.size, 1, none⟩ = some (.slice a1 l1 k1) → w0.cell? ⟨w.heap.size, 2, none⟩ = some (.slice a2 l2 k2) → w0.cell? ⟨w.heap.size, 3, none⟩ = some (.int .i64 4) → w0.cell? ⟨w.heap.size, 4, none⟩ = some (.int .i64 o) → w0.cell? ⟨w.heap.size, 5, none⟩ = some (.int .i64 t) → (w'.cell? ⟨w.heap.size, 0, none⟩ = some (.slice a0 l0 k0) ∧ w'.cell? ⟨w.heap.size, 1, none⟩ = some (.slice a1 l1 k1) ∧ w'.cell? ⟨w.heap.size, 2, none⟩ = some (.slice a2 l2 k2) ∧ w'.cell? ⟨w.heap.size, 3, none⟩ = some (.int .i64 4) ∧ w'.cell? ⟨w.heap.size, 4, none⟩ = some (.int .i64 o) ∧ w'.cell? ⟨w.heap.size, 5, none⟩ = some (.int .i64 t)) from fun _ _ h a0 a1 a2 a3 a4 a5 => ⟨h.keepc a0, h.keepc a1, h.keepc a2, h.keepc a3, h.keepc a4, h.keepc a5⟩)
    obtain ⟨W, hW⟩ : ∃ W, W = (w.alloc (.cells #[.slice a0 l0 k0, .slice a1 l1 k1, .slice a2 l2 k2, .int .i64 4, .int .i64 o, .int .i64 t] 26 (0, 0))) := ⟨_, rfl⟩
    have HF := Lib.hid (show Fr no w W by rw [hW]; exact (Fr.refl no w).alloc _)
    have c0 : W.cell? ⟨w.heap.size, 0, none⟩ = some (.slice a0 l0 k0) := by rw [hW]; go_simp
    have c1 : W.cell? ⟨w.heap.size, 1, none⟩ = some (.slice a1 l1 k1) := by rw [hW]; go_simp
    have c2 : W.cell? ⟨w.heap.size, 2, none⟩ = some (.slice a2 l2 k2) := by rw [hW]; go_simp
    have c3 : W.cell? ⟨w.heap.size, 3, none⟩ = some (.int .i64 4) := by rw [hW]; go_simp
    have c4 : W.cell? ⟨w.heap.size, 4, none⟩ = some (.int .i64 o) := by rw [hW]; go_simp
    have c5 : W.cell? ⟨w.heap.size, 5, none⟩ = some (.int .i64 t) := by rw [hW]; go_simp
    have HW := Lib.hid hW
    clear hW
    go_enter Try.func20, Try.ntmps20
    go_wp2_with fail
    rw [← HW.out]
    refine (K0.out _).mono ?_
    rintro e w' ⟨rfl, rfl⟩
    go_wp2_with fail
    refine (K4.out _).mono ?_
    rintro e w' ⟨rfl, rfl⟩
    go_wp2_with fail
    refine (K5.out _).mono ?_
    rintro e w' ⟨rfl, rfl⟩
    go_wp2_with fail
    refine (K6.out _ HF.out).mono ?_
    rintro e y1 ⟨rfl, f1⟩
    obtain ⟨d1_0, d1_1, d1_2, d1_3, d1_4, d1_5⟩ := KS.out _ _ f1 c0 c1 c2 c3 c4 c5
    have HF1 := Lib.hid (HF.out.noTrans f1)
    clear f1 c0 c1 c2 c3 c4 c5
    go_wp2_with fail
    refine (K7.out _ HF1.out).mono ?_
    rintro e y2 ⟨rfl, f2⟩
    obtain ⟨d2_0, d2_1, d2_2, d2_3, d2_4, d2_5⟩ := KS.out _ _ f2 d1_0 d1_1 d1_2 d1_3 d1_4 d1_5
    have HF2 := Lib.hid (HF1.out.noTrans f2)
    clear f2 d1_0 d1_1 d1_2 d1_3 d1_4 d1_5
    go_wp2_with fail
    refine (K8.out _ HF2.out).mono ?_
    rintro e y3 ⟨rfl, f3⟩
    obtain ⟨d3_0, d3_1, d3_2, d3_3, d3_4, d3_5⟩ := KS.out _ _ f3 d2_0 d2_1 d2_2 d2_3 d2_4 d2_5
    have HF3 := Lib.hid (HF2.out.noTrans f3)
    clear f3 d2_0 d2_1 d2_2 d2_3 d2_4 d2_5
    go_wp2_with fail
    go_ret
    exact ⟨rfl, HF3.out⟩
theorem check_any (a0 : Option Addr) (l0 k0 : Nat) (a1 : Option Addr) (l1 k1 : Nat) (a2 : Option Addr) (l2 k2 : Nat) (e o t : Int) (ps : List Pt) (zs : List Int) (ws : List Wl) (w : World) (hp : PtsIn w a0 l0 ps) (hz : IntsIn w a1 l1 zs) (hw : WlsIn w a2 l2 ws) :
    Calls Try.prog 20 #[.agg #[.slice a0 l0 k0, .slice a1 l1 k1, .slice a2 l2 k2, .int .i64 e, .int .i64 o, .int .i64 t]] w fun e' w' => e' = .returned (.int .i64 (ckE (ckB l0 l1 l2 e o t ps zs ws))) ∧ Fr no w w' := by
  cases g0 : inR l0 2 32
  · rw [show ckB l0 l1 l2 e o t ps zs ws = false by simp [ckB, g0]]; exact check_0 a0 l0 k0 a1 l1 k1 a2 l2 k2 e o t ps zs ws w hp hz hw g0
  by_cases g1 : l1 = l0
  case neg => rw [show ckB l0 l1 l2 e o t ps zs ws = false by simp [ckB, g0, g1]]; exact check_1 a0 l0 k0 a1 l1 k1 a2 l2 k2 e o t ps zs ws w hp hz hw g0 g1
  by_cases g2 : l2 ≤ 32
  case neg => rw [show ckB l0 l1 l2 e o t ps zs ws = false by simp [ckB, g0, g1, g2]]; exact check_2 a0 l0 k0 a1 l1 k1 a2 l2 k2 e o t ps zs ws w hp hz hw g0 g1 g2
  by_cases g3 : (e = 2 ∨ e = 4)
  case neg => rw [show ckB l0 l1 l2 e o t ps zs ws = false by simp [ckB, g0, g1, g2, g3]]; exact check_3 a0 l0 k0 a1 l1 k1 a2 l2 k2 e o t ps zs ws w hp hz hw g0 g1 g2 g3
  cases g4 : inR t 1000 100000
  · rw [show ckB l0 l1 l2 e o t ps zs ws = false by simp [ckB, g0, g1, g2, g3, g4]]; exact check_4 a0 l0 k0 a1 l1 k1 a2 l2 k2 e o t ps zs ws w hp hz hw g0 g1 g2 g3 g4
  cases g5 : inR o 1 68719476736
  · rw [show ckB l0 l1 l2 e o t ps zs ws = false by simp [ckB, MX, g0, g1, g2, g3, g4, g5]]; exact check_5 a0 l0 k0 a1 l1 k1 a2 l2 k2 e o t ps zs ws w hp hz hw g0 g1 g2 g3 g4 g5
  cases g6 : ps.all ptOk
  · rw [show ckB l0 l1 l2 e o t ps zs ws = false by simp [ckB, MX, g0, g1, g2, g3, g4, g5, g6]]; exact check_6 a0 l0 k0 a1 l1 k1 a2 l2 k2 e o t ps zs ws w hp hz hw g0 g1 g2 g3 g4 g5 g6
  cases g7 : zs.all isP
  · rw [show ckB l0 l1 l2 e o t ps zs ws = false by simp [ckB, MX, g0, g1, g2, g3, g4, g5, g6, g7]]; exact check_7 a0 l0 k0 a1 l1 k1 a2 l2 k2 e o t ps zs ws w hp hz hw g0 g1 g2 g3 g4 g5 g6 g7
  cases g8 : ws.all wlOk
  · rw [show ckB l0 l1 l2 e o t ps zs ws = false by simp [ckB, MX, g0, g1, g2, g3, g4, g5, g6, g7, g8]]; exact check_8 a0 l0 k0 a1 l1 k1 a2 l2 k2 e o t ps zs ws w hp hz hw g0 g1 g2 g3 g4 g5 g6 g7 g8
  rw [show ckB l0 l1 l2 e o t ps zs ws = true by simp [ckB, MX, g0, g1, g2, g3, g4, g5, g6, g7, g8]]; exact check_9 a0 l0 k0 a1 l1 k1 a2 l2 k2 e o t ps zs ws w hp hz hw g0 g1 g2 g3 g4 g5 g6 g7 g8
end Go.Proofs.Ytdenlinehjigaaa
