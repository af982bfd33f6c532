/- The document's own check of a site. -/
import Derived.Test.YtdenlinehjigaaaChk
namespace Go.Proofs.Ytdenlinehjigaaa
open Go.RowKit
set_option linter.unusedVariables false

set_option maxHeartbeats 4000000 in
theorem checkR_0a (a0 : Option Addr) (l0 k0 : Nat) (a1 : Option Addr) (l1 k1 : Nat) (a2 : Option Addr) (l2 k2 : Nat) (e o t : Int) (ps : List Pt) (zs : List Int) (ws : List Wl) (w : World) (hp : PtsIn w a0 l0 ps) (hz : IntsIn w a1 l1 zs) (hw : WlsIn w a2 l2 ws) (g0 : l0 < 2) :
    Calls Try.prog 111 #[.agg #[.slice a0 l0 k0, .slice a1 l1 k1, .slice a2 l2 k2, .int .i64 e, .int .i64 o, .int .i64 t]] w fun e w' => e = .returned (.int .i64 1) ∧ Fr no w w' := by
  have r0 : (l0 : Int) < 2 := by omega
  clear hp hz hw g0
  have KS := Lib.hid (show ∀ w0 w' : World, Fr no w0 w' → w0.cell? ⟨w.heap.size, 0, none⟩ = some (.slice a0 l0 k0) → w0.cell? ⟨w.heap.size, 1, none⟩ = some (.slice a1 l1 k1) → w0.cell? ⟨w.heap.size, 2, none⟩ = some (.slice a2 l2 k2) → w0.cell? ⟨w.heap.size, 3, none⟩ = some (.int .i64 e) → w0.cell? ⟨w.heap.size, 4, none⟩ = some (.int .i64 o) → w0.cell? ⟨w.heap.size, 5, none⟩ = some (.int .i64 t) → (w'.cell? ⟨w.heap.size, 0, none⟩ = some (.slice a0 l0 k0) ∧ w'.cell? ⟨w.heap.size, 1, none⟩ = some (.slice a1 l1 k1) ∧ w'.cell? ⟨w.heap.size, 2, none⟩ = some (.slice a2 l2 k2) ∧ w'.cell? ⟨w.heap.size, 3, none⟩ = some (.int .i64 e) ∧ w'.cell? ⟨w.heap.size, 4, none⟩ = some (.int .i64 o) ∧ w'.cell? ⟨w.heap.size, 5, none⟩ = some (.int .i64 t)) from fun _ _ h a0 a1 a2 a3 a4 a5 => ⟨h.keepc a0, h.keepc a1, h.keepc a2, h.keepc a3, h.keepc a4, h.keepc a5⟩)
  obtain ⟨W, hW⟩ : ∃ W, W = (w.alloc (.cells #[.slice a0 l0 k0, .slice a1 l1 k1, .slice a2 l2 k2, .int .i64 e, .int .i64 o, .int .i64 t] 26 (0, 0))) := ⟨_, rfl⟩
  have HF := Lib.hid (show Fr no w W by rw [hW]; exact (Fr.refl no w).alloc _)
  have c0 : W.cell? ⟨w.heap.size, 0, none⟩ = some (.slice a0 l0 k0) := by rw [hW]; go_simp
  have c1 : W.cell? ⟨w.heap.size, 1, none⟩ = some (.slice a1 l1 k1) := by rw [hW]; go_simp
  have c2 : W.cell? ⟨w.heap.size, 2, none⟩ = some (.slice a2 l2 k2) := by rw [hW]; go_simp
  have c3 : W.cell? ⟨w.heap.size, 3, none⟩ = some (.int .i64 e) := by rw [hW]; go_simp
  have c4 : W.cell? ⟨w.heap.size, 4, none⟩ = some (.int .i64 o) := by rw [hW]; go_simp
  have c5 : W.cell? ⟨w.heap.size, 5, none⟩ = some (.int .i64 t) := by rw [hW]; go_simp
  have HW := Lib.hid hW
  clear hW
  go_enter Try.func111, Try.ntmps111
  go_wp2_with fail
  rw [← HW.out]
  go_ret
  exact ⟨rfl, HF.out⟩
set_option maxHeartbeats 4000000 in
theorem checkR_0b (a0 : Option Addr) (l0 k0 : Nat) (a1 : Option Addr) (l1 k1 : Nat) (a2 : Option Addr) (l2 k2 : Nat) (e o t : Int) (ps : List Pt) (zs : List Int) (ws : List Wl) (w : World) (hp : PtsIn w a0 l0 ps) (hz : IntsIn w a1 l1 zs) (hw : WlsIn w a2 l2 ws) (g0 : 32 < l0) :
    Calls Try.prog 111 #[.agg #[.slice a0 l0 k0, .slice a1 l1 k1, .slice a2 l2 k2, .int .i64 e, .int .i64 o, .int .i64 t]] w fun e w' => e = .returned (.int .i64 1) ∧ Fr no w w' := by
  have r0 : (32 : Int) < (l0 : Int) := by omega
  have r1 : (2 : Int) ≤ (l0 : Int) := by omega
  clear hp hz hw g0
  have KS := Lib.hid (show ∀ w0 w' : World, Fr no w0 w' → w0.cell? ⟨w.heap.size, 0, none⟩ = some (.slice a0 l0 k0) → w0.cell? ⟨w.heap.size, 1, none⟩ = some (.slice a1 l1 k1) → w0.cell? ⟨w.heap.size, 2, none⟩ = some (.slice a2 l2 k2) → w0.cell? ⟨w.heap.size, 3, none⟩ = some (.int .i64 e) → w0.cell? ⟨w.heap.size, 4, none⟩ = some (.int .i64 o) → w0.cell? ⟨w.heap.size, 5, none⟩ = some (.int .i64 t) → (w'.cell? ⟨w.heap.size, 0, none⟩ = some (.slice a0 l0 k0) ∧ w'.cell? ⟨w.heap.size, 1, none⟩ = some (.slice a1 l1 k1) ∧ w'.cell? ⟨w.heap.size, 2, none⟩ = some (.slice a2 l2 k2) ∧ w'.cell? ⟨w.heap.size, 3, none⟩ = some (.int .i64 e) ∧ w'.cell? ⟨w.heap.size, 4, none⟩ = some (.int .i64 o) ∧ w'.cell? ⟨w.heap.size, 5, none⟩ = some (.int .i64 t)) from fun _ _ h a0 a1 a2 a3 a4 a5 => ⟨h.keepc a0, h.keepc a1, h.keepc a2, h.keepc a3, h.keepc a4, h.keepc a5⟩)
  obtain ⟨W, hW⟩ : ∃ W, W = (w.alloc (.cells #[.slice a0 l0 k0, .slice a1 l1 k1, .slice a2 l2 k2, .int .i64 e, .int .i64 o, .int .i64 t] 26 (0, 0))) := ⟨_, rfl⟩
  have HF := Lib.hid (show Fr no w W by rw [hW]; exact (Fr.refl no w).alloc _)
  have c0 : W.cell? ⟨w.heap.size, 0, none⟩ = some (.slice a0 l0 k0) := by rw [hW]; go_simp
  have c1 : W.cell? ⟨w.heap.size, 1, none⟩ = some (.slice a1 l1 k1) := by rw [hW]; go_simp
  have c2 : W.cell? ⟨w.heap.size, 2, none⟩ = some (.slice a2 l2 k2) := by rw [hW]; go_simp
  have c3 : W.cell? ⟨w.heap.size, 3, none⟩ = some (.int .i64 e) := by rw [hW]; go_simp
  have c4 : W.cell? ⟨w.heap.size, 4, none⟩ = some (.int .i64 o) := by rw [hW]; go_simp
  have c5 : W.cell? ⟨w.heap.size, 5, none⟩ = some (.int .i64 t) := by rw [hW]; go_simp
  have HW := Lib.hid hW
  clear hW
  go_enter Try.func111, Try.ntmps111
  go_wp2_with fail
  rw [← HW.out]
  go_ret
  exact ⟨rfl, HF.out⟩
set_option maxHeartbeats 4000000 in
theorem checkR_1 (a0 : Option Addr) (l0 k0 : Nat) (a1 : Option Addr) (l1 k1 : Nat) (a2 : Option Addr) (l2 k2 : Nat) (e o t : Int) (ps : List Pt) (zs : List Int) (ws : List Wl) (w : World) (hp : PtsIn w a0 l0 ps) (hz : IntsIn w a1 l1 zs) (hw : WlsIn w a2 l2 ws) (g0 : inR l0 2 32 = true) (g1 : ¬ l1 = l0) :
    Calls Try.prog 111 #[.agg #[.slice a0 l0 k0, .slice a1 l1 k1, .slice a2 l2 k2, .int .i64 e, .int .i64 o, .int .i64 t]] w fun e w' => e = .returned (.int .i64 1) ∧ Fr no w w' := by
  have r0 : (l0 : Int) ≤ 32 := (inR_t.1 g0).2
  have r1 : (2 : Int) ≤ (l0 : Int) := (inR_t.1 g0).1
  have q1 : ((l1 : Int) == (l0 : Int)) = false := by rw [beq_eq_false_iff_ne]; omega
  have q1n : ((l1 : Int) != (l0 : Int)) = true := by rw [bne_iff_ne]; omega
  clear hp hz hw g0 g1
  have KS := Lib.hid (show ∀ w0 w' : World, Fr no w0 w' → w0.cell? ⟨w.heap.size, 0, none⟩ = some (.slice a0 l0 k0) → w0.cell? ⟨w.heap.size, 1, none⟩ = some (.slice a1 l1 k1) → w0.cell? ⟨w.heap.size, 2, none⟩ = some (.slice a2 l2 k2) → w0.cell? ⟨w.heap.size, 3, none⟩ = some (.int .i64 e) → w0.cell? ⟨w.heap.size, 4, none⟩ = some (.int .i64 o) → w0.cell? ⟨w.heap.size, 5, none⟩ = some (.int .i64 t) → (w'.cell? ⟨w.heap.size, 0, none⟩ = some (.slice a0 l0 k0) ∧ w'.cell? ⟨w.heap.size, 1, none⟩ = some (.slice a1 l1 k1) ∧ w'.cell? ⟨w.heap.size, 2, none⟩ = some (.slice a2 l2 k2) ∧ w'.cell? ⟨w.heap.size, 3, none⟩ = some (.int .i64 e) ∧ w'.cell? ⟨w.heap.size, 4, none⟩ = some (.int .i64 o) ∧ w'.cell? ⟨w.heap.size, 5, none⟩ = some (.int .i64 t)) from fun _ _ h a0 a1 a2 a3 a4 a5 => ⟨h.keepc a0, h.keepc a1, h.keepc a2, h.keepc a3, h.keepc a4, h.keepc a5⟩)
  obtain ⟨W, hW⟩ : ∃ W, W = (w.alloc (.cells #[.slice a0 l0 k0, .slice a1 l1 k1, .slice a2 l2 k2, .int .i64 e, .int .i64 o, .int .i64 t] 26 (0, 0))) := ⟨_, rfl⟩
  have HF := Lib.hid (show Fr no w W by rw [hW]; exact (Fr.refl no w).alloc _)
  have c0 : W.cell? ⟨w.heap.size, 0, none⟩ = some (.slice a0 l0 k0) := by rw [hW]; go_simp
  have c1 : W.cell? ⟨w.heap.size, 1, none⟩ = some (.slice a1 l1 k1) := by rw [hW]; go_simp
  have c2 : W.cell? ⟨w.heap.size, 2, none⟩ = some (.slice a2 l2 k2) := by rw [hW]; go_simp
  have c3 : W.cell? ⟨w.heap.size, 3, none⟩ = some (.int .i64 e) := by rw [hW]; go_simp
  have c4 : W.cell? ⟨w.heap.size, 4, none⟩ = some (.int .i64 o) := by rw [hW]; go_simp
  have c5 : W.cell? ⟨w.heap.size, 5, none⟩ = some (.int .i64 t) := by rw [hW]; go_simp
  have HW := Lib.hid hW
  clear hW
  go_enter Try.func111, Try.ntmps111
  go_wp2_with fail
  rw [← HW.out]
  go_ret
  exact ⟨rfl, HF.out⟩
set_option maxHeartbeats 4000000 in
theorem checkR_2 (a0 : Option Addr) (l0 k0 : Nat) (a1 : Option Addr) (l1 k1 : Nat) (a2 : Option Addr) (l2 k2 : Nat) (e o t : Int) (ps : List Pt) (zs : List Int) (ws : List Wl) (w : World) (hp : PtsIn w a0 l0 ps) (hz : IntsIn w a1 l1 zs) (hw : WlsIn w a2 l2 ws) (g0 : inR l0 2 32 = true) (g1 : l1 = l0) (g2 : ¬ l2 ≤ 32) :
    Calls Try.prog 111 #[.agg #[.slice a0 l0 k0, .slice a1 l1 k1, .slice a2 l2 k2, .int .i64 e, .int .i64 o, .int .i64 t]] w fun e w' => e = .returned (.int .i64 1) ∧ Fr no w w' := by
  have r0 : (l0 : Int) ≤ 32 := (inR_t.1 g0).2
  have r1 : (2 : Int) ≤ (l0 : Int) := (inR_t.1 g0).1
  have q1 : ((l1 : Int) == (l0 : Int)) = true := by rw [beq_iff_eq]; omega
  have q1n : ((l1 : Int) != (l0 : Int)) = false := by simp; omega
  have q2 : 32 < (l2 : Int) := by omega
  clear hp hz hw g0 g1 g2
  have KS := Lib.hid (show ∀ w0 w' : World, Fr no w0 w' → w0.cell? ⟨w.heap.size, 0, none⟩ = some (.slice a0 l0 k0) → w0.cell? ⟨w.heap.size, 1, none⟩ = some (.slice a1 l1 k1) → w0.cell? ⟨w.heap.size, 2, none⟩ = some (.slice a2 l2 k2) → w0.cell? ⟨w.heap.size, 3, none⟩ = some (.int .i64 e) → w0.cell? ⟨w.heap.size, 4, none⟩ = some (.int .i64 o) → w0.cell? ⟨w.heap.size, 5, none⟩ = some (.int .i64 t) → (w'.cell? ⟨w.heap.size, 0, none⟩ = some (.slice a0 l0 k0) ∧ w'.cell? ⟨w.heap.size, 1, none⟩ = some (.slice a1 l1 k1) ∧ w'.cell? ⟨w.heap.size, 2, none⟩ = some (.slice a2 l2 k2) ∧ w'.cell? ⟨w.heap.size, 3, none⟩ = some (.int .i64 e) ∧ w'.cell? ⟨w.heap.size, 4, none⟩ = some (.int .i64 o) ∧ w'.cell? ⟨w.heap.size, 5, none⟩ = some (.int .i64 t)) from fun _ _ h a0 a1 a2 a3 a4 a5 => ⟨h.keepc a0, h.keepc a1, h.keepc a2, h.keepc a3, h.keepc a4, h.keepc a5⟩)
  obtain ⟨W, hW⟩ : ∃ W, W = (w.alloc (.cells #[.slice a0 l0 k0, .slice a1 l1 k1, .slice a2 l2 k2, .int .i64 e, .int .i64 o, .int .i64 t] 26 (0, 0))) := ⟨_, rfl⟩
  have HF := Lib.hid (show Fr no w W by rw [hW]; exact (Fr.refl no w).alloc _)
  have c0 : W.cell? ⟨w.heap.size, 0, none⟩ = some (.slice a0 l0 k0) := by rw [hW]; go_simp
  have c1 : W.cell? ⟨w.heap.size, 1, none⟩ = some (.slice a1 l1 k1) := by rw [hW]; go_simp
  have c2 : W.cell? ⟨w.heap.size, 2, none⟩ = some (.slice a2 l2 k2) := by rw [hW]; go_simp
  have c3 : W.cell? ⟨w.heap.size, 3, none⟩ = some (.int .i64 e) := by rw [hW]; go_simp
  have c4 : W.cell? ⟨w.heap.size, 4, none⟩ = some (.int .i64 o) := by rw [hW]; go_simp
  have c5 : W.cell? ⟨w.heap.size, 5, none⟩ = some (.int .i64 t) := by rw [hW]; go_simp
  have HW := Lib.hid hW
  clear hW
  go_enter Try.func111, Try.ntmps111
  go_wp2_with fail
  rw [← HW.out]
  go_ret
  exact ⟨rfl, HF.out⟩
set_option maxHeartbeats 4000000 in
theorem checkR_3 (a0 : Option Addr) (l0 k0 : Nat) (a1 : Option Addr) (l1 k1 : Nat) (a2 : Option Addr) (l2 k2 : Nat) (e o t : Int) (ps : List Pt) (zs : List Int) (ws : List Wl) (w : World) (hp : PtsIn w a0 l0 ps) (hz : IntsIn w a1 l1 zs) (hw : WlsIn w a2 l2 ws) (g0 : inR l0 2 32 = true) (g1 : l1 = l0) (g2 : l2 ≤ 32) (g3 : ¬ (e = 2 ∨ e = 4)) :
    Calls Try.prog 111 #[.agg #[.slice a0 l0 k0, .slice a1 l1 k1, .slice a2 l2 k2, .int .i64 e, .int .i64 o, .int .i64 t]] w fun e w' => e = .returned (.int .i64 1) ∧ Fr no w w' := by
  have r0 : (l0 : Int) ≤ 32 := (inR_t.1 g0).2
  have r1 : (2 : Int) ≤ (l0 : Int) := (inR_t.1 g0).1
  have q1 : ((l1 : Int) == (l0 : Int)) = true := by rw [beq_iff_eq]; omega
  have q1n : ((l1 : Int) != (l0 : Int)) = false := by simp; omega
  have q2 : (l2 : Int) ≤ 32 := by omega
  have q3 : (e == 2) = false := by rw [beq_eq_false_iff_ne]; omega
  have q4 : (e == 4) = false := by rw [beq_eq_false_iff_ne]; omega
  have q5 : (e != 2) = true := by rw [bne_iff_ne]; omega
  have q6 : (e != 4) = true := by rw [bne_iff_ne]; omega
  clear hp hz hw g0 g1 g2 g3
  have KS := Lib.hid (show ∀ w0 w' : World, Fr no w0 w' → w0.cell? ⟨w.heap.size, 0, none⟩ = some (.slice a0 l0 k0) → w0.cell? ⟨w.heap.size, 1, none⟩ = some (.slice a1 l1 k1) → w0.cell? ⟨w.heap.size, 2, none⟩ = some (.slice a2 l2 k2) → w0.cell? ⟨w.heap.size, 3, none⟩ = some (.int .i64 e) → w0.cell? ⟨w.heap.size, 4, none⟩ = some (.int .i64 o) → w0.cell? ⟨w.heap.size, 5, none⟩ = some (.int .i64 t) → (w'.cell? ⟨w.heap.size, 0, none⟩ = some (.slice a0 l0 k0) ∧ w'.cell? ⟨w.heap.size, 1, none⟩ = some (.slice a1 l1 k1) ∧ w'.cell? ⟨w.heap.size, 2, none⟩ = some (.slice a2 l2 k2) ∧ w'.cell? ⟨w.heap.size, 3, none⟩ = some (.int .i64 e) ∧ w'.cell? ⟨w.heap.size, 4, none⟩ = some (.int .i64 o) ∧ w'.cell? ⟨w.heap.size, 5, none⟩ = some (.int .i64 t)) from fun _ _ h a0 a1 a2 a3 a4 a5 => ⟨h.keepc a0, h.keepc a1, h.keepc a2, h.keepc a3, h.keepc a4, h.keepc a5⟩)
  obtain ⟨W, hW⟩ : ∃ W, W = (w.alloc (.cells #[.slice a0 l0 k0, .slice a1 l1 k1, .slice a2 l2 k2, .int .i64 e, .int .i64 o, .int .i64 t] 26 (0, 0))) := ⟨_, rfl⟩
  have HF := Lib.hid (show Fr no w W by rw [hW]; exact (Fr.refl no w).alloc _)
  have c0 : W.cell? ⟨w.heap.size, 0, none⟩ = some (.slice a0 l0 k0) := by rw [hW]; go_simp
  have c1 : W.cell? ⟨w.heap.size, 1, none⟩ = some (.slice a1 l1 k1) := by rw [hW]; go_simp
  have c2 : W.cell? ⟨w.heap.size, 2, none⟩ = some (.slice a2 l2 k2) := by rw [hW]; go_simp
  have c3 : W.cell? ⟨w.heap.size, 3, none⟩ = some (.int .i64 e) := by rw [hW]; go_simp
  have c4 : W.cell? ⟨w.heap.size, 4, none⟩ = some (.int .i64 o) := by rw [hW]; go_simp
  have c5 : W.cell? ⟨w.heap.size, 5, none⟩ = some (.int .i64 t) := by rw [hW]; go_simp
  have HW := Lib.hid hW
  clear hW
  go_enter Try.func111, Try.ntmps111
  go_wp2_with fail
  rw [← HW.out]
  go_ret
  exact ⟨rfl, HF.out⟩
set_option maxHeartbeats 4000000 in
theorem checkR_4 (a0 : Option Addr) (l0 k0 : Nat) (a1 : Option Addr) (l1 k1 : Nat) (a2 : Option Addr) (l2 k2 : Nat) (e o t : Int) (ps : List Pt) (zs : List Int) (ws : List Wl) (w : World) (hp : PtsIn w a0 l0 ps) (hz : IntsIn w a1 l1 zs) (hw : WlsIn w a2 l2 ws) (g0 : inR l0 2 32 = true) (g1 : l1 = l0) (g2 : l2 ≤ 32) (g3 : e = 2 ∨ e = 4) (g4 : isR t o = false) :
    Calls Try.prog 111 #[.agg #[.slice a0 l0 k0, .slice a1 l1 k1, .slice a2 l2 k2, .int .i64 e, .int .i64 o, .int .i64 t]] w fun e w' => e = .returned (.int .i64 1) ∧ Fr no w w' := by
  have r0 : (l0 : Int) ≤ 32 := (inR_t.1 g0).2
  have r1 : (2 : Int) ≤ (l0 : Int) := (inR_t.1 g0).1
  have q1 : ((l1 : Int) == (l0 : Int)) = true := by rw [beq_iff_eq]; omega
  have q1n : ((l1 : Int) != (l0 : Int)) = false := by simp; omega
  have q2 : (l2 : Int) ≤ 32 := by omega
  have K4 := Lib.hid (fun w => right_any t o w)
  rw [g4] at K4
  clear hp hz hw g0 g1 g2 g4
  rcases g3 with rfl | rfl
  · have KS := Lib.hid (show ∀ w0 w' : World, Fr no w0 w' → w0.cell? ⟨w.heap.size, 0, none⟩ = some (.slice a0 l0 k0) → w0.cell? ⟨w.heap.size, 1, none⟩ = some (.slice a1 l1 k1) → w0.cell? ⟨w.heap.size, 2, none⟩ = some (.slice a2 l2 k2) → w0.cell? ⟨w.heap.size, 3, none⟩ = some (.int .i64 2) → w0.cell? ⟨w.heap.size, 4, none⟩ = some (.int .i64 o) → w0.cell? ⟨w.heap.size, 5, none⟩ = some (.int .i64 t) → (w'.cell? ⟨w.heap.size, 0, none⟩ = some (.slice a0 l0 k0) ∧ w'.cell? ⟨w.heap.size, 1, none⟩ = some (.slice a1 l1 k1) ∧ w'.cell? ⟨w.heap.size, 2, none⟩ = some (.slice a2 l2 k2) ∧ w'.cell? ⟨w.heap.size, 3, none⟩ = some (.int .i64 2) ∧ w'.cell? ⟨w.heap.size, 4, none⟩ = some (.int .i64 o) ∧ w'.cell? ⟨w.heap.size, 5, none⟩ = some (.int .i64 t)) from fun _ _ h a0 a1 a2 a3 a4 a5 => ⟨h.keepc a0, h.keepc a1, h.keepc a2, h.keepc a3, h.keepc a4, h.keepc a5⟩)
    obtain ⟨W, hW⟩ : ∃ W, W = (w.alloc (.cells #[.slice a0 l0 k0, .slice a1 l1 k1, .slice a2 l2 k2, .int .i64 2, .int .i64 o, .int .i64 t] 26 (0, 0))) := ⟨_, rfl⟩
    have HF := Lib.hid (show Fr no w W by rw [hW]; exact (Fr.refl no w).alloc _)
    have c0 : W.cell? ⟨w.heap.size, 0, none⟩ = some (.slice a0 l0 k0) := by rw [hW]; go_simp
    have c1 : W.cell? ⟨w.heap.size, 1, none⟩ = some (.slice a1 l1 k1) := by rw [hW]; go_simp
    have c2 : W.cell? ⟨w.heap.size, 2, none⟩ = some (.slice a2 l2 k2) := by rw [hW]; go_simp
    have c3 : W.cell? ⟨w.heap.size, 3, none⟩ = some (.int .i64 2) := by rw [hW]; go_simp
    have c4 : W.cell? ⟨w.heap.size, 4, none⟩ = some (.int .i64 o) := by rw [hW]; go_simp
    have c5 : W.cell? ⟨w.heap.size, 5, none⟩ = some (.int .i64 t) := by rw [hW]; go_simp
    have HW := Lib.hid hW
    clear hW
    go_enter Try.func111, Try.ntmps111
    go_wp2_with fail
    rw [← HW.out]
    refine (K4.out _).mono ?_
    rintro e w' ⟨rfl, rfl⟩
    go_wp2_with fail
    go_ret
    exact ⟨rfl, HF.out⟩
  · have KS := Lib.hid (show ∀ w0 w' : World, Fr no w0 w' → w0.cell? ⟨w.heap.size, 0, none⟩ = some (.slice a0 l0 k0) → w0.cell? ⟨w.heap.size, 1, none⟩ = some (.slice a1 l1 k1) → w0.cell? ⟨w.heap.size, 2, none⟩ = some (.slice a2 l2 k2) → w0.cell? ⟨w.heap.size, 3, none⟩ = some (.int .i64 4) → w0.cell? ⟨w.heap.size, 4, none⟩ = some (.int .i64 o) → w0.cell? ⟨w.heap.size, 5, none⟩ = some (.int .i64 t) → (w'.cell? ⟨w.heap.size, 0, none⟩ = some (.slice a0 l0 k0) ∧ w'.cell? ⟨w.heap.size, 1, none⟩ = some (.slice a1 l1 k1) ∧ w'.cell? ⟨w.heap.size, 2, none⟩ = some (.slice a2 l2 k2) ∧ w'.cell? ⟨w.heap.size, 3, none⟩ = some (.int .i64 4) ∧ w'.cell? ⟨w.heap.size, 4, none⟩ = some (.int .i64 o) ∧ w'.cell? ⟨w.heap.size, 5, none⟩ = some (.int .i64 t)) from fun _ _ h a0 a1 a2 a3 a4 a5 => ⟨h.keepc a0, h.keepc a1, h.keepc a2, h.keepc a3, h.keepc a4, h.keepc a5⟩)
    obtain ⟨W, hW⟩ : ∃ W, W = (w.alloc (.cells #[.slice a0 l0 k0, .slice a1 l1 k1, .slice a2 l2 k2, .int .i64 4, .int .i64 o, .int .i64 t] 26 (0, 0))) := ⟨_, rfl⟩
    have HF := Lib.hid (show Fr no w W by rw [hW]; exact (Fr.refl no w).alloc _)
    have c0 : W.cell? ⟨w.heap.size, 0, none⟩ = some (.slice a0 l0 k0) := by rw [hW]; go_simp
    have c1 : W.cell? ⟨w.heap.size, 1, none⟩ = some (.slice a1 l1 k1) := by rw [hW]; go_simp
    have c2 : W.cell? ⟨w.heap.size, 2, none⟩ = some (.slice a2 l2 k2) := by rw [hW]; go_simp
    have c3 : W.cell? ⟨w.heap.size, 3, none⟩ = some (.int .i64 4) := by rw [hW]; go_simp
    have c4 : W.cell? ⟨w.heap.size, 4, none⟩ = some (.int .i64 o) := by rw [hW]; go_simp
    have c5 : W.cell? ⟨w.heap.size, 5, none⟩ = some (.int .i64 t) := by rw [hW]; go_simp
    have HW := Lib.hid hW
    clear hW
    go_enter Try.func111, Try.ntmps111
    go_wp2_with fail
    rw [← HW.out]
    refine (K4.out _).mono ?_
    rintro e w' ⟨rfl, rfl⟩
    go_wp2_with fail
    go_ret
    exact ⟨rfl, HF.out⟩
theorem five_cells {w : World} {B T : Nat} {a b c d e : Value} (h : w.heap[B]? = some (.cells #[a, b, c, d, e] T (0, 0))) :
    w.cell? ⟨B, 0, none⟩ = some a ∧ w.cell? ⟨B, 1, none⟩ = some b ∧ w.cell? ⟨B, 2, none⟩ = some c ∧ w.cell? ⟨B, 3, none⟩ = some d ∧ w.cell? ⟨B, 4, none⟩ = some e := by
  simp [World.cell?, h]
set_option maxHeartbeats 40000000 in
theorem checkR_loop2 (a0 : Option Addr) (l0 k0 : Nat) (a1 : Option Addr) (l1 k1 : Nat) (a2 : Option Addr) (l2 k2 : Nat) (o t : Int) (ps : List Pt) (zs : List Int) (ws : List Wl) (w : World) (hp : PtsIn w a0 l0 ps) (hz : IntsIn w a1 l1 zs) (hw : WlsIn w a2 l2 ws) (g0 : inR l0 2 32 = true) (g1 : l1 = l0) (g2 : l2 ≤ 32) (g4 : isR t o = true) :
    Calls Try.prog 111 #[.agg #[.slice a0 l0 k0, .slice a1 l1 k1, .slice a2 l2 k2, .int .i64 2, .int .i64 o, .int .i64 t]] w fun e w' => e = .returned (.int .i64 (ckE (ps.all ptOk && (zs.all isP && ws.all wlOk)))) ∧ Fr no w w' := by
  have r0 : (l0 : Int) ≤ 32 := (inR_t.1 g0).2
  have r1 : (2 : Int) ≤ (l0 : Int) := (inR_t.1 g0).1
  have q1 : ((l1 : Int) == (l0 : Int)) = true := by rw [beq_iff_eq]; omega
  have q1n : ((l1 : Int) != (l0 : Int)) = false := by simp; omega
  have q2 : (l2 : Int) ≤ 32 := by omega
  have K4 := Lib.hid (fun w => right_any t o w)
  rw [g4] at K4
  have HL := Lib.hid g1
  have HP := Lib.hid hp
  have HZ := Lib.hid hz
  have HWL := Lib.hid hw
  clear g0 g1 g2 g4 hp hz hw
  have KS := Lib.hid (show ∀ w0 w' : World, Fr no w0 w' → w0.cell? ⟨w.heap.size, 0, none⟩ = some (.slice a0 l0 k0) → w0.cell? ⟨w.heap.size, 1, none⟩ = some (.slice a1 l1 k1) → w0.cell? ⟨w.heap.size, 2, none⟩ = some (.slice a2 l2 k2) → w0.cell? ⟨w.heap.size, 3, none⟩ = some (.int .i64 2) → w0.cell? ⟨w.heap.size, 4, none⟩ = some (.int .i64 o) → w0.cell? ⟨w.heap.size, 5, none⟩ = some (.int .i64 t) → (w'.cell? ⟨w.heap.size, 0, none⟩ = some (.slice a0 l0 k0) ∧ w'.cell? ⟨w.heap.size, 1, none⟩ = some (.slice a1 l1 k1) ∧ w'.cell? ⟨w.heap.size, 2, none⟩ = some (.slice a2 l2 k2) ∧ w'.cell? ⟨w.heap.size, 3, none⟩ = some (.int .i64 2) ∧ w'.cell? ⟨w.heap.size, 4, none⟩ = some (.int .i64 o) ∧ w'.cell? ⟨w.heap.size, 5, none⟩ = some (.int .i64 t)) from fun _ _ h a0 a1 a2 a3 a4 a5 => ⟨h.keepc a0, h.keepc a1, h.keepc a2, h.keepc a3, h.keepc a4, h.keepc a5⟩)
  obtain ⟨W, hW⟩ : ∃ W, W = (w.alloc (.cells #[.slice a0 l0 k0, .slice a1 l1 k1, .slice a2 l2 k2, .int .i64 2, .int .i64 o, .int .i64 t] 26 (0, 0))) := ⟨_, rfl⟩
  have HF := Lib.hid (show Fr no w W by rw [hW]; exact (Fr.refl no w).alloc _)
  have c0 : W.cell? ⟨w.heap.size, 0, none⟩ = some (.slice a0 l0 k0) := by rw [hW]; go_simp
  have c1 : W.cell? ⟨w.heap.size, 1, none⟩ = some (.slice a1 l1 k1) := by rw [hW]; go_simp
  have c2 : W.cell? ⟨w.heap.size, 2, none⟩ = some (.slice a2 l2 k2) := by rw [hW]; go_simp
  have c3 : W.cell? ⟨w.heap.size, 3, none⟩ = some (.int .i64 2) := by rw [hW]; go_simp
  have c4 : W.cell? ⟨w.heap.size, 4, none⟩ = some (.int .i64 o) := by rw [hW]; go_simp
  have c5 : W.cell? ⟨w.heap.size, 5, none⟩ = some (.int .i64 t) := by rw [hW]; go_simp
  have HW := Lib.hid hW
  clear hW
  go_enter Try.func111, Try.ntmps111
  go_wp2_with fail
  rw [← HW.out]
  refine (K4.out _).mono ?_
  rintro e w' ⟨rfl, rfl⟩
  go_wp2_with fail
  go_loopw [4] (fun i wr => ∃ k : Nat, k ≤ l0 ∧ i = .int .i64 k ∧ ((ps.take k).all ptOk = true ∧ (zs.take k).all isP = true) ∧ Fr no w' wr) (fun i _ => l0 - (intOf i).toNat)
  case atStart => exact ⟨0, Nat.zero_le _, rfl, ⟨by simp, by simp⟩, Fr.refl _ _⟩
  case round =>
    obtain ⟨k, hk, rfl, ha, hf⟩ := hrel
    have HA := Lib.hid ha
    obtain ⟨m0, m1, m2, m3, m4, m5⟩ := KS.out _ _ hf c0 c1 c2 c3 c4 c5
    have HF1 := Lib.hid (HF.out.noTrans hf)
    have HFW := Lib.hid hf
    clear ha hf c0 c1 c2 c3 c4 c5
    by_cases hlt : k < l0
    · obtain ⟨b0, off0, rfl, hc0, hc1⟩ := (HP.out.kept HF1.out).2 k hlt
      obtain ⟨b1, off1, rfl, hd0⟩ := (HZ.out.kept HF1.out).2 k (by have := HL.out; omega)
      have HT := Lib.hid (all_take ptOk ⟨0, 0⟩ ps k (by have := HP.out.1; omega))
      have HN := Lib.hid (all_no ptOk ⟨0, 0⟩ ps k (by have := HP.out.1; omega))
      have HT2 := Lib.hid (all_take isP 0 zs k (by have := HZ.out.1; have := HL.out; omega))
      have HN2 := Lib.hid (all_no isP 0 zs k (by have := HZ.out.1; have := HL.out; omega))
      have hkI : (k : Int) ≤ 31 := by omega
      have hkI2 : (k : Int) < (l1 : Int) := by have := HL.out; omega
      have hkN2 : k < l1 := by have := HL.out; omega
      have HK := fun w => point_any (ptAt ps k).x (ptAt ps k).y w
      have HK2 := fun w => isR_any (zs.getD k 0) w
      rw [show ps.getD k ⟨0, 0⟩ = ptAt ps k from rfl] at HT HN
      generalize ptAt ps k = p at *
      obtain ⟨x, y⟩ := p
      simp only at HK hc0 hc1
      generalize zs.getD k 0 = z at *
      cases hpp : ptOk ⟨x, y⟩
      · have HV := Lib.hid (HN.out hpp)
        rw [show ptB x y = ptOk ⟨x, y⟩ from rfl, hpp] at HK
        have HK := Lib.hid HK
        clear hpp HK2
        go_wp2_with fail
        refine (HK.out _).mono ?_
        rintro e w3 ⟨rfl, f3⟩
        have HF3 := Lib.hid (HF1.out.noTrans f3)
        clear f3
        go_wp2_with fail
        go_ret
        refine ⟨?_, HF3.out⟩
        rw [HV.out]; rfl
      rw [show ptB x y = ptOk ⟨x, y⟩ from rfl, hpp] at HK
      rw [HA.out.1, hpp] at HT
      have HK := Lib.hid HK
      clear hpp
      cases hpz : isP z
      · rw [hpz] at HK2
        have HK2 := Lib.hid HK2
        have HV := Lib.hid (HN2.out hpz)
        clear hpz
        go_wp2_with fail
        refine (HK.out _).mono ?_
        rintro e w3 ⟨rfl, f3⟩
        obtain ⟨n0, n1, n2, n3, n4, n5⟩ := KS.out _ _ f3 m0 m1 m2 m3 m4 m5
        obtain hd1 := f3.keepc hd0
        have HF3 := Lib.hid (HF1.out.noTrans f3)
        have HFR := Lib.hid f3
        clear f3 hd0 hc0 hc1 m0 m1 m2 m3 m4 m5
        go_wp2_with fail
        refine (HK2.out _).mono ?_
        rintro e w4 ⟨rfl, rfl⟩
        go_wp2_with fail
        go_ret
        refine ⟨?_, HF3.out⟩
        simp [HV.out, ckE]
      · rw [hpz] at HK2
        have HK2 := Lib.hid HK2
        rw [HA.out.2, hpz] at HT2
        clear hpz
        go_wp2_with fail
        refine (HK.out _).mono ?_
        rintro e w3 ⟨rfl, f3⟩
        obtain ⟨n0, n1, n2, n3, n4, n5⟩ := KS.out _ _ f3 m0 m1 m2 m3 m4 m5
        obtain hd1 := f3.keepc hd0
        have HF3 := Lib.hid (HF1.out.noTrans f3)
        have HFR := Lib.hid f3
        clear f3 hd0 hc0 hc1 m0 m1 m2 m3 m4 m5
        go_wp2_with fail
        refine (HK2.out _).mono ?_
        rintro e w4 ⟨rfl, rfl⟩
        go_wp2_with fail
        go_roundw
        case rel => exact ⟨k + 1, by omega, by go_num, ⟨HT.out, HT2.out⟩, HFW.out.noTrans HFR.out⟩
        case measure => simp [intOf]; omega
    · have HB := Lib.hid (show ps.all ptOk = true ∧ zs.all isP = true from ⟨by have := HA.out.1; rwa [List.take_of_length_le (by have := HP.out.1; omega)] at this, by have := HA.out.2; rwa [List.take_of_length_le (by have := HZ.out.1; have := HL.out; omega)] at this⟩)
      clear HA
      obtain ⟨w7, rfl⟩ : ∃ x, x = wr := ⟨_, rfl⟩
      go_wp2_with fail
      go_loopw [5, 6] (fun i _ wr => ∃ k : Nat, k ≤ l2 ∧ i = .int .i64 k ∧ (ws.take k).all wlOk = true ∧ Fr no w7 wr) (fun i _ _ => l2 - (intOf i).toNat)
      case atStart => exact ⟨0, Nat.zero_le _, rfl, by simp, Fr.refl _ _⟩
      case round =>
        obtain ⟨k2, hk2, rfl, ha, hf⟩ := hrel
        have HA := Lib.hid ha
        obtain ⟨p0, p1, p2, p3, p4, p5⟩ := KS.out _ _ hf m0 m1 m2 m3 m4 m5
        have HF2 := Lib.hid (HF1.out.noTrans hf)
        have HFW2 := Lib.hid hf
        clear ha hf m0 m1 m2 m3 m4 m5
        by_cases hlt2 : k2 < l2
        · obtain ⟨b, off, rfl, hc0, hc1, hc2, hc3, hc4⟩ := (HWL.out.kept HF2.out).2 k2 hlt2
          have HT := Lib.hid (all_take wlOk ⟨0, 0, 0, 0, 0⟩ ws k2 (by have := HWL.out.1; omega))
          have HN := Lib.hid (all_no wlOk ⟨0, 0, 0, 0, 0⟩ ws k2 (by have := HWL.out.1; omega))
          have hkI : (k2 : Int) ≤ 31 := by omega
          rw [show ws.getD k2 ⟨0, 0, 0, 0, 0⟩ = wlAt ws k2 from rfl] at HT HN
          generalize wlAt ws k2 = p at *
          obtain ⟨ax, ay, bx, by_, f⟩ := p
          simp only at hc0 hc1 hc2 hc3 hc4
          have HK := fun w => point_any ax ay w
          have HK2 := fun w => point_any bx by_ w
          cases g0 : ptB ax ay
          · have HV := Lib.hid (HN.out (by simp [wlOk, wlB, g0]))
            rw [g0] at HK
            have HK := Lib.hid HK
            clear g0 HK2
            go_wp2_with fail
            refine (HK.out _).mono ?_
            rintro e w3 ⟨rfl, f3⟩
            have hb3 := f3.blk (heap_alloc_new wr _) (fun h => h)
            obtain ⟨e0, e1, e2, e3, e4⟩ := five_cells hb3
            obtain ⟨q0, q1, q2, q3, q4, q5⟩ := KS.out _ _ (((Fr.refl no wr).alloc _).noTrans f3) p0 p1 p2 p3 p4 p5
            have HF3 := Lib.hid ((HF2.out.alloc (.cells #[.int .i64 ax, .int .i64 ay, .int .i64 bx, .int .i64 by_, .int .i64 f] 101 (0, 0))).noTrans f3)
            have HFR := Lib.hid ((HFW2.out.alloc (.cells #[.int .i64 ax, .int .i64 ay, .int .i64 bx, .int .i64 by_, .int .i64 f] 101 (0, 0))).noTrans f3)
            clear f3 hb3 hc0 hc1 hc2 hc3 hc4 p0 p1 p2 p3 p4 p5
            go_wp2_with fail
            go_ret
            exact ⟨by simp [HV.out, ckE], HF3.out⟩
          rw [g0] at HK
          have HK := Lib.hid HK
          cases g1 : ptB bx by_
          · have HV := Lib.hid (HN.out (by simp [wlOk, wlB, g0, g1]))
            rw [g1] at HK2
            have HK2 := Lib.hid HK2
            clear g0 g1
            go_wp2_with fail
            refine (HK.out _).mono ?_
            rintro e w3 ⟨rfl, f3⟩
            have hb3 := f3.blk (heap_alloc_new wr _) (fun h => h)
            obtain ⟨e0, e1, e2, e3, e4⟩ := five_cells hb3
            obtain ⟨q0, q1, q2, q3, q4, q5⟩ := KS.out _ _ (((Fr.refl no wr).alloc _).noTrans f3) p0 p1 p2 p3 p4 p5
            have HF3 := Lib.hid ((HF2.out.alloc (.cells #[.int .i64 ax, .int .i64 ay, .int .i64 bx, .int .i64 by_, .int .i64 f] 101 (0, 0))).noTrans f3)
            have HFR := Lib.hid ((HFW2.out.alloc (.cells #[.int .i64 ax, .int .i64 ay, .int .i64 bx, .int .i64 by_, .int .i64 f] 101 (0, 0))).noTrans f3)
            clear f3 hb3 hc0 hc1 hc2 hc3 hc4 p0 p1 p2 p3 p4 p5
            go_wp2_with fail
            refine (HK2.out _).mono ?_
            rintro e w4 ⟨rfl, f4⟩
            have u0 := f4.keepc e4
            obtain ⟨r0, r1, r2, r3, r4, r5⟩ := KS.out _ _ f4 q0 q1 q2 q3 q4 q5
            have HF4 := Lib.hid (HF3.out.noTrans f4)
            have HFR4 := Lib.hid (HFR.out.noTrans f4)
            clear f4 e0 e1 e2 e3 e4 q0 q1 q2 q3 q4 q5
            go_wp2_with fail
            go_ret
            exact ⟨by simp [HV.out, ckE], HF4.out⟩
          rw [g1] at HK2
          have HK2 := Lib.hid HK2
          rcases (show f < 0 ∨ 0 ≤ f by omega) with g2 | g2
          · have HV := Lib.hid (HN.out (by simp [wlOk, wlB, g0, g1, inR]; omega))
            clear g0 g1
            go_wp2_with fail
            refine (HK.out _).mono ?_
            rintro e w3 ⟨rfl, f3⟩
            have hb3 := f3.blk (heap_alloc_new wr _) (fun h => h)
            obtain ⟨e0, e1, e2, e3, e4⟩ := five_cells hb3
            obtain ⟨q0, q1, q2, q3, q4, q5⟩ := KS.out _ _ (((Fr.refl no wr).alloc _).noTrans f3) p0 p1 p2 p3 p4 p5
            have HF3 := Lib.hid ((HF2.out.alloc (.cells #[.int .i64 ax, .int .i64 ay, .int .i64 bx, .int .i64 by_, .int .i64 f] 101 (0, 0))).noTrans f3)
            have HFR := Lib.hid ((HFW2.out.alloc (.cells #[.int .i64 ax, .int .i64 ay, .int .i64 bx, .int .i64 by_, .int .i64 f] 101 (0, 0))).noTrans f3)
            clear f3 hb3 hc0 hc1 hc2 hc3 hc4 p0 p1 p2 p3 p4 p5
            go_wp2_with fail
            refine (HK2.out _).mono ?_
            rintro e w4 ⟨rfl, f4⟩
            have u0 := f4.keepc e4
            obtain ⟨r0, r1, r2, r3, r4, r5⟩ := KS.out _ _ f4 q0 q1 q2 q3 q4 q5
            have HF4 := Lib.hid (HF3.out.noTrans f4)
            have HFR4 := Lib.hid (HFR.out.noTrans f4)
            clear f4 e0 e1 e2 e3 e4 q0 q1 q2 q3 q4 q5
            go_wp2_with fail
            go_ret
            exact ⟨by simp [HV.out, ckE], HF4.out⟩
          rcases (show 1000 < f ∨ f ≤ 1000 by omega) with g3 | g3
          · have HV := Lib.hid (HN.out (by simp [wlOk, wlB, g0, g1, inR]; omega))
            clear g0 g1
            go_wp2_with fail
            refine (HK.out _).mono ?_
            rintro e w3 ⟨rfl, f3⟩
            have hb3 := f3.blk (heap_alloc_new wr _) (fun h => h)
            obtain ⟨e0, e1, e2, e3, e4⟩ := five_cells hb3
            obtain ⟨q0, q1, q2, q3, q4, q5⟩ := KS.out _ _ (((Fr.refl no wr).alloc _).noTrans f3) p0 p1 p2 p3 p4 p5
            have HF3 := Lib.hid ((HF2.out.alloc (.cells #[.int .i64 ax, .int .i64 ay, .int .i64 bx, .int .i64 by_, .int .i64 f] 101 (0, 0))).noTrans f3)
            have HFR := Lib.hid ((HFW2.out.alloc (.cells #[.int .i64 ax, .int .i64 ay, .int .i64 bx, .int .i64 by_, .int .i64 f] 101 (0, 0))).noTrans f3)
            clear f3 hb3 hc0 hc1 hc2 hc3 hc4 p0 p1 p2 p3 p4 p5
            go_wp2_with fail
            refine (HK2.out _).mono ?_
            rintro e w4 ⟨rfl, f4⟩
            have u0 := f4.keepc e4
            obtain ⟨r0, r1, r2, r3, r4, r5⟩ := KS.out _ _ f4 q0 q1 q2 q3 q4 q5
            have HF4 := Lib.hid (HF3.out.noTrans f4)
            have HFR4 := Lib.hid (HFR.out.noTrans f4)
            clear f4 e0 e1 e2 e3 e4 q0 q1 q2 q3 q4 q5
            go_wp2_with fail
            go_ret
            exact ⟨by simp [HV.out, ckE], HF4.out⟩
          · have g3' : f ≤ 1000 := g3
            have g2' : 0 ≤ f := g2
            have HV := Lib.hid (show wlOk ⟨ax, ay, bx, by_, f⟩ = true by simp [wlOk, wlB, g0, g1, inR]; omega)
            clear g0 g1
            go_wp2_with fail
            refine (HK.out _).mono ?_
            rintro e w3 ⟨rfl, f3⟩
            have hb3 := f3.blk (heap_alloc_new wr _) (fun h => h)
            obtain ⟨e0, e1, e2, e3, e4⟩ := five_cells hb3
            obtain ⟨q0, q1, q2, q3, q4, q5⟩ := KS.out _ _ (((Fr.refl no wr).alloc _).noTrans f3) p0 p1 p2 p3 p4 p5
            have HF3 := Lib.hid ((HF2.out.alloc (.cells #[.int .i64 ax, .int .i64 ay, .int .i64 bx, .int .i64 by_, .int .i64 f] 101 (0, 0))).noTrans f3)
            have HFR := Lib.hid ((HFW2.out.alloc (.cells #[.int .i64 ax, .int .i64 ay, .int .i64 bx, .int .i64 by_, .int .i64 f] 101 (0, 0))).noTrans f3)
            clear f3 hb3 hc0 hc1 hc2 hc3 hc4 p0 p1 p2 p3 p4 p5
            go_wp2_with fail
            refine (HK2.out _).mono ?_
            rintro e w4 ⟨rfl, f4⟩
            have u0 := f4.keepc e4
            obtain ⟨r0, r1, r2, r3, r4, r5⟩ := KS.out _ _ f4 q0 q1 q2 q3 q4 q5
            have HF4 := Lib.hid (HF3.out.noTrans f4)
            have HFR4 := Lib.hid (HFR.out.noTrans f4)
            clear f4 e0 e1 e2 e3 e4 q0 q1 q2 q3 q4 q5
            go_wp2_with fail
            go_roundw
            case rel => exact ⟨k2 + 1, by omega, by go_num, by rw [HT.out, HA.out, HV.out]; rfl, HFR4.out⟩
            case measure => simp [intOf]; omega
        · have HC := Lib.hid (show ws.all wlOk = true by have := HA.out; rwa [List.take_of_length_le (by have := HWL.out.1; omega)] at this)
          go_wp2_with fail
          go_ret
          exact ⟨by simp [HB.out.1, HB.out.2, HC.out, ckE], HF2.out⟩
set_option maxHeartbeats 40000000 in
theorem checkR_loop4 (a0 : Option Addr) (l0 k0 : Nat) (a1 : Option Addr) (l1 k1 : Nat) (a2 : Option Addr) (l2 k2 : Nat) (o t : Int) (ps : List Pt) (zs : List Int) (ws : List Wl) (w : World) (hp : PtsIn w a0 l0 ps) (hz : IntsIn w a1 l1 zs) (hw : WlsIn w a2 l2 ws) (g0 : inR l0 2 32 = true) (g1 : l1 = l0) (g2 : l2 ≤ 32) (g4 : isR t o = true) :
    Calls Try.prog 111 #[.agg #[.slice a0 l0 k0, .slice a1 l1 k1, .slice a2 l2 k2, .int .i64 4, .int .i64 o, .int .i64 t]] w fun e w' => e = .returned (.int .i64 (ckE (ps.all ptOk && (zs.all isP && ws.all wlOk)))) ∧ Fr no w w' := by
  have r0 : (l0 : Int) ≤ 32 := (inR_t.1 g0).2
  have r1 : (2 : Int) ≤ (l0 : Int) := (inR_t.1 g0).1
  have q1 : ((l1 : Int) == (l0 : Int)) = true := by rw [beq_iff_eq]; omega
  have q1n : ((l1 : Int) != (l0 : Int)) = false := by simp; omega
  have q2 : (l2 : Int) ≤ 32 := by omega
  have K4 := Lib.hid (fun w => right_any t o w)
  rw [g4] at K4
  have HL := Lib.hid g1
  have HP := Lib.hid hp
  have HZ := Lib.hid hz
  have HWL := Lib.hid hw
  clear g0 g1 g2 g4 hp hz hw
  have KS := Lib.hid (show ∀ w0 w' : World, Fr no w0 w' → w0.cell? ⟨w.heap.size, 0, none⟩ = some (.slice a0 l0 k0) → w0.cell? ⟨w.heap.size, 1, none⟩ = some (.slice a1 l1 k1) → w0.cell? ⟨w.heap.size, 2, none⟩ = some (.slice a2 l2 k2) → w0.cell? ⟨w.heap.size, 3, none⟩ = some (.int .i64 4) → w0.cell? ⟨w.heap.size, 4, none⟩ = some (.int .i64 o) → w0.cell? ⟨w.heap.size, 5, none⟩ = some (.int .i64 t) → (w'.cell? ⟨w.heap.size, 0, none⟩ = some (.slice a0 l0 k0) ∧ w'.cell? ⟨w.heap.size, 1, none⟩ = some (.slice a1 l1 k1) ∧ w'.cell? ⟨w.heap.size, 2, none⟩ = some (.slice a2 l2 k2) ∧ w'.cell? ⟨w.heap.size, 3, none⟩ = some (.int .i64 4) ∧ w'.cell? ⟨w.heap.size, 4, none⟩ = some (.int .i64 o) ∧ w'.cell? ⟨w.heap.size, 5, none⟩ = some (.int .i64 t)) from fun _ _ h a0 a1 a2 a3 a4 a5 => ⟨h.keepc a0, h.keepc a1, h.keepc a2, h.keepc a3, h.keepc a4, h.keepc a5⟩)
  obtain ⟨W, hW⟩ : ∃ W, W = (w.alloc (.cells #[.slice a0 l0 k0, .slice a1 l1 k1, .slice a2 l2 k2, .int .i64 4, .int .i64 o, .int .i64 t] 26 (0, 0))) := ⟨_, rfl⟩
  have HF := Lib.hid (show Fr no w W by rw [hW]; exact (Fr.refl no w).alloc _)
  have c0 : W.cell? ⟨w.heap.size, 0, none⟩ = some (.slice a0 l0 k0) := by rw [hW]; go_simp
  have c1 : W.cell? ⟨w.heap.size, 1, none⟩ = some (.slice a1 l1 k1) := by rw [hW]; go_simp
  have c2 : W.cell? ⟨w.heap.size, 2, none⟩ = some (.slice a2 l2 k2) := by rw [hW]; go_simp
  have c3 : W.cell? ⟨w.heap.size, 3, none⟩ = some (.int .i64 4) := by rw [hW]; go_simp
  have c4 : W.cell? ⟨w.heap.size, 4, none⟩ = some (.int .i64 o) := by rw [hW]; go_simp
  have c5 : W.cell? ⟨w.heap.size, 5, none⟩ = some (.int .i64 t) := by rw [hW]; go_simp
  have HW := Lib.hid hW
  clear hW
  go_enter Try.func111, Try.ntmps111
  go_wp2_with fail
  rw [← HW.out]
  refine (K4.out _).mono ?_
  rintro e w' ⟨rfl, rfl⟩
  go_wp2_with fail
  go_loopw [4] (fun i wr => ∃ k : Nat, k ≤ l0 ∧ i = .int .i64 k ∧ ((ps.take k).all ptOk = true ∧ (zs.take k).all isP = true) ∧ Fr no w' wr) (fun i _ => l0 - (intOf i).toNat)
  case atStart => exact ⟨0, Nat.zero_le _, rfl, ⟨by simp, by simp⟩, Fr.refl _ _⟩
  case round =>
    obtain ⟨k, hk, rfl, ha, hf⟩ := hrel
    have HA := Lib.hid ha
    obtain ⟨m0, m1, m2, m3, m4, m5⟩ := KS.out _ _ hf c0 c1 c2 c3 c4 c5
    have HF1 := Lib.hid (HF.out.noTrans hf)
    have HFW := Lib.hid hf
    clear ha hf c0 c1 c2 c3 c4 c5
    by_cases hlt : k < l0
    · obtain ⟨b0, off0, rfl, hc0, hc1⟩ := (HP.out.kept HF1.out).2 k hlt
      obtain ⟨b1, off1, rfl, hd0⟩ := (HZ.out.kept HF1.out).2 k (by have := HL.out; omega)
      have HT := Lib.hid (all_take ptOk ⟨0, 0⟩ ps k (by have := HP.out.1; omega))
      have HN := Lib.hid (all_no ptOk ⟨0, 0⟩ ps k (by have := HP.out.1; omega))
      have HT2 := Lib.hid (all_take isP 0 zs k (by have := HZ.out.1; have := HL.out; omega))
      have HN2 := Lib.hid (all_no isP 0 zs k (by have := HZ.out.1; have := HL.out; omega))
      have hkI : (k : Int) ≤ 31 := by omega
      have hkI2 : (k : Int) < (l1 : Int) := by have := HL.out; omega
      have hkN2 : k < l1 := by have := HL.out; omega
      have HK := fun w => point_any (ptAt ps k).x (ptAt ps k).y w
      have HK2 := fun w => isR_any (zs.getD k 0) w
      rw [show ps.getD k ⟨0, 0⟩ = ptAt ps k from rfl] at HT HN
      generalize ptAt ps k = p at *
      obtain ⟨x, y⟩ := p
      simp only at HK hc0 hc1
      generalize zs.getD k 0 = z at *
      cases hpp : ptOk ⟨x, y⟩
      · have HV := Lib.hid (HN.out hpp)
        rw [show ptB x y = ptOk ⟨x, y⟩ from rfl, hpp] at HK
        have HK := Lib.hid HK
        clear hpp HK2
        go_wp2_with fail
        refine (HK.out _).mono ?_
        rintro e w3 ⟨rfl, f3⟩
        have HF3 := Lib.hid (HF1.out.noTrans f3)
        clear f3
        go_wp2_with fail
        go_ret
        refine ⟨?_, HF3.out⟩
        rw [HV.out]; rfl
      rw [show ptB x y = ptOk ⟨x, y⟩ from rfl, hpp] at HK
      rw [HA.out.1, hpp] at HT
      have HK := Lib.hid HK
      clear hpp
      cases hpz : isP z
      · rw [hpz] at HK2
        have HK2 := Lib.hid HK2
        have HV := Lib.hid (HN2.out hpz)
        clear hpz
        go_wp2_with fail
        refine (HK.out _).mono ?_
        rintro e w3 ⟨rfl, f3⟩
        obtain ⟨n0, n1, n2, n3, n4, n5⟩ := KS.out _ _ f3 m0 m1 m2 m3 m4 m5
        obtain hd1 := f3.keepc hd0
        have HF3 := Lib.hid (HF1.out.noTrans f3)
        have HFR := Lib.hid f3
        clear f3 hd0 hc0 hc1 m0 m1 m2 m3 m4 m5
        go_wp2_with fail
        refine (HK2.out _).mono ?_
        rintro e w4 ⟨rfl, rfl⟩
        go_wp2_with fail
        go_ret
        refine ⟨?_, HF3.out⟩
        simp [HV.out, ckE]
      · rw [hpz] at HK2
        have HK2 := Lib.hid HK2
        rw [HA.out.2, hpz] at HT2
        clear hpz
        go_wp2_with fail
        refine (HK.out _).mono ?_
        rintro e w3 ⟨rfl, f3⟩
        obtain ⟨n0, n1, n2, n3, n4, n5⟩ := KS.out _ _ f3 m0 m1 m2 m3 m4 m5
        obtain hd1 := f3.keepc hd0
        have HF3 := Lib.hid (HF1.out.noTrans f3)
        have HFR := Lib.hid f3
        clear f3 hd0 hc0 hc1 m0 m1 m2 m3 m4 m5
        go_wp2_with fail
        refine (HK2.out _).mono ?_
        rintro e w4 ⟨rfl, rfl⟩
        go_wp2_with fail
        go_roundw
        case rel => exact ⟨k + 1, by omega, by go_num, ⟨HT.out, HT2.out⟩, HFW.out.noTrans HFR.out⟩
        case measure => simp [intOf]; omega
    · have HB := Lib.hid (show ps.all ptOk = true ∧ zs.all isP = true from ⟨by have := HA.out.1; rwa [List.take_of_length_le (by have := HP.out.1; omega)] at this, by have := HA.out.2; rwa [List.take_of_length_le (by have := HZ.out.1; have := HL.out; omega)] at this⟩)
      clear HA
      obtain ⟨w7, rfl⟩ : ∃ x, x = wr := ⟨_, rfl⟩
      go_wp2_with fail
      go_loopw [5, 6] (fun i _ wr => ∃ k : Nat, k ≤ l2 ∧ i = .int .i64 k ∧ (ws.take k).all wlOk = true ∧ Fr no w7 wr) (fun i _ _ => l2 - (intOf i).toNat)
      case atStart => exact ⟨0, Nat.zero_le _, rfl, by simp, Fr.refl _ _⟩
      case round =>
        obtain ⟨k2, hk2, rfl, ha, hf⟩ := hrel
        have HA := Lib.hid ha
        obtain ⟨p0, p1, p2, p3, p4, p5⟩ := KS.out _ _ hf m0 m1 m2 m3 m4 m5
        have HF2 := Lib.hid (HF1.out.noTrans hf)
        have HFW2 := Lib.hid hf
        clear ha hf m0 m1 m2 m3 m4 m5
        by_cases hlt2 : k2 < l2
        · obtain ⟨b, off, rfl, hc0, hc1, hc2, hc3, hc4⟩ := (HWL.out.kept HF2.out).2 k2 hlt2
          have HT := Lib.hid (all_take wlOk ⟨0, 0, 0, 0, 0⟩ ws k2 (by have := HWL.out.1; omega))
          have HN := Lib.hid (all_no wlOk ⟨0, 0, 0, 0, 0⟩ ws k2 (by have := HWL.out.1; omega))
          have hkI : (k2 : Int) ≤ 31 := by omega
          rw [show ws.getD k2 ⟨0, 0, 0, 0, 0⟩ = wlAt ws k2 from rfl] at HT HN
          generalize wlAt ws k2 = p at *
          obtain ⟨ax, ay, bx, by_, f⟩ := p
          simp only at hc0 hc1 hc2 hc3 hc4
          have HK := fun w => point_any ax ay w
          have HK2 := fun w => point_any bx by_ w
          cases g0 : ptB ax ay
          · have HV := Lib.hid (HN.out (by simp [wlOk, wlB, g0]))
            rw [g0] at HK
            have HK := Lib.hid HK
            clear g0 HK2
            go_wp2_with fail
            refine (HK.out _).mono ?_
            rintro e w3 ⟨rfl, f3⟩
            have hb3 := f3.blk (heap_alloc_new wr _) (fun h => h)
            obtain ⟨e0, e1, e2, e3, e4⟩ := five_cells hb3
            obtain ⟨q0, q1, q2, q3, q4, q5⟩ := KS.out _ _ (((Fr.refl no wr).alloc _).noTrans f3) p0 p1 p2 p3 p4 p5
            have HF3 := Lib.hid ((HF2.out.alloc (.cells #[.int .i64 ax, .int .i64 ay, .int .i64 bx, .int .i64 by_, .int .i64 f] 101 (0, 0))).noTrans f3)
            have HFR := Lib.hid ((HFW2.out.alloc (.cells #[.int .i64 ax, .int .i64 ay, .int .i64 bx, .int .i64 by_, .int .i64 f] 101 (0, 0))).noTrans f3)
            clear f3 hb3 hc0 hc1 hc2 hc3 hc4 p0 p1 p2 p3 p4 p5
            go_wp2_with fail
            go_ret
            exact ⟨by simp [HV.out, ckE], HF3.out⟩
          rw [g0] at HK
          have HK := Lib.hid HK
          cases g1 : ptB bx by_
          · have HV := Lib.hid (HN.out (by simp [wlOk, wlB, g0, g1]))
            rw [g1] at HK2
            have HK2 := Lib.hid HK2
            clear g0 g1
            go_wp2_with fail
            refine (HK.out _).mono ?_
            rintro e w3 ⟨rfl, f3⟩
            have hb3 := f3.blk (heap_alloc_new wr _) (fun h => h)
            obtain ⟨e0, e1, e2, e3, e4⟩ := five_cells hb3
            obtain ⟨q0, q1, q2, q3, q4, q5⟩ := KS.out _ _ (((Fr.refl no wr).alloc _).noTrans f3) p0 p1 p2 p3 p4 p5
            have HF3 := Lib.hid ((HF2.out.alloc (.cells #[.int .i64 ax, .int .i64 ay, .int .i64 bx, .int .i64 by_, .int .i64 f] 101 (0, 0))).noTrans f3)
            have HFR := Lib.hid ((HFW2.out.alloc (.cells #[.int .i64 ax, .int .i64 ay, .int .i64 bx, .int .i64 by_, .int .i64 f] 101 (0, 0))).noTrans f3)
            clear f3 hb3 hc0 hc1 hc2 hc3 hc4 p0 p1 p2 p3 p4 p5
            go_wp2_with fail
            refine (HK2.out _).mono ?_
            rintro e w4 ⟨rfl, f4⟩
            have u0 := f4.keepc e4
            obtain ⟨r0, r1, r2, r3, r4, r5⟩ := KS.out _ _ f4 q0 q1 q2 q3 q4 q5
            have HF4 := Lib.hid (HF3.out.noTrans f4)
            have HFR4 := Lib.hid (HFR.out.noTrans f4)
            clear f4 e0 e1 e2 e3 e4 q0 q1 q2 q3 q4 q5
            go_wp2_with fail
            go_ret
            exact ⟨by simp [HV.out, ckE], HF4.out⟩
          rw [g1] at HK2
          have HK2 := Lib.hid HK2
          rcases (show f < 0 ∨ 0 ≤ f by omega) with g2 | g2
          · have HV := Lib.hid (HN.out (by simp [wlOk, wlB, g0, g1, inR]; omega))
            clear g0 g1
            go_wp2_with fail
            refine (HK.out _).mono ?_
            rintro e w3 ⟨rfl, f3⟩
            have hb3 := f3.blk (heap_alloc_new wr _) (fun h => h)
            obtain ⟨e0, e1, e2, e3, e4⟩ := five_cells hb3
            obtain ⟨q0, q1, q2, q3, q4, q5⟩ := KS.out _ _ (((Fr.refl no wr).alloc _).noTrans f3) p0 p1 p2 p3 p4 p5
            have HF3 := Lib.hid ((HF2.out.alloc (.cells #[.int .i64 ax, .int .i64 ay, .int .i64 bx, .int .i64 by_, .int .i64 f] 101 (0, 0))).noTrans f3)
            have HFR := Lib.hid ((HFW2.out.alloc (.cells #[.int .i64 ax, .int .i64 ay, .int .i64 bx, .int .i64 by_, .int .i64 f] 101 (0, 0))).noTrans f3)
            clear f3 hb3 hc0 hc1 hc2 hc3 hc4 p0 p1 p2 p3 p4 p5
            go_wp2_with fail
            refine (HK2.out _).mono ?_
            rintro e w4 ⟨rfl, f4⟩
            have u0 := f4.keepc e4
            obtain ⟨r0, r1, r2, r3, r4, r5⟩ := KS.out _ _ f4 q0 q1 q2 q3 q4 q5
            have HF4 := Lib.hid (HF3.out.noTrans f4)
            have HFR4 := Lib.hid (HFR.out.noTrans f4)
            clear f4 e0 e1 e2 e3 e4 q0 q1 q2 q3 q4 q5
            go_wp2_with fail
            go_ret
            exact ⟨by simp [HV.out, ckE], HF4.out⟩
          rcases (show 1000 < f ∨ f ≤ 1000 by omega) with g3 | g3
          · have HV := Lib.hid (HN.out (by simp [wlOk, wlB, g0, g1, inR]; omega))
            clear g0 g1
            go_wp2_with fail
            refine (HK.out _).mono ?_
            rintro e w3 ⟨rfl, f3⟩
            have hb3 := f3.blk (heap_alloc_new wr _) (fun h => h)
            obtain ⟨e0, e1, e2, e3, e4⟩ := five_cells hb3
            obtain ⟨q0, q1, q2, q3, q4, q5⟩ := KS.out _ _ (((Fr.refl no wr).alloc _).noTrans f3) p0 p1 p2 p3 p4 p5
            have HF3 := Lib.hid ((HF2.out.alloc (.cells #[.int .i64 ax, .int .i64 ay, .int .i64 bx, .int .i64 by_, .int .i64 f] 101 (0, 0))).noTrans f3)
            have HFR := Lib.hid ((HFW2.out.alloc (.cells #[.int .i64 ax, .int .i64 ay, .int .i64 bx, .int .i64 by_, .int .i64 f] 101 (0, 0))).noTrans f3)
            clear f3 hb3 hc0 hc1 hc2 hc3 hc4 p0 p1 p2 p3 p4 p5
            go_wp2_with fail
            refine (HK2.out _).mono ?_
            rintro e w4 ⟨rfl, f4⟩
            have u0 := f4.keepc e4
            obtain ⟨r0, r1, r2, r3, r4, r5⟩ := KS.out _ _ f4 q0 q1 q2 q3 q4 q5
            have HF4 := Lib.hid (HF3.out.noTrans f4)
            have HFR4 := Lib.hid (HFR.out.noTrans f4)
            clear f4 e0 e1 e2 e3 e4 q0 q1 q2 q3 q4 q5
            go_wp2_with fail
            go_ret
            exact ⟨by simp [HV.out, ckE], HF4.out⟩
          · have g3' : f ≤ 1000 := g3
            have g2' : 0 ≤ f := g2
            have HV := Lib.hid (show wlOk ⟨ax, ay, bx, by_, f⟩ = true by simp [wlOk, wlB, g0, g1, inR]; omega)
            clear g0 g1
            go_wp2_with fail
            refine (HK.out _).mono ?_
            rintro e w3 ⟨rfl, f3⟩
            have hb3 := f3.blk (heap_alloc_new wr _) (fun h => h)
            obtain ⟨e0, e1, e2, e3, e4⟩ := five_cells hb3
            obtain ⟨q0, q1, q2, q3, q4, q5⟩ := KS.out _ _ (((Fr.refl no wr).alloc _).noTrans f3) p0 p1 p2 p3 p4 p5
            have HF3 := Lib.hid ((HF2.out.alloc (.cells #[.int .i64 ax, .int .i64 ay, .int .i64 bx, .int .i64 by_, .int .i64 f] 101 (0, 0))).noTrans f3)
            have HFR := Lib.hid ((HFW2.out.alloc (.cells #[.int .i64 ax, .int .i64 ay, .int .i64 bx, .int .i64 by_, .int .i64 f] 101 (0, 0))).noTrans f3)
            clear f3 hb3 hc0 hc1 hc2 hc3 hc4 p0 p1 p2 p3 p4 p5
            go_wp2_with fail
            refine (HK2.out _).mono ?_
            rintro e w4 ⟨rfl, f4⟩
            have u0 := f4.keepc e4
            obtain ⟨r0, r1, r2, r3, r4, r5⟩ := KS.out _ _ f4 q0 q1 q2 q3 q4 q5
            have HF4 := Lib.hid (HF3.out.noTrans f4)
            have HFR4 := Lib.hid (HFR.out.noTrans f4)
            clear f4 e0 e1 e2 e3 e4 q0 q1 q2 q3 q4 q5
            go_wp2_with fail
            go_roundw
            case rel => exact ⟨k2 + 1, by omega, by go_num, by rw [HT.out, HA.out, HV.out]; rfl, HFR4.out⟩
            case measure => simp [intOf]; omega
        · have HC := Lib.hid (show ws.all wlOk = true by have := HA.out; rwa [List.take_of_length_le (by have := HWL.out.1; omega)] at this)
          go_wp2_with fail
          go_ret
          exact ⟨by simp [HB.out.1, HB.out.2, HC.out, ckE], HF2.out⟩
theorem checkR_any (a0 : Option Addr) (l0 k0 : Nat) (a1 : Option Addr) (l1 k1 : Nat) (a2 : Option Addr) (l2 k2 : Nat) (e o t : Int) (ps : List Pt) (zs : List Int) (ws : List Wl) (w : World) (hp : PtsIn w a0 l0 ps) (hz : IntsIn w a1 l1 zs) (hw : WlsIn w a2 l2 ws) :
    Calls Try.prog 111 #[.agg #[.slice a0 l0 k0, .slice a1 l1 k1, .slice a2 l2 k2, .int .i64 e, .int .i64 o, .int .i64 t]] w fun e' w' => e' = .returned (.int .i64 (ckE (ckB l0 l1 l2 e o t ps zs ws))) ∧ Fr no w w' := by
  cases g0 : inR l0 2 32
  · rw [show ckB l0 l1 l2 e o t ps zs ws = false by simp [ckB, g0]]
    by_cases h : l0 < 2
    · exact checkR_0a a0 l0 k0 a1 l1 k1 a2 l2 k2 e o t ps zs ws w hp hz hw h
    · exact checkR_0b a0 l0 k0 a1 l1 k1 a2 l2 k2 e o t ps zs ws w hp hz hw (by simp [inR] at g0; omega)
  by_cases g1 : l1 = l0
  case neg => rw [show ckB l0 l1 l2 e o t ps zs ws = false by simp [ckB, g0, g1]]; exact checkR_1 a0 l0 k0 a1 l1 k1 a2 l2 k2 e o t ps zs ws w hp hz hw g0 g1
  by_cases g2 : l2 ≤ 32
  case neg => rw [show ckB l0 l1 l2 e o t ps zs ws = false by simp [ckB, g0, g1, g2]]; exact checkR_2 a0 l0 k0 a1 l1 k1 a2 l2 k2 e o t ps zs ws w hp hz hw g0 g1 g2
  by_cases g3 : e = 2 ∨ e = 4
  case neg => rw [show ckB l0 l1 l2 e o t ps zs ws = false by simp [ckB, g0, g1, g2, g3]]; exact checkR_3 a0 l0 k0 a1 l1 k1 a2 l2 k2 e o t ps zs ws w hp hz hw g0 g1 g2 g3
  cases g4 : isR t o
  · rw [show ckB l0 l1 l2 e o t ps zs ws = false by simp only [isR] at g4; simp only [ckB, g0, g1, g2, g3, decide_true, Bool.true_and]; rw [← Bool.and_assoc, g4, Bool.false_and]]; exact checkR_4 a0 l0 k0 a1 l1 k1 a2 l2 k2 e o t ps zs ws w hp hz hw g0 g1 g2 g3 g4
  rw [show ckB l0 l1 l2 e o t ps zs ws = (ps.all ptOk && (zs.all isP && ws.all wlOk)) by simp only [isR] at g4; simp only [ckB, g0, g1, g2, g3, decide_true, Bool.true_and]; rw [← Bool.and_assoc, g4, Bool.true_and]]
  rcases g3 with rfl | rfl
  · exact checkR_loop2 a0 l0 k0 a1 l1 k1 a2 l2 k2 o t ps zs ws w hp hz hw g0 g1 g2 g4
  · exact checkR_loop4 a0 l0 k0 a1 l1 k1 a2 l2 k2 o t ps zs ws w hp hz hw g0 g1 g2 g4
end Go.Proofs.Ytdenlinehjigaaa
