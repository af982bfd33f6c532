/- The law of finds: who is nearest, and who is heard. -/
import Derived.Test.YtljfdoabgbioiaaHea
import Derived.BigQuiet
namespace Go.Proofs.Ytljfdoabgbioiaa
open Go.RowKit
set_option linter.unusedVariables false

theorem own_ints {B : Nat} {w : World} {v : Value} {l : List Nat} (h : Own B w v l) : ∃ a c, v = .slice a l.length c ∧ IntsIn w a l.length (l.map fun n : Nat => (n : Int)) := by
  have h' : World.ownsRow w B 3 1 v l.length (vals l) := h
  rcases h'.2 with ⟨rfl, h0⟩ | ⟨g, cap, cur, rfl, _⟩
  · have hl : l.length = 0 := h0
    refine ⟨none, 0, by rw [hl], by simp, fun i hi => by omega⟩
  · refine ⟨_, _, rfl, by simp, fun i hi => ⟨g, 0, rfl, ?_⟩⟩
    rw [Nat.zero_add, h'.cellAt i (by omega)]
    simp [vals, List.getD_eq_getElem?_getD, List.getElem?_eq_getElem hi]
set_option maxHeartbeats 2000000 in
theorem eqs_any (a a' : Option Addr) (n c c' : Nat) (zs : List Int) (w : World) (h : IntsIn w a n zs) (h' : IntsIn w a' n zs) (hn : n ≤ 40) :
    Calls Try.prog 27 #[.slice a n c, .slice a' n c'] w fun e w' => e = .returned (.bool true) ∧ Fr no w w' := by
  have H1 := Lib.hid h
  have H2 := Lib.hid h'
  have hnI : (n : Int) ≤ 40 := by omega
  clear h h' hn
  go_enter Try.func27, Try.ntmps27
  go_wp2_with fail
  go_loopw [5, 13] (fun _ i wr => ∃ k : Nat, k ≤ n ∧ i = .int .i64 k ∧ Fr no w wr) (fun _ i _ => n - (intOf i).toNat)
  case atStart => exact ⟨0, Nat.zero_le _, rfl, Fr.refl _ _⟩
  case round =>
    obtain ⟨k, hk, rfl, hf⟩ := hrel
    have HF := Lib.hid hf
    clear hf
    by_cases hlt : k < n
    · obtain ⟨b, off, rfl, p0⟩ := (H1.out.kept HF.out).2 k hlt
      obtain ⟨b', off', rfl, p1⟩ := (H2.out.kept HF.out).2 k hlt
      generalize zs.getD k 0 = z at *
      have hkI : (k : Int) < (n : Int) := by omega
      have hk0 : (0 : Int) ≤ (k : Int) := by omega
      go_wp2_with fail
      go_quiet (fail)
      go_wp2_with fail
      exact ⟨⟨k + 1, by omega, by go_num, HF.out.drewN _⟩, by simp [intOf]; omega⟩
    · obtain rfl : k = n := by omega
      go_wp2_with fail
      go_ret
      exact ⟨rfl, HF.out⟩
/-- What Hears returns. -/
def HeaAll (w w' : World) (E : Int) (l : List Nat) (e : Ending) : Prop := ∃ v, e = .returned (.tuple #[v, .int .i64 E]) ∧ Own w.heap.size w' v l ∧ Fr no w w'
def heE (B M : Bool) : Int := if B = true then (if M = true then 0 else 7) else 1
def heL (B M : Bool) (l : List Nat) : List Nat := if B = true then (if M = true then l else []) else []
set_option maxHeartbeats 2000000 in
theorem hears_0 (a0 : Option Addr) (l0 k0 : Nat) (a1 : Option Addr) (l1 k1 : Nat) (a2 : Option Addr) (l2 k2 : Nat) (e o t : Int) (ps : List Pt) (zs : List Int) (ws : List Wl) (nd : Int) (w : World) (hp : PtsIn w a0 l0 ps) (hz : IntsIn w a1 l1 zs) (hw : WlsIn w a2 l2 ws) (g0 : (ckB l0 l1 l2 e o t ps zs ws) = false) : Calls Try.prog 30 #[.agg #[.slice a0 l0 k0, .slice a1 l1 k1, .slice a2 l2 k2, .int .i64 e, .int .i64 o, .int .i64 t], .int .i64 nd] w fun e' w' => e' = .returned (.tuple #[.slice none 0 0, .int .i64 1]) ∧ Fr no w w' := by
  have KS := Lib.hid (show ∀ w0 w' : World, Fr no w0 w' → w0.cell? ⟨w.heap.size, 0, none⟩ = some (.slice a0 l0 k0) → w0.cell? ⟨w.heap.size, 1, none⟩ = some (.slice a1 l1 k1) → w0.cell? ⟨w.heap.size, 2, none⟩ = some (.slice a2 l2 k2) → w0.cell? ⟨w.heap.size, 3, none⟩ = some (.int .i64 e) → w0.cell? ⟨w.heap.size, 4, none⟩ = some (.int .i64 o) → w0.cell? ⟨w.heap.size, 5, none⟩ = some (.int .i64 t) → (w'.cell? ⟨w.heap.size, 0, none⟩ = some (.slice a0 l0 k0) ∧ w'.cell? ⟨w.heap.size, 1, none⟩ = some (.slice a1 l1 k1) ∧ w'.cell? ⟨w.heap.size, 2, none⟩ = some (.slice a2 l2 k2) ∧ w'.cell? ⟨w.heap.size, 3, none⟩ = some (.int .i64 e) ∧ w'.cell? ⟨w.heap.size, 4, none⟩ = some (.int .i64 o) ∧ w'.cell? ⟨w.heap.size, 5, none⟩ = some (.int .i64 t)) from fun _ _ h a0 a1 a2 a3 a4 a5 => ⟨h.keepc a0, h.keepc a1, h.keepc a2, h.keepc a3, h.keepc a4, h.keepc a5⟩)
  obtain ⟨W, hW⟩ : ∃ W, W = (w.alloc (.cells #[.slice a0 l0 k0, .slice a1 l1 k1, .slice a2 l2 k2, .int .i64 e, .int .i64 o, .int .i64 t] 34 (0, 0))) := ⟨_, rfl⟩
  have HF := Lib.hid (show Fr no w W by rw [hW]; exact (Fr.refl no w).alloc _)
  have c0 : W.cell? ⟨w.heap.size, 0, none⟩ = some (.slice a0 l0 k0) := by rw [hW]; go_simp
  have c1 : W.cell? ⟨w.heap.size, 1, none⟩ = some (.slice a1 l1 k1) := by rw [hW]; go_simp
  have c2 : W.cell? ⟨w.heap.size, 2, none⟩ = some (.slice a2 l2 k2) := by rw [hW]; go_simp
  have c3 : W.cell? ⟨w.heap.size, 3, none⟩ = some (.int .i64 e) := by rw [hW]; go_simp
  have c4 : W.cell? ⟨w.heap.size, 4, none⟩ = some (.int .i64 o) := by rw [hW]; go_simp
  have c5 : W.cell? ⟨w.heap.size, 5, none⟩ = some (.int .i64 t) := by rw [hW]; go_simp
  have HW := Lib.hid hW
  clear hW
  have K24 := fun w' (h : Fr no w w') => check_any a0 l0 k0 a1 l1 k1 a2 l2 k2 e o t ps zs ws w' (hp.kept h) (hz.kept h) (hw.kept h)
  rw [g0, show ckE false = 1 from rfl] at K24
  have K24 := Lib.hid K24
  clear hp hz hw g0
  go_enter Try.func30, Try.ntmps30
  go_wp2_with fail
  rw [← HW.out]
  refine (K24.out _ HF.out).mono ?_
  rintro e y1 ⟨rfl, f1⟩
  obtain ⟨d1_0, d1_1, d1_2, d1_3, d1_4, d1_5⟩ := KS.out _ _ f1 c0 c1 c2 c3 c4 c5
  have HF1 := Lib.hid (HF.out.noTrans f1)
  clear f1 c0 c1 c2 c3 c4 c5
  go_wp2_with fail
  go_ret2
  exact ⟨rfl, HF1.out⟩
set_option maxHeartbeats 2000000 in
theorem hears_1 (a0 : Option Addr) (l0 k0 : Nat) (a1 : Option Addr) (l1 k1 : Nat) (a2 : Option Addr) (l2 k2 : Nat) (e o t : Int) (ps : List Pt) (zs : List Int) (ws : List Wl) (nd : Int) (w : World) (hp : PtsIn w a0 l0 ps) (hz : IntsIn w a1 l1 zs) (hw : WlsIn w a2 l2 ws) (g0 : (ckB l0 l1 l2 e o t ps zs ws) = true) (g1 : hnB l0 nd = false) : Calls Try.prog 30 #[.agg #[.slice a0 l0 k0, .slice a1 l1 k1, .slice a2 l2 k2, .int .i64 e, .int .i64 o, .int .i64 t], .int .i64 nd] w fun e' w' => e' = .returned (.tuple #[.slice none 0 0, .int .i64 7]) ∧ Fr no w w' := by
  have KS := Lib.hid (show ∀ w0 w' : World, Fr no w0 w' → w0.cell? ⟨w.heap.size, 0, none⟩ = some (.slice a0 l0 k0) → w0.cell? ⟨w.heap.size, 1, none⟩ = some (.slice a1 l1 k1) → w0.cell? ⟨w.heap.size, 2, none⟩ = some (.slice a2 l2 k2) → w0.cell? ⟨w.heap.size, 3, none⟩ = some (.int .i64 e) → w0.cell? ⟨w.heap.size, 4, none⟩ = some (.int .i64 o) → w0.cell? ⟨w.heap.size, 5, none⟩ = some (.int .i64 t) → (w'.cell? ⟨w.heap.size, 0, none⟩ = some (.slice a0 l0 k0) ∧ w'.cell? ⟨w.heap.size, 1, none⟩ = some (.slice a1 l1 k1) ∧ w'.cell? ⟨w.heap.size, 2, none⟩ = some (.slice a2 l2 k2) ∧ w'.cell? ⟨w.heap.size, 3, none⟩ = some (.int .i64 e) ∧ w'.cell? ⟨w.heap.size, 4, none⟩ = some (.int .i64 o) ∧ w'.cell? ⟨w.heap.size, 5, none⟩ = some (.int .i64 t)) from fun _ _ h a0 a1 a2 a3 a4 a5 => ⟨h.keepc a0, h.keepc a1, h.keepc a2, h.keepc a3, h.keepc a4, h.keepc a5⟩)
  obtain ⟨W, hW⟩ : ∃ W, W = (w.alloc (.cells #[.slice a0 l0 k0, .slice a1 l1 k1, .slice a2 l2 k2, .int .i64 e, .int .i64 o, .int .i64 t] 34 (0, 0))) := ⟨_, rfl⟩
  have HF := Lib.hid (show Fr no w W by rw [hW]; exact (Fr.refl no w).alloc _)
  have c0 : W.cell? ⟨w.heap.size, 0, none⟩ = some (.slice a0 l0 k0) := by rw [hW]; go_simp
  have c1 : W.cell? ⟨w.heap.size, 1, none⟩ = some (.slice a1 l1 k1) := by rw [hW]; go_simp
  have c2 : W.cell? ⟨w.heap.size, 2, none⟩ = some (.slice a2 l2 k2) := by rw [hW]; go_simp
  have c3 : W.cell? ⟨w.heap.size, 3, none⟩ = some (.int .i64 e) := by rw [hW]; go_simp
  have c4 : W.cell? ⟨w.heap.size, 4, none⟩ = some (.int .i64 o) := by rw [hW]; go_simp
  have c5 : W.cell? ⟨w.heap.size, 5, none⟩ = some (.int .i64 t) := by rw [hW]; go_simp
  have HW := Lib.hid hW
  clear hW
  have K24 := fun w' (h : Fr no w w') => check_any a0 l0 k0 a1 l1 k1 a2 l2 k2 e o t ps zs ws w' (hp.kept h) (hz.kept h) (hw.kept h)
  rw [g0, show ckE true = 0 from rfl] at K24
  have K24 := Lib.hid K24
  have hg := ckB_t g0
  have KN := fun w => hasNode_any a0 l0 k0 a1 l1 k1 a2 l2 k2 e o t nd w (by have := hg.n1; omega)
  rw [g1] at KN
  have KN := Lib.hid KN
  clear hg
  clear hp hz hw g0 g1
  go_enter Try.func30, Try.ntmps30
  go_wp2_with fail
  rw [← HW.out]
  refine (K24.out _ HF.out).mono ?_
  rintro e y1 ⟨rfl, f1⟩
  obtain ⟨d1_0, d1_1, d1_2, d1_3, d1_4, d1_5⟩ := KS.out _ _ f1 c0 c1 c2 c3 c4 c5
  have HF1 := Lib.hid (HF.out.noTrans f1)
  clear f1 c0 c1 c2 c3 c4 c5
  go_wp2_with fail
  refine (KN.out _).mono ?_
  rintro e y2 ⟨rfl, f2⟩
  obtain ⟨d2_0, d2_1, d2_2, d2_3, d2_4, d2_5⟩ := KS.out _ _ f2 d1_0 d1_1 d1_2 d1_3 d1_4 d1_5
  have HF2 := Lib.hid (HF1.out.noTrans f2)
  clear f2 d1_0 d1_1 d1_2 d1_3 d1_4 d1_5
  go_wp2_with fail
  go_ret2
  exact ⟨rfl, HF2.out⟩
set_option maxHeartbeats 2000000 in
theorem hearsR_0 (a0 : Option Addr) (l0 k0 : Nat) (a1 : Option Addr) (l1 k1 : Nat) (a2 : Option Addr) (l2 k2 : Nat) (e o t : Int) (ps : List Pt) (zs : List Int) (ws : List Wl) (nd : Int) (w : World) (hp : PtsIn w a0 l0 ps) (hz : IntsIn w a1 l1 zs) (hw : WlsIn w a2 l2 ws) (g0 : (ckB l0 l1 l2 e o t ps zs ws) = false) : Calls Try.prog 31 #[.agg #[.slice a0 l0 k0, .slice a1 l1 k1, .slice a2 l2 k2, .int .i64 e, .int .i64 o, .int .i64 t], .int .i64 nd] w fun e' w' => e' = .returned (.tuple #[.slice none 0 0, .int .i64 1]) ∧ Fr no w w' := by
  have KS := Lib.hid (show ∀ w0 w' : World, Fr no w0 w' → w0.cell? ⟨w.heap.size, 0, none⟩ = some (.slice a0 l0 k0) → w0.cell? ⟨w.heap.size, 1, none⟩ = some (.slice a1 l1 k1) → w0.cell? ⟨w.heap.size, 2, none⟩ = some (.slice a2 l2 k2) → w0.cell? ⟨w.heap.size, 3, none⟩ = some (.int .i64 e) → w0.cell? ⟨w.heap.size, 4, none⟩ = some (.int .i64 o) → w0.cell? ⟨w.heap.size, 5, none⟩ = some (.int .i64 t) → (w'.cell? ⟨w.heap.size, 0, none⟩ = some (.slice a0 l0 k0) ∧ w'.cell? ⟨w.heap.size, 1, none⟩ = some (.slice a1 l1 k1) ∧ w'.cell? ⟨w.heap.size, 2, none⟩ = some (.slice a2 l2 k2) ∧ w'.cell? ⟨w.heap.size, 3, none⟩ = some (.int .i64 e) ∧ w'.cell? ⟨w.heap.size, 4, none⟩ = some (.int .i64 o) ∧ w'.cell? ⟨w.heap.size, 5, none⟩ = some (.int .i64 t)) from fun _ _ h a0 a1 a2 a3 a4 a5 => ⟨h.keepc a0, h.keepc a1, h.keepc a2, h.keepc a3, h.keepc a4, h.keepc a5⟩)
  obtain ⟨W, hW⟩ : ∃ W, W = (w.alloc (.cells #[.slice a0 l0 k0, .slice a1 l1 k1, .slice a2 l2 k2, .int .i64 e, .int .i64 o, .int .i64 t] 34 (0, 0))) := ⟨_, rfl⟩
  have HF := Lib.hid (show Fr no w W by rw [hW]; exact (Fr.refl no w).alloc _)
  have c0 : W.cell? ⟨w.heap.size, 0, none⟩ = some (.slice a0 l0 k0) := by rw [hW]; go_simp
  have c1 : W.cell? ⟨w.heap.size, 1, none⟩ = some (.slice a1 l1 k1) := by rw [hW]; go_simp
  have c2 : W.cell? ⟨w.heap.size, 2, none⟩ = some (.slice a2 l2 k2) := by rw [hW]; go_simp
  have c3 : W.cell? ⟨w.heap.size, 3, none⟩ = some (.int .i64 e) := by rw [hW]; go_simp
  have c4 : W.cell? ⟨w.heap.size, 4, none⟩ = some (.int .i64 o) := by rw [hW]; go_simp
  have c5 : W.cell? ⟨w.heap.size, 5, none⟩ = some (.int .i64 t) := by rw [hW]; go_simp
  have HW := Lib.hid hW
  clear hW
  have K24 := fun w' (h : Fr no w w') => checkR_any a0 l0 k0 a1 l1 k1 a2 l2 k2 e o t ps zs ws w' (hp.kept h) (hz.kept h) (hw.kept h)
  rw [g0, show ckE false = 1 from rfl] at K24
  have K24 := Lib.hid K24
  clear hp hz hw g0
  go_enter Try.func31, Try.ntmps31
  go_wp2_with fail
  rw [← HW.out]
  refine (K24.out _ HF.out).mono ?_
  rintro e y1 ⟨rfl, f1⟩
  obtain ⟨d1_0, d1_1, d1_2, d1_3, d1_4, d1_5⟩ := KS.out _ _ f1 c0 c1 c2 c3 c4 c5
  have HF1 := Lib.hid (HF.out.noTrans f1)
  clear f1 c0 c1 c2 c3 c4 c5
  go_wp2_with fail
  go_ret2
  exact ⟨rfl, HF1.out⟩
set_option maxHeartbeats 2000000 in
theorem hearsR_1a (a0 : Option Addr) (l0 k0 : Nat) (a1 : Option Addr) (l1 k1 : Nat) (a2 : Option Addr) (l2 k2 : Nat) (e o t : Int) (ps : List Pt) (zs : List Int) (ws : List Wl) (nd : Int) (w : World) (hp : PtsIn w a0 l0 ps) (hz : IntsIn w a1 l1 zs) (hw : WlsIn w a2 l2 ws) (g0 : (ckB l0 l1 l2 e o t ps zs ws) = true) (g1 : nd < 0) : Calls Try.prog 31 #[.agg #[.slice a0 l0 k0, .slice a1 l1 k1, .slice a2 l2 k2, .int .i64 e, .int .i64 o, .int .i64 t], .int .i64 nd] w fun e' w' => e' = .returned (.tuple #[.slice none 0 0, .int .i64 7]) ∧ Fr no w w' := by
  have KS := Lib.hid (show ∀ w0 w' : World, Fr no w0 w' → w0.cell? ⟨w.heap.size, 0, none⟩ = some (.slice a0 l0 k0) → w0.cell? ⟨w.heap.size, 1, none⟩ = some (.slice a1 l1 k1) → w0.cell? ⟨w.heap.size, 2, none⟩ = some (.slice a2 l2 k2) → w0.cell? ⟨w.heap.size, 3, none⟩ = some (.int .i64 e) → w0.cell? ⟨w.heap.size, 4, none⟩ = some (.int .i64 o) → w0.cell? ⟨w.heap.size, 5, none⟩ = some (.int .i64 t) → (w'.cell? ⟨w.heap.size, 0, none⟩ = some (.slice a0 l0 k0) ∧ w'.cell? ⟨w.heap.size, 1, none⟩ = some (.slice a1 l1 k1) ∧ w'.cell? ⟨w.heap.size, 2, none⟩ = some (.slice a2 l2 k2) ∧ w'.cell? ⟨w.heap.size, 3, none⟩ = some (.int .i64 e) ∧ w'.cell? ⟨w.heap.size, 4, none⟩ = some (.int .i64 o) ∧ w'.cell? ⟨w.heap.size, 5, none⟩ = some (.int .i64 t)) from fun _ _ h a0 a1 a2 a3 a4 a5 => ⟨h.keepc a0, h.keepc a1, h.keepc a2, h.keepc a3, h.keepc a4, h.keepc a5⟩)
  obtain ⟨W, hW⟩ : ∃ W, W = (w.alloc (.cells #[.slice a0 l0 k0, .slice a1 l1 k1, .slice a2 l2 k2, .int .i64 e, .int .i64 o, .int .i64 t] 34 (0, 0))) := ⟨_, rfl⟩
  have HF := Lib.hid (show Fr no w W by rw [hW]; exact (Fr.refl no w).alloc _)
  have c0 : W.cell? ⟨w.heap.size, 0, none⟩ = some (.slice a0 l0 k0) := by rw [hW]; go_simp
  have c1 : W.cell? ⟨w.heap.size, 1, none⟩ = some (.slice a1 l1 k1) := by rw [hW]; go_simp
  have c2 : W.cell? ⟨w.heap.size, 2, none⟩ = some (.slice a2 l2 k2) := by rw [hW]; go_simp
  have c3 : W.cell? ⟨w.heap.size, 3, none⟩ = some (.int .i64 e) := by rw [hW]; go_simp
  have c4 : W.cell? ⟨w.heap.size, 4, none⟩ = some (.int .i64 o) := by rw [hW]; go_simp
  have c5 : W.cell? ⟨w.heap.size, 5, none⟩ = some (.int .i64 t) := by rw [hW]; go_simp
  have HW := Lib.hid hW
  clear hW
  have K24 := fun w' (h : Fr no w w') => checkR_any a0 l0 k0 a1 l1 k1 a2 l2 k2 e o t ps zs ws w' (hp.kept h) (hz.kept h) (hw.kept h)
  rw [g0, show ckE true = 0 from rfl] at K24
  have K24 := Lib.hid K24
  clear hp hz hw g0
  go_enter Try.func31, Try.ntmps31
  go_wp2_with fail
  rw [← HW.out]
  refine (K24.out _ HF.out).mono ?_
  rintro e y1 ⟨rfl, f1⟩
  obtain ⟨d1_0, d1_1, d1_2, d1_3, d1_4, d1_5⟩ := KS.out _ _ f1 c0 c1 c2 c3 c4 c5
  have HF1 := Lib.hid (HF.out.noTrans f1)
  clear f1 c0 c1 c2 c3 c4 c5
  go_wp2_with fail
  go_ret2
  exact ⟨rfl, HF1.out⟩
set_option maxHeartbeats 2000000 in
theorem hearsR_1b (a0 : Option Addr) (l0 k0 : Nat) (a1 : Option Addr) (l1 k1 : Nat) (a2 : Option Addr) (l2 k2 : Nat) (e o t : Int) (ps : List Pt) (zs : List Int) (ws : List Wl) (nd : Int) (w : World) (hp : PtsIn w a0 l0 ps) (hz : IntsIn w a1 l1 zs) (hw : WlsIn w a2 l2 ws) (g0 : (ckB l0 l1 l2 e o t ps zs ws) = true) (g1 : (l0 : Int) ≤ nd) : Calls Try.prog 31 #[.agg #[.slice a0 l0 k0, .slice a1 l1 k1, .slice a2 l2 k2, .int .i64 e, .int .i64 o, .int .i64 t], .int .i64 nd] w fun e' w' => e' = .returned (.tuple #[.slice none 0 0, .int .i64 7]) ∧ Fr no w w' := by
  have KS := Lib.hid (show ∀ w0 w' : World, Fr no w0 w' → w0.cell? ⟨w.heap.size, 0, none⟩ = some (.slice a0 l0 k0) → w0.cell? ⟨w.heap.size, 1, none⟩ = some (.slice a1 l1 k1) → w0.cell? ⟨w.heap.size, 2, none⟩ = some (.slice a2 l2 k2) → w0.cell? ⟨w.heap.size, 3, none⟩ = some (.int .i64 e) → w0.cell? ⟨w.heap.size, 4, none⟩ = some (.int .i64 o) → w0.cell? ⟨w.heap.size, 5, none⟩ = some (.int .i64 t) → (w'.cell? ⟨w.heap.size, 0, none⟩ = some (.slice a0 l0 k0) ∧ w'.cell? ⟨w.heap.size, 1, none⟩ = some (.slice a1 l1 k1) ∧ w'.cell? ⟨w.heap.size, 2, none⟩ = some (.slice a2 l2 k2) ∧ w'.cell? ⟨w.heap.size, 3, none⟩ = some (.int .i64 e) ∧ w'.cell? ⟨w.heap.size, 4, none⟩ = some (.int .i64 o) ∧ w'.cell? ⟨w.heap.size, 5, none⟩ = some (.int .i64 t)) from fun _ _ h a0 a1 a2 a3 a4 a5 => ⟨h.keepc a0, h.keepc a1, h.keepc a2, h.keepc a3, h.keepc a4, h.keepc a5⟩)
  obtain ⟨W, hW⟩ : ∃ W, W = (w.alloc (.cells #[.slice a0 l0 k0, .slice a1 l1 k1, .slice a2 l2 k2, .int .i64 e, .int .i64 o, .int .i64 t] 34 (0, 0))) := ⟨_, rfl⟩
  have HF := Lib.hid (show Fr no w W by rw [hW]; exact (Fr.refl no w).alloc _)
  have c0 : W.cell? ⟨w.heap.size, 0, none⟩ = some (.slice a0 l0 k0) := by rw [hW]; go_simp
  have c1 : W.cell? ⟨w.heap.size, 1, none⟩ = some (.slice a1 l1 k1) := by rw [hW]; go_simp
  have c2 : W.cell? ⟨w.heap.size, 2, none⟩ = some (.slice a2 l2 k2) := by rw [hW]; go_simp
  have c3 : W.cell? ⟨w.heap.size, 3, none⟩ = some (.int .i64 e) := by rw [hW]; go_simp
  have c4 : W.cell? ⟨w.heap.size, 4, none⟩ = some (.int .i64 o) := by rw [hW]; go_simp
  have c5 : W.cell? ⟨w.heap.size, 5, none⟩ = some (.int .i64 t) := by rw [hW]; go_simp
  have HW := Lib.hid hW
  clear hW
  have K24 := fun w' (h : Fr no w w') => checkR_any a0 l0 k0 a1 l1 k1 a2 l2 k2 e o t ps zs ws w' (hp.kept h) (hz.kept h) (hw.kept h)
  rw [g0, show ckE true = 0 from rfl] at K24
  have K24 := Lib.hid K24
  have g2 : 0 ≤ nd := by omega
  clear hp hz hw g0
  go_enter Try.func31, Try.ntmps31
  go_wp2_with fail
  rw [← HW.out]
  refine (K24.out _ HF.out).mono ?_
  rintro e y1 ⟨rfl, f1⟩
  obtain ⟨d1_0, d1_1, d1_2, d1_3, d1_4, d1_5⟩ := KS.out _ _ f1 c0 c1 c2 c3 c4 c5
  have HF1 := Lib.hid (HF.out.noTrans f1)
  clear f1 c0 c1 c2 c3 c4 c5
  go_wp2_with fail
  go_ret2
  exact ⟨rfl, HF1.out⟩
theorem hears_any (a0 : Option Addr) (l0 k0 : Nat) (a1 : Option Addr) (l1 k1 : Nat) (a2 : Option Addr) (l2 k2 : Nat) (e o t : Int) (ps : List Pt) (zs : List Int) (ws : List Wl) (nd : Int) (w : World) (hp : PtsIn w a0 l0 ps) (hz : IntsIn w a1 l1 zs) (hw : WlsIn w a2 l2 ws) : Calls Try.prog 30 #[.agg #[.slice a0 l0 k0, .slice a1 l1 k1, .slice a2 l2 k2, .int .i64 e, .int .i64 o, .int .i64 t], .int .i64 nd] w fun e' w' => HeaAll w w' (heE (ckB l0 l1 l2 e o t ps zs ws) (hnB l0 nd)) (heL (ckB l0 l1 l2 e o t ps zs ws) (hnB l0 nd) (hL e o t ps zs ws nd.toNat l0)) e' := by
  have nil : ∀ w' : World, Own w.heap.size w' (.slice none 0 0) [] := fun w' => World.ownsRow_nil _ _ _ _
  cases g0 : (ckB l0 l1 l2 e o t ps zs ws)
  · refine (hears_0 a0 l0 k0 a1 l1 k1 a2 l2 k2 e o t ps zs ws nd w hp hz hw g0).mono ?_
    rintro e' w' ⟨rfl, f⟩
    exact ⟨_, rfl, nil w', f⟩
  cases g1 : hnB l0 nd
  · refine (hears_1 a0 l0 k0 a1 l1 k1 a2 l2 k2 e o t ps zs ws nd w hp hz hw g0 g1).mono ?_
    rintro e' w' ⟨rfl, f⟩
    exact ⟨_, rfl, nil w', f⟩
  · obtain ⟨h0, h1⟩ := hnB_t g1
    obtain ⟨b, rfl⟩ := Int.eq_ofNat_of_zero_le h0
    exact hears_2 a0 l0 k0 a1 l1 k1 a2 l2 k2 e o t ps zs ws b w hp hz hw g0 (by omega)
theorem hearsR_any (a0 : Option Addr) (l0 k0 : Nat) (a1 : Option Addr) (l1 k1 : Nat) (a2 : Option Addr) (l2 k2 : Nat) (e o t : Int) (ps : List Pt) (zs : List Int) (ws : List Wl) (nd : Int) (w : World) (hp : PtsIn w a0 l0 ps) (hz : IntsIn w a1 l1 zs) (hw : WlsIn w a2 l2 ws) : Calls Try.prog 31 #[.agg #[.slice a0 l0 k0, .slice a1 l1 k1, .slice a2 l2 k2, .int .i64 e, .int .i64 o, .int .i64 t], .int .i64 nd] w fun e' w' => HeaAll w w' (heE (ckB l0 l1 l2 e o t ps zs ws) (hnB l0 nd)) (heL (ckB l0 l1 l2 e o t ps zs ws) (hnB l0 nd) (hL e o t ps zs ws nd.toNat l0)) e' := by
  have nil : ∀ w' : World, Own w.heap.size w' (.slice none 0 0) [] := fun w' => World.ownsRow_nil _ _ _ _
  cases g0 : (ckB l0 l1 l2 e o t ps zs ws)
  · refine (hearsR_0 a0 l0 k0 a1 l1 k1 a2 l2 k2 e o t ps zs ws nd w hp hz hw g0).mono ?_
    rintro e' w' ⟨rfl, f⟩
    exact ⟨_, rfl, nil w', f⟩
  cases g1 : hnB l0 nd
  · have g2 : nd < 0 ∨ (l0 : Int) ≤ nd := by
      unfold hnB at g1
      rw [← Bool.not_eq_true, inR_t] at g1
      omega
    rcases g2 with g2 | g2
    · refine (hearsR_1a a0 l0 k0 a1 l1 k1 a2 l2 k2 e o t ps zs ws nd w hp hz hw g0 g2).mono ?_
      rintro e' w' ⟨rfl, f⟩
      exact ⟨_, rfl, nil w', f⟩
    · refine (hearsR_1b a0 l0 k0 a1 l1 k1 a2 l2 k2 e o t ps zs ws nd w hp hz hw g0 g2).mono ?_
      rintro e' w' ⟨rfl, f⟩
      exact ⟨_, rfl, nil w', f⟩
  · obtain ⟨h0, h1⟩ := hnB_t g1
    obtain ⟨b, rfl⟩ := Int.eq_ofNat_of_zero_le h0
    exact hearsR_2 a0 l0 k0 a1 l1 k1 a2 l2 k2 e o t ps zs ws b w hp hz hw g0 (by omega)
set_option maxRecDepth 100000 in
set_option maxHeartbeats 8000000 in
theorem finds_law (a0 : Option Addr) (l0 k0 : Nat) (a1 : Option Addr) (l1 k1 : Nat) (a2 : Option Addr) (l2 k2 : Nat) (e o t : Int) (ps : List Pt) (zs : List Int) (ws : List Wl) (x y nd : Int) (w : World) (hp : PtsIn w a0 l0 ps) (hz : IntsIn w a1 l1 zs) (hw : WlsIn w a2 l2 ws) : Calls Try.prog 5 #[.agg #[.slice a0 l0 k0, .slice a1 l1 k1, .slice a2 l2 k2, .int .i64 e, .int .i64 o, .int .i64 t], .agg #[.int .i64 x, .int .i64 y], .int .i64 nd] w fun e' w' => e' = .returned (.bool true) ∧ Below w.heap.size w w' := by
  have KS := Lib.hid (show ∀ w0 w' : World, Fr no w0 w' → w0.cell? ⟨w.heap.size, 0, none⟩ = some (.slice a0 l0 k0) → w0.cell? ⟨w.heap.size, 1, none⟩ = some (.slice a1 l1 k1) → w0.cell? ⟨w.heap.size, 2, none⟩ = some (.slice a2 l2 k2) → w0.cell? ⟨w.heap.size, 3, none⟩ = some (.int .i64 e) → w0.cell? ⟨w.heap.size, 4, none⟩ = some (.int .i64 o) → w0.cell? ⟨w.heap.size, 5, none⟩ = some (.int .i64 t) → w0.cell? ⟨w.heap.size + 1, 0, none⟩ = some (.int .i64 x) → w0.cell? ⟨w.heap.size + 1, 1, none⟩ = some (.int .i64 y) → (w'.cell? ⟨w.heap.size, 0, none⟩ = some (.slice a0 l0 k0) ∧ w'.cell? ⟨w.heap.size, 1, none⟩ = some (.slice a1 l1 k1) ∧ w'.cell? ⟨w.heap.size, 2, none⟩ = some (.slice a2 l2 k2) ∧ w'.cell? ⟨w.heap.size, 3, none⟩ = some (.int .i64 e) ∧ w'.cell? ⟨w.heap.size, 4, none⟩ = some (.int .i64 o) ∧ w'.cell? ⟨w.heap.size, 5, none⟩ = some (.int .i64 t) ∧ w'.cell? ⟨w.heap.size + 1, 0, none⟩ = some (.int .i64 x) ∧ w'.cell? ⟨w.heap.size + 1, 1, none⟩ = some (.int .i64 y)) from fun _ _ h a0 a1 a2 a3 a4 a5 a6 a7 => ⟨h.keepc a0, h.keepc a1, h.keepc a2, h.keepc a3, h.keepc a4, h.keepc a5, h.keepc a6, h.keepc a7⟩)
  obtain ⟨W, hW⟩ : ∃ W, W = ((w.alloc (.cells #[.slice a0 l0 k0, .slice a1 l1 k1, .slice a2 l2 k2, .int .i64 e, .int .i64 o, .int .i64 t] 34 (0, 0))).alloc (.cells #[.int .i64 x, .int .i64 y] 23 (0, 0))) := ⟨_, rfl⟩
  have HF := Lib.hid (show Fr no w W by rw [hW]; exact ((Fr.refl no w).alloc _).alloc _)
  have c0 : W.cell? ⟨w.heap.size, 0, none⟩ = some (.slice a0 l0 k0) := by rw [hW]; go_simp
  have c1 : W.cell? ⟨w.heap.size, 1, none⟩ = some (.slice a1 l1 k1) := by rw [hW]; go_simp
  have c2 : W.cell? ⟨w.heap.size, 2, none⟩ = some (.slice a2 l2 k2) := by rw [hW]; go_simp
  have c3 : W.cell? ⟨w.heap.size, 3, none⟩ = some (.int .i64 e) := by rw [hW]; go_simp
  have c4 : W.cell? ⟨w.heap.size, 4, none⟩ = some (.int .i64 o) := by rw [hW]; go_simp
  have c5 : W.cell? ⟨w.heap.size, 5, none⟩ = some (.int .i64 t) := by rw [hW]; go_simp
  have c6 : W.cell? ⟨w.heap.size + 1, 0, none⟩ = some (.int .i64 x) := by rw [hW]; go_simp
  have c7 : W.cell? ⟨w.heap.size + 1, 1, none⟩ = some (.int .i64 y) := by rw [hW]; go_simp
  have HW := Lib.hid hW
  clear hW
  have N1 := fun w' (h : Fr no w w') => nearest_any a0 l0 k0 a1 l1 k1 a2 l2 k2 e o t ps zs ws x y w' (hp.kept h) (hz.kept h) (hw.kept h)
  have N2 := fun w' (h : Fr no w w') => nearestR_any a0 l0 k0 a1 l1 k1 a2 l2 k2 e o t ps zs ws x y w' (hp.kept h) (hz.kept h) (hw.kept h)
  have M1 := fun w' (h : Fr no w w') => hears_any a0 l0 k0 a1 l1 k1 a2 l2 k2 e o t ps zs ws nd w' (hp.kept h) (hz.kept h) (hw.kept h)
  have M2 := fun w' (h : Fr no w w') => hearsR_any a0 l0 k0 a1 l1 k1 a2 l2 k2 e o t ps zs ws nd w' (hp.kept h) (hz.kept h) (hw.kept h)
  have HLn : ∀ (w0 : World), (heL (ckB l0 l1 l2 e o t ps zs ws) (hnB l0 nd) (hL e o t ps zs ws nd.toNat l0)).length ≤ l0 := fun _ => by
    unfold heL
    have := hL_len e o t ps zs ws nd.toNat l0
    split
    · split
      · exact this
      · exact Nat.zero_le _
    · exact Nat.zero_le _
  have HLn := HLn w
  generalize nrV (ckB l0 l1 l2 e o t ps zs ws) (ptB x y) (nb ps x y l0) = V1 at *
  generalize nrE (ckB l0 l1 l2 e o t ps zs ws) (ptB x y) = E1 at *
  generalize heE (ckB l0 l1 l2 e o t ps zs ws) (hnB l0 nd) = E2 at *
  generalize heL (ckB l0 l1 l2 e o t ps zs ws) (hnB l0 nd) (hL e o t ps zs ws nd.toNat l0) = L at *
  have N1 := Lib.hid N1
  have N2 := Lib.hid N2
  have M1 := Lib.hid M1
  have M2 := Lib.hid M2
  have HLn := Lib.hid HLn
  clear hp hz hw
  go_enter Try.func5, Try.ntmps5
  go_wp2_with fail
  rw [← HW.out]
  refine (awake_any _).mono ?_
  rintro e y1 ⟨rfl, f1⟩
  obtain ⟨d1_0, d1_1, d1_2, d1_3, d1_4, d1_5, d1_6, d1_7⟩ := KS.out _ _ f1 c0 c1 c2 c3 c4 c5 c6 c7
  have HF1 := Lib.hid (HF.out.noTrans f1)
  clear f1 c0 c1 c2 c3 c4 c5 c6 c7
  go_wp2_with fail
  refine (few_any a0 l0 k0 a1 l1 k1 a2 l2 k2 e o t _).mono ?_
  rintro e' y2 ⟨rfl, f2⟩
  obtain ⟨d2_0, d2_1, d2_2, d2_3, d2_4, d2_5, d2_6, d2_7⟩ := KS.out _ _ f2 d1_0 d1_1 d1_2 d1_3 d1_4 d1_5 d1_6 d1_7
  have HF2 := Lib.hid (HF1.out.noTrans f2)
  clear f2 d1_0 d1_1 d1_2 d1_3 d1_4 d1_5 d1_6 d1_7
  cases hfew : decide (l0 ≤ 40 ∧ l1 ≤ 40 ∧ l2 ≤ 40)
  · clear hfew
    go_wp2_with fail
    go_ret
    exact ⟨rfl, HF2.out.belowNone (Nat.le_refl _)⟩
  have HL0 := Lib.hid (of_decide_eq_true hfew).1
  clear hfew
  go_wp2_with fail
  refine (N1.out _ HF2.out).mono ?_
  rintro e y3 ⟨rfl, f3⟩
  obtain ⟨d3_0, d3_1, d3_2, d3_3, d3_4, d3_5, d3_6, d3_7⟩ := KS.out _ _ f3 d2_0 d2_1 d2_2 d2_3 d2_4 d2_5 d2_6 d2_7
  have HF3 := Lib.hid (HF2.out.noTrans f3)
  clear f3 d2_0 d2_1 d2_2 d2_3 d2_4 d2_5 d2_6 d2_7
  go_wp2_with fail
  refine (N2.out _ HF3.out).mono ?_
  rintro e y4 ⟨rfl, f4⟩
  obtain ⟨d4_0, d4_1, d4_2, d4_3, d4_4, d4_5, d4_6, d4_7⟩ := KS.out _ _ f4 d3_0 d3_1 d3_2 d3_3 d3_4 d3_5 d3_6 d3_7
  have HF4 := Lib.hid (HF3.out.noTrans f4)
  clear f4 d3_0 d3_1 d3_2 d3_3 d3_4 d3_5 d3_6 d3_7
  go_wp2_with fail
  refine (M1.out _ HF4.out).mono ?_
  rintro e' y5 ⟨v5, rfl, o5, f5⟩
  obtain ⟨d5_0, d5_1, d5_2, d5_3, d5_4, d5_5, d5_6, d5_7⟩ := KS.out _ _ f5 d4_0 d4_1 d4_2 d4_3 d4_4 d4_5 d4_6 d4_7
  have HO5 := Lib.hid o5
  have HF5 := Lib.hid (HF4.out.noTrans f5)
  clear o5 f5 d4_0 d4_1 d4_2 d4_3 d4_4 d4_5 d4_6 d4_7
  go_wp2_with fail
  refine (M2.out _ HF5.out).mono ?_
  rintro e' y6 ⟨v6, rfl, o6, f6⟩
  obtain ⟨a5, c5, rfl, i5⟩ := own_ints (HO5.out.kept f6)
  obtain ⟨a6, c6, rfl, i6⟩ := own_ints o6
  have KE := Lib.hid (eqs_any a5 a6 L.length c5 c6 _ y6 i5 i6 (by have := HLn.out; have := HL0.out; omega))
  have HF6 := Lib.hid (HF5.out.noTrans f6)
  clear i5 i6 o6 f6 HO5 d5_0 d5_1 d5_2 d5_3 d5_4 d5_5 d5_6 d5_7
  go_wp2_with fail
  refine KE.out.mono ?_
  rintro e' y7 ⟨rfl, f7⟩
  have HF7 := Lib.hid (HF6.out.noTrans f7)
  clear f7
  go_wp2_with fail
  go_ret
  exact ⟨rfl, HF7.out.belowNone (Nat.le_refl _)⟩
end Go.Proofs.Ytljfdoabgbioiaa
