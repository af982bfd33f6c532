/- The law of powers: Check, At, Between and Table are the document's. -/
import Derived.Test.YtljfdoabgbioiaaTbP
namespace Go.Proofs.Ytljfdoabgbioiaa
open Go.RowKit
set_option linter.unusedVariables false

def tbE (B : Bool) : Int := if B = true then 0 else 1
def tbL (B : Bool) (l : List (List Int)) : List (List Int) := if B = true then l else []
set_option maxHeartbeats 2000000 in
theorem table_0 (a0 : Option Addr) (l0 k0 : Nat) (a1 : Option Addr) (l1 k1 : Nat) (a2 : Option Addr) (l2 k2 : Nat) (e o t : Int) (ps : List Pt) (zs : List Int) (ws : List Wl) (w : World) (hp : PtsIn w a0 l0 ps) (hz : IntsIn w a1 l1 zs) (hw : WlsIn w a2 l2 ws) (g0 : (ckB l0 l1 l2 e o t ps zs ws) = false) : Calls Try.prog 22 #[.agg #[.slice a0 l0 k0, .slice a1 l1 k1, .slice a2 l2 k2, .int .i64 e, .int .i64 o, .int .i64 t]] w fun e' w' => e' = .returned (.tuple #[.slice none 0 0, .int .i64 1]) ∧ Fr no w w' := by
  have KS := Lib.hid (show ∀ w0 w' : World, Fr no w0 w' → w0.cell? ⟨w.heap.size, 0, none⟩ = some (.slice a0 l0 k0) → w0.cell? ⟨w.heap.size, 1, none⟩ = some (.slice a1 l1 k1) → w0.cell? ⟨w.heap.size, 2, none⟩ = some (.slice a2 l2 k2) → w0.cell? ⟨w.heap.size, 3, none⟩ = some (.int .i64 e) → w0.cell? ⟨w.heap.size, 4, none⟩ = some (.int .i64 o) → w0.cell? ⟨w.heap.size, 5, none⟩ = some (.int .i64 t) → (w'.cell? ⟨w.heap.size, 0, none⟩ = some (.slice a0 l0 k0) ∧ w'.cell? ⟨w.heap.size, 1, none⟩ = some (.slice a1 l1 k1) ∧ w'.cell? ⟨w.heap.size, 2, none⟩ = some (.slice a2 l2 k2) ∧ w'.cell? ⟨w.heap.size, 3, none⟩ = some (.int .i64 e) ∧ w'.cell? ⟨w.heap.size, 4, none⟩ = some (.int .i64 o) ∧ w'.cell? ⟨w.heap.size, 5, none⟩ = some (.int .i64 t)) from fun _ _ h a0 a1 a2 a3 a4 a5 => ⟨h.keepc a0, h.keepc a1, h.keepc a2, h.keepc a3, h.keepc a4, h.keepc a5⟩)
  obtain ⟨W, hW⟩ : ∃ W, W = (w.alloc (.cells #[.slice a0 l0 k0, .slice a1 l1 k1, .slice a2 l2 k2, .int .i64 e, .int .i64 o, .int .i64 t] 34 (0, 0))) := ⟨_, rfl⟩
  have HF := Lib.hid (show Fr no w W by rw [hW]; exact (Fr.refl no w).alloc _)
  have c0 : W.cell? ⟨w.heap.size, 0, none⟩ = some (.slice a0 l0 k0) := by rw [hW]; go_simp
  have c1 : W.cell? ⟨w.heap.size, 1, none⟩ = some (.slice a1 l1 k1) := by rw [hW]; go_simp
  have c2 : W.cell? ⟨w.heap.size, 2, none⟩ = some (.slice a2 l2 k2) := by rw [hW]; go_simp
  have c3 : W.cell? ⟨w.heap.size, 3, none⟩ = some (.int .i64 e) := by rw [hW]; go_simp
  have c4 : W.cell? ⟨w.heap.size, 4, none⟩ = some (.int .i64 o) := by rw [hW]; go_simp
  have c5 : W.cell? ⟨w.heap.size, 5, none⟩ = some (.int .i64 t) := by rw [hW]; go_simp
  have HW := Lib.hid hW
  clear hW
  have K24 := fun w' (h : Fr no w w') => check_any a0 l0 k0 a1 l1 k1 a2 l2 k2 e o t ps zs ws w' (hp.kept h) (hz.kept h) (hw.kept h)
  rw [g0, show ckE false = 1 from rfl] at K24
  have K24 := Lib.hid K24
  clear hp hz hw g0
  go_enter Try.func22, Try.ntmps22
  go_wp2_with fail
  rw [← HW.out]
  refine (K24.out _ HF.out).mono ?_
  rintro e y1 ⟨rfl, f1⟩
  obtain ⟨d1_0, d1_1, d1_2, d1_3, d1_4, d1_5⟩ := KS.out _ _ f1 c0 c1 c2 c3 c4 c5
  have HF1 := Lib.hid (HF.out.noTrans f1)
  clear f1 c0 c1 c2 c3 c4 c5
  go_wp2_with fail
  go_ret2
  exact ⟨rfl, HF1.out⟩
theorem table_any (a0 : Option Addr) (l0 k0 : Nat) (a1 : Option Addr) (l1 k1 : Nat) (a2 : Option Addr) (l2 k2 : Nat) (e o t : Int) (ps : List Pt) (zs : List Int) (ws : List Wl) (w : World) (hp : PtsIn w a0 l0 ps) (hz : IntsIn w a1 l1 zs) (hw : WlsIn w a2 l2 ws) : Calls Try.prog 22 #[.agg #[.slice a0 l0 k0, .slice a1 l1 k1, .slice a2 l2 k2, .int .i64 e, .int .i64 o, .int .i64 t]] w fun e' w' => TabRes w w' (tbE (ckB l0 l1 l2 e o t ps zs ws)) (tbL (ckB l0 l1 l2 e o t ps zs ws) (tabF e ps zs ws l0 l0)) e' := by
  cases g0 : (ckB l0 l1 l2 e o t ps zs ws)
  · refine (table_0 a0 l0 k0 a1 l1 k1 a2 l2 k2 e o t ps zs ws w hp hz hw g0).mono ?_
    rintro e' w' ⟨rfl, f⟩
    exact ⟨_, [], rfl, World.ownsRow_nil _ _ _ _, ⟨rfl, fun i v l h _ => by simp at h⟩, f⟩
  · exact table_1 a0 l0 k0 a1 l1 k1 a2 l2 k2 e o t ps zs ws w hp hz hw g0
set_option maxHeartbeats 2000000 in
theorem tableR_0 (a0 : Option Addr) (l0 k0 : Nat) (a1 : Option Addr) (l1 k1 : Nat) (a2 : Option Addr) (l2 k2 : Nat) (e o t : Int) (ps : List Pt) (zs : List Int) (ws : List Wl) (w : World) (hp : PtsIn w a0 l0 ps) (hz : IntsIn w a1 l1 zs) (hw : WlsIn w a2 l2 ws) (g0 : (ckB l0 l1 l2 e o t ps zs ws) = false) : Calls Try.prog 23 #[.agg #[.slice a0 l0 k0, .slice a1 l1 k1, .slice a2 l2 k2, .int .i64 e, .int .i64 o, .int .i64 t]] w fun e' w' => e' = .returned (.tuple #[.slice none 0 0, .int .i64 1]) ∧ Fr no w w' := by
  have KS := Lib.hid (show ∀ w0 w' : World, Fr no w0 w' → w0.cell? ⟨w.heap.size, 0, none⟩ = some (.slice a0 l0 k0) → w0.cell? ⟨w.heap.size, 1, none⟩ = some (.slice a1 l1 k1) → w0.cell? ⟨w.heap.size, 2, none⟩ = some (.slice a2 l2 k2) → w0.cell? ⟨w.heap.size, 3, none⟩ = some (.int .i64 e) → w0.cell? ⟨w.heap.size, 4, none⟩ = some (.int .i64 o) → w0.cell? ⟨w.heap.size, 5, none⟩ = some (.int .i64 t) → (w'.cell? ⟨w.heap.size, 0, none⟩ = some (.slice a0 l0 k0) ∧ w'.cell? ⟨w.heap.size, 1, none⟩ = some (.slice a1 l1 k1) ∧ w'.cell? ⟨w.heap.size, 2, none⟩ = some (.slice a2 l2 k2) ∧ w'.cell? ⟨w.heap.size, 3, none⟩ = some (.int .i64 e) ∧ w'.cell? ⟨w.heap.size, 4, none⟩ = some (.int .i64 o) ∧ w'.cell? ⟨w.heap.size, 5, none⟩ = some (.int .i64 t)) from fun _ _ h a0 a1 a2 a3 a4 a5 => ⟨h.keepc a0, h.keepc a1, h.keepc a2, h.keepc a3, h.keepc a4, h.keepc a5⟩)
  obtain ⟨W, hW⟩ : ∃ W, W = (w.alloc (.cells #[.slice a0 l0 k0, .slice a1 l1 k1, .slice a2 l2 k2, .int .i64 e, .int .i64 o, .int .i64 t] 34 (0, 0))) := ⟨_, rfl⟩
  have HF := Lib.hid (show Fr no w W by rw [hW]; exact (Fr.refl no w).alloc _)
  have c0 : W.cell? ⟨w.heap.size, 0, none⟩ = some (.slice a0 l0 k0) := by rw [hW]; go_simp
  have c1 : W.cell? ⟨w.heap.size, 1, none⟩ = some (.slice a1 l1 k1) := by rw [hW]; go_simp
  have c2 : W.cell? ⟨w.heap.size, 2, none⟩ = some (.slice a2 l2 k2) := by rw [hW]; go_simp
  have c3 : W.cell? ⟨w.heap.size, 3, none⟩ = some (.int .i64 e) := by rw [hW]; go_simp
  have c4 : W.cell? ⟨w.heap.size, 4, none⟩ = some (.int .i64 o) := by rw [hW]; go_simp
  have c5 : W.cell? ⟨w.heap.size, 5, none⟩ = some (.int .i64 t) := by rw [hW]; go_simp
  have HW := Lib.hid hW
  clear hW
  have K24 := fun w' (h : Fr no w w') => checkR_any a0 l0 k0 a1 l1 k1 a2 l2 k2 e o t ps zs ws w' (hp.kept h) (hz.kept h) (hw.kept h)
  rw [g0, show ckE false = 1 from rfl] at K24
  have K24 := Lib.hid K24
  clear hp hz hw g0
  go_enter Try.func23, Try.ntmps23
  go_wp2_with fail
  rw [← HW.out]
  refine (K24.out _ HF.out).mono ?_
  rintro e y1 ⟨rfl, f1⟩
  obtain ⟨d1_0, d1_1, d1_2, d1_3, d1_4, d1_5⟩ := KS.out _ _ f1 c0 c1 c2 c3 c4 c5
  have HF1 := Lib.hid (HF.out.noTrans f1)
  clear f1 c0 c1 c2 c3 c4 c5
  go_wp2_with fail
  go_ret2
  exact ⟨rfl, HF1.out⟩
theorem tableR_any (a0 : Option Addr) (l0 k0 : Nat) (a1 : Option Addr) (l1 k1 : Nat) (a2 : Option Addr) (l2 k2 : Nat) (e o t : Int) (ps : List Pt) (zs : List Int) (ws : List Wl) (w : World) (hp : PtsIn w a0 l0 ps) (hz : IntsIn w a1 l1 zs) (hw : WlsIn w a2 l2 ws) : Calls Try.prog 23 #[.agg #[.slice a0 l0 k0, .slice a1 l1 k1, .slice a2 l2 k2, .int .i64 e, .int .i64 o, .int .i64 t]] w fun e' w' => TabRes w w' (tbE (ckB l0 l1 l2 e o t ps zs ws)) (tbL (ckB l0 l1 l2 e o t ps zs ws) (tabF e ps zs ws l0 l0)) e' := by
  cases g0 : (ckB l0 l1 l2 e o t ps zs ws)
  · refine (tableR_0 a0 l0 k0 a1 l1 k1 a2 l2 k2 e o t ps zs ws w hp hz hw g0).mono ?_
    rintro e' w' ⟨rfl, f⟩
    exact ⟨_, [], rfl, World.ownsRow_nil _ _ _ _, ⟨rfl, fun i v l h _ => by simp at h⟩, f⟩
  · exact tableR_1 a0 l0 k0 a1 l1 k1 a2 l2 k2 e o t ps zs ws w hp hz hw g0
theorem tbL_row (l0 l1 l2 : Nat) (e o t : Int) (ps : List Pt) (zs : List Int) (ws : List Wl) : (tbL (ckB l0 l1 l2 e o t ps zs ws) (tabF e ps zs ws l0 l0)).length ≤ 40 ∧ ∀ i, i < (tbL (ckB l0 l1 l2 e o t ps zs ws) (tabF e ps zs ws l0 l0)).length → (rowAt (tbL (ckB l0 l1 l2 e o t ps zs ws) (tabF e ps zs ws l0 l0)) i).length ≤ 40 := by
  cases g0 : (ckB l0 l1 l2 e o t ps zs ws)
  · exact ⟨Nat.zero_le _, fun i hi => by simp [tbL] at hi⟩
  · have hg := (ckB_t g0).n1
    refine ⟨?_, fun i hi => ?_⟩
    · show (tabF e ps zs ws l0 l0).length ≤ 40
      rw [tabF_len]
      omega
    · have hi' : i < l0 := by
        have : i < (tabF e ps zs ws l0 l0).length := hi
        rwa [tabF_len] at this
      show (rowAt (tabF e ps zs ws l0 l0) i).length ≤ 40
      unfold rowAt
      rw [List.getD_eq_getElem?_getD]
      simp only [tabF, List.getElem?_map, List.getElem?_range hi', Option.map_some, Option.getD_some]
      rw [rowF_len]
      omega
set_option maxRecDepth 100000 in
set_option maxHeartbeats 8000000 in
theorem powers_law (a0 : Option Addr) (l0 k0 : Nat) (a1 : Option Addr) (l1 k1 : Nat) (a2 : Option Addr) (l2 k2 : Nat) (e o t : Int) (ps : List Pt) (zs : List Int) (ws : List Wl) (ax ay bx by_ q na nb : Int) (w : World) (hp : PtsIn w a0 l0 ps) (hz : IntsIn w a1 l1 zs) (hw : WlsIn w a2 l2 ws) : Calls Try.prog 4 #[.agg #[.slice a0 l0 k0, .slice a1 l1 k1, .slice a2 l2 k2, .int .i64 e, .int .i64 o, .int .i64 t], .agg #[.int .i64 ax, .int .i64 ay, .int .i64 bx, .int .i64 by_, .int .i64 q, .int .i64 na, .int .i64 nb]] w fun e' w' => e' = .returned (.bool true) ∧ Below w.heap.size w w' := by
  have KS := Lib.hid (show ∀ w0 w' : World, Fr no w0 w' → w0.cell? ⟨w.heap.size, 0, none⟩ = some (.slice a0 l0 k0) → w0.cell? ⟨w.heap.size, 1, none⟩ = some (.slice a1 l1 k1) → w0.cell? ⟨w.heap.size, 2, none⟩ = some (.slice a2 l2 k2) → w0.cell? ⟨w.heap.size, 3, none⟩ = some (.int .i64 e) → w0.cell? ⟨w.heap.size, 4, none⟩ = some (.int .i64 o) → w0.cell? ⟨w.heap.size, 5, none⟩ = some (.int .i64 t) → w0.cell? ⟨w.heap.size + 1, 0, none⟩ = some (.int .i64 ax) → w0.cell? ⟨w.heap.size + 1, 1, none⟩ = some (.int .i64 ay) → w0.cell? ⟨w.heap.size + 1, 2, none⟩ = some (.int .i64 bx) → w0.cell? ⟨w.heap.size + 1, 3, none⟩ = some (.int .i64 by_) → w0.cell? ⟨w.heap.size + 1, 4, none⟩ = some (.int .i64 q) → w0.cell? ⟨w.heap.size + 1, 5, none⟩ = some (.int .i64 na) → w0.cell? ⟨w.heap.size + 1, 6, none⟩ = some (.int .i64 nb) → (w'.cell? ⟨w.heap.size, 0, none⟩ = some (.slice a0 l0 k0) ∧ w'.cell? ⟨w.heap.size, 1, none⟩ = some (.slice a1 l1 k1) ∧ w'.cell? ⟨w.heap.size, 2, none⟩ = some (.slice a2 l2 k2) ∧ w'.cell? ⟨w.heap.size, 3, none⟩ = some (.int .i64 e) ∧ w'.cell? ⟨w.heap.size, 4, none⟩ = some (.int .i64 o) ∧ w'.cell? ⟨w.heap.size, 5, none⟩ = some (.int .i64 t) ∧ w'.cell? ⟨w.heap.size + 1, 0, none⟩ = some (.int .i64 ax) ∧ w'.cell? ⟨w.heap.size + 1, 1, none⟩ = some (.int .i64 ay) ∧ w'.cell? ⟨w.heap.size + 1, 2, none⟩ = some (.int .i64 bx) ∧ w'.cell? ⟨w.heap.size + 1, 3, none⟩ = some (.int .i64 by_) ∧ w'.cell? ⟨w.heap.size + 1, 4, none⟩ = some (.int .i64 q) ∧ w'.cell? ⟨w.heap.size + 1, 5, none⟩ = some (.int .i64 na) ∧ w'.cell? ⟨w.heap.size + 1, 6, none⟩ = some (.int .i64 nb)) from fun _ _ h a0 a1 a2 a3 a4 a5 a6 a7 a8 a9 a10 a11 a12 => ⟨h.keepc a0, h.keepc a1, h.keepc a2, h.keepc a3, h.keepc a4, h.keepc a5, h.keepc a6, h.keepc a7, h.keepc a8, h.keepc a9, h.keepc a10, h.keepc a11, h.keepc a12⟩)
  obtain ⟨W, hW⟩ : ∃ W, W = ((w.alloc (.cells #[.slice a0 l0 k0, .slice a1 l1 k1, .slice a2 l2 k2, .int .i64 e, .int .i64 o, .int .i64 t] 34 (0, 0))).alloc (.cells #[.int .i64 ax, .int .i64 ay, .int .i64 bx, .int .i64 by_, .int .i64 q, .int .i64 na, .int .i64 nb] 36 (0, 0))) := ⟨_, rfl⟩
  have HF := Lib.hid (show Fr no w W by rw [hW]; exact ((Fr.refl no w).alloc _).alloc _)
  have c0 : W.cell? ⟨w.heap.size, 0, none⟩ = some (.slice a0 l0 k0) := by rw [hW]; go_simp
  have c1 : W.cell? ⟨w.heap.size, 1, none⟩ = some (.slice a1 l1 k1) := by rw [hW]; go_simp
  have c2 : W.cell? ⟨w.heap.size, 2, none⟩ = some (.slice a2 l2 k2) := by rw [hW]; go_simp
  have c3 : W.cell? ⟨w.heap.size, 3, none⟩ = some (.int .i64 e) := by rw [hW]; go_simp
  have c4 : W.cell? ⟨w.heap.size, 4, none⟩ = some (.int .i64 o) := by rw [hW]; go_simp
  have c5 : W.cell? ⟨w.heap.size, 5, none⟩ = some (.int .i64 t) := by rw [hW]; go_simp
  have c6 : W.cell? ⟨w.heap.size + 1, 0, none⟩ = some (.int .i64 ax) := by rw [hW]; go_simp
  have c7 : W.cell? ⟨w.heap.size + 1, 1, none⟩ = some (.int .i64 ay) := by rw [hW]; go_simp
  have c8 : W.cell? ⟨w.heap.size + 1, 2, none⟩ = some (.int .i64 bx) := by rw [hW]; go_simp
  have c9 : W.cell? ⟨w.heap.size + 1, 3, none⟩ = some (.int .i64 by_) := by rw [hW]; go_simp
  have c10 : W.cell? ⟨w.heap.size + 1, 4, none⟩ = some (.int .i64 q) := by rw [hW]; go_simp
  have c11 : W.cell? ⟨w.heap.size + 1, 5, none⟩ = some (.int .i64 na) := by rw [hW]; go_simp
  have c12 : W.cell? ⟨w.heap.size + 1, 6, none⟩ = some (.int .i64 nb) := by rw [hW]; go_simp
  have HW := Lib.hid hW
  clear hW
  have A1 := fun w' (h : Fr no w w') => at_any a0 l0 k0 a1 l1 k1 a2 l2 k2 e o t ps zs ws ax ay bx by_ q w' (hp.kept h) (hz.kept h) (hw.kept h)
  have A2 := fun w' (h : Fr no w w') => atRR_any a0 l0 k0 a1 l1 k1 a2 l2 k2 e o t ps zs ws ax ay bx by_ q w' (hp.kept h) (hz.kept h) (hw.kept h)
  have B1 := fun w' (h : Fr no w w') => betweenW_any a0 l0 k0 a1 l1 k1 a2 l2 k2 e o t ps zs ws na nb w' (hp.kept h) (hz.kept h) (hw.kept h)
  have B2 := fun w' (h : Fr no w w') => betweenR_any a0 l0 k0 a1 l1 k1 a2 l2 k2 e o t ps zs ws na nb w' (hp.kept h) (hz.kept h) (hw.kept h)
  have C1 := fun w' (h : Fr no w w') => check_any a0 l0 k0 a1 l1 k1 a2 l2 k2 e o t ps zs ws w' (hp.kept h) (hz.kept h) (hw.kept h)
  have C2 := fun w' (h : Fr no w w') => checkR_any a0 l0 k0 a1 l1 k1 a2 l2 k2 e o t ps zs ws w' (hp.kept h) (hz.kept h) (hw.kept h)
  have T1 := fun w' (h : Fr no w w') => table_any a0 l0 k0 a1 l1 k1 a2 l2 k2 e o t ps zs ws w' (hp.kept h) (hz.kept h) (hw.kept h)
  have T2 := fun w' (h : Fr no w w') => tableR_any a0 l0 k0 a1 l1 k1 a2 l2 k2 e o t ps zs ws w' (hp.kept h) (hz.kept h) (hw.kept h)
  have HR := tbL_row l0 l1 l2 e o t ps zs ws
  generalize atV (ckB l0 l1 l2 e o t ps zs ws) e ax ay bx by_ q ws = V1 at *
  generalize atE (ckB l0 l1 l2 e o t ps zs ws) ax ay bx by_ q = E1 at *
  generalize bwV (ckB l0 l1 l2 e o t ps zs ws) l0 e ps zs ws na nb = V2 at *
  generalize bwE (ckB l0 l1 l2 e o t ps zs ws) l0 na nb = E2 at *
  generalize ckE (ckB l0 l1 l2 e o t ps zs ws) = E3 at *
  generalize tbE (ckB l0 l1 l2 e o t ps zs ws) = E4 at *
  generalize tbL (ckB l0 l1 l2 e o t ps zs ws) (tabF e ps zs ws l0 l0) = Z at *
  have A1 := Lib.hid A1
  have A2 := Lib.hid A2
  have B1 := Lib.hid B1
  have B2 := Lib.hid B2
  have C1 := Lib.hid C1
  have C2 := Lib.hid C2
  have T1 := Lib.hid T1
  have T2 := Lib.hid T2
  have HR := Lib.hid HR
  clear hp hz hw
  go_enter Try.func4, Try.ntmps4
  go_wp2_with fail
  rw [← HW.out]
  refine (awake_any _).mono ?_
  rintro e y1 ⟨rfl, f1⟩
  obtain ⟨d1_0, d1_1, d1_2, d1_3, d1_4, d1_5, d1_6, d1_7, d1_8, d1_9, d1_10, d1_11, d1_12⟩ := KS.out _ _ f1 c0 c1 c2 c3 c4 c5 c6 c7 c8 c9 c10 c11 c12
  have HF1 := Lib.hid (HF.out.noTrans f1)
  clear f1 c0 c1 c2 c3 c4 c5 c6 c7 c8 c9 c10 c11 c12
  go_wp2_with fail
  refine (few_any a0 l0 k0 a1 l1 k1 a2 l2 k2 e o t _).mono ?_
  rintro e' y2 ⟨rfl, f2⟩
  obtain ⟨d2_0, d2_1, d2_2, d2_3, d2_4, d2_5, d2_6, d2_7, d2_8, d2_9, d2_10, d2_11, d2_12⟩ := KS.out _ _ f2 d1_0 d1_1 d1_2 d1_3 d1_4 d1_5 d1_6 d1_7 d1_8 d1_9 d1_10 d1_11 d1_12
  have HF2 := Lib.hid (HF1.out.noTrans f2)
  clear f2 d1_0 d1_1 d1_2 d1_3 d1_4 d1_5 d1_6 d1_7 d1_8 d1_9 d1_10 d1_11 d1_12
  cases hfew : decide (l0 ≤ 40 ∧ l1 ≤ 40 ∧ l2 ≤ 40)
  · clear hfew
    go_wp2_with fail
    go_ret
    exact ⟨rfl, HF2.out.belowNone (Nat.le_refl _)⟩
  clear hfew
  go_wp2_with fail
  refine (A1.out _ HF2.out).mono ?_
  rintro e y3 ⟨rfl, f3⟩
  obtain ⟨d3_0, d3_1, d3_2, d3_3, d3_4, d3_5, d3_6, d3_7, d3_8, d3_9, d3_10, d3_11, d3_12⟩ := KS.out _ _ f3 d2_0 d2_1 d2_2 d2_3 d2_4 d2_5 d2_6 d2_7 d2_8 d2_9 d2_10 d2_11 d2_12
  have HF3 := Lib.hid (HF2.out.noTrans f3)
  clear f3 d2_0 d2_1 d2_2 d2_3 d2_4 d2_5 d2_6 d2_7 d2_8 d2_9 d2_10 d2_11 d2_12
  go_wp2_with fail
  refine (A2.out _ HF3.out).mono ?_
  rintro e y4 ⟨rfl, f4⟩
  obtain ⟨d4_0, d4_1, d4_2, d4_3, d4_4, d4_5, d4_6, d4_7, d4_8, d4_9, d4_10, d4_11, d4_12⟩ := KS.out _ _ f4 d3_0 d3_1 d3_2 d3_3 d3_4 d3_5 d3_6 d3_7 d3_8 d3_9 d3_10 d3_11 d3_12
  have HF4 := Lib.hid (HF3.out.noTrans f4)
  clear f4 d3_0 d3_1 d3_2 d3_3 d3_4 d3_5 d3_6 d3_7 d3_8 d3_9 d3_10 d3_11 d3_12
  go_wp2_with fail
  refine (B1.out _ HF4.out).mono ?_
  rintro e y5 ⟨rfl, f5⟩
  obtain ⟨d5_0, d5_1, d5_2, d5_3, d5_4, d5_5, d5_6, d5_7, d5_8, d5_9, d5_10, d5_11, d5_12⟩ := KS.out _ _ f5 d4_0 d4_1 d4_2 d4_3 d4_4 d4_5 d4_6 d4_7 d4_8 d4_9 d4_10 d4_11 d4_12
  have HF5 := Lib.hid (HF4.out.noTrans f5)
  clear f5 d4_0 d4_1 d4_2 d4_3 d4_4 d4_5 d4_6 d4_7 d4_8 d4_9 d4_10 d4_11 d4_12
  go_wp2_with fail
  refine (B2.out _ HF5.out).mono ?_
  rintro e y6 ⟨rfl, f6⟩
  obtain ⟨d6_0, d6_1, d6_2, d6_3, d6_4, d6_5, d6_6, d6_7, d6_8, d6_9, d6_10, d6_11, d6_12⟩ := KS.out _ _ f6 d5_0 d5_1 d5_2 d5_3 d5_4 d5_5 d5_6 d5_7 d5_8 d5_9 d5_10 d5_11 d5_12
  have HF6 := Lib.hid (HF5.out.noTrans f6)
  clear f6 d5_0 d5_1 d5_2 d5_3 d5_4 d5_5 d5_6 d5_7 d5_8 d5_9 d5_10 d5_11 d5_12
  go_wp2_with fail
  refine (T1.out _ HF6.out).mono ?_
  rintro e' y7 ⟨v7, vs7, rfl, o7, r7, f7⟩
  obtain ⟨d7_0, d7_1, d7_2, d7_3, d7_4, d7_5, d7_6, d7_7, d7_8, d7_9, d7_10, d7_11, d7_12⟩ := KS.out _ _ f7 d6_0 d6_1 d6_2 d6_3 d6_4 d6_5 d6_6 d6_7 d6_8 d6_9 d6_10 d6_11 d6_12
  obtain ⟨a7, c7, rfl, t7⟩ := listV_tab o7 r7
  have HT7 := Lib.hid t7
  have HF7 := Lib.hid (HF6.out.noTrans f7)
  clear o7 r7 f7 t7 d6_0 d6_1 d6_2 d6_3 d6_4 d6_5 d6_6 d6_7 d6_8 d6_9 d6_10 d6_11 d6_12
  go_wp2_with fail
  refine (T2.out _ HF7.out).mono ?_
  rintro e' y8 ⟨v8, vs8, rfl, o8, r8, f8⟩
  obtain ⟨d8_0, d8_1, d8_2, d8_3, d8_4, d8_5, d8_6, d8_7, d8_8, d8_9, d8_10, d8_11, d8_12⟩ := KS.out _ _ f8 d7_0 d7_1 d7_2 d7_3 d7_4 d7_5 d7_6 d7_7 d7_8 d7_9 d7_10 d7_11 d7_12
  obtain ⟨a8, c8, rfl, t8⟩ := listV_tab o8 r8
  have HT8 := Lib.hid t8
  have HT7 := Lib.hid (HT7.out.kept f8)
  have HF8 := Lib.hid (HF7.out.noTrans f8)
  clear o8 r8 f8 t8 d7_0 d7_1 d7_2 d7_3 d7_4 d7_5 d7_6 d7_7 d7_8 d7_9 d7_10 d7_11 d7_12
  have KE := Lib.hid (fun w' (h : Fr no y8 w') => equalFunc_any a7 a8 Z.length c7 c8 Z w' (HT7.out.kept h) (HT8.out.kept h) HR.out.1 HR.out.2)
  go_wp2_with fail
  have tokg1 : True := trivial
  have tokg2 : True := trivial
  have tokg3 : True := trivial
  go_region_held3 (fun w' => w'.cell? ⟨w.heap.size, 0, none⟩ = some (.slice a0 l0 k0) ∧ w'.cell? ⟨w.heap.size, 1, none⟩ = some (.slice a1 l1 k1) ∧ w'.cell? ⟨w.heap.size, 2, none⟩ = some (.slice a2 l2 k2) ∧ w'.cell? ⟨w.heap.size, 3, none⟩ = some (.int .i64 e) ∧ w'.cell? ⟨w.heap.size, 4, none⟩ = some (.int .i64 o) ∧ w'.cell? ⟨w.heap.size, 5, none⟩ = some (.int .i64 t)) (go_keep)
    (first
      | (go_at_call 24; have _tk := tokg1; refine (C1.out _ (HF8.out.drew)).mono ?_; rintro e z1 ⟨rfl, g1⟩; clear _tk tokg1; obtain ⟨kg10, kg11, kg12, kg13, kg14, kg15, kg16, kg17, kg18, kg19, kg110, kg111, kg112⟩ := KS.out _ _ g1 d8_0 d8_1 d8_2 d8_3 d8_4 d8_5 d8_6 d8_7 d8_8 d8_9 d8_10 d8_11 d8_12)
      | (go_at_call 25; have _tk := tokg2; refine (C2.out _ (HF8.out.drew.noTrans g1)).mono ?_; rintro e z2 ⟨rfl, g2⟩; clear _tk tokg2; obtain ⟨kg20, kg21, kg22, kg23, kg24, kg25, kg26, kg27, kg28, kg29, kg210, kg211, kg212⟩ := KS.out _ _ g2 kg10 kg11 kg12 kg13 kg14 kg15 kg16 kg17 kg18 kg19 kg110 kg111 kg112)
      | (go_at_call 26; have _tk := tokg3; refine (KE.out _ (((Fr.refl no y8).drew.noTrans g1).noTrans g2)).mono ?_; rintro e z3 ⟨rfl, g3⟩; clear _tk tokg3; obtain ⟨kg30, kg31, kg32, kg33, kg34, kg35, kg36, kg37, kg38, kg39, kg310, kg311, kg312⟩ := KS.out _ _ g3 kg20 kg21 kg22 kg23 kg24 kg25 kg26 kg27 kg28 kg29 kg210 kg211 kg212))
  have HF9 := Lib.hid (((HF8.out.drew.noTrans g1).noTrans g2).noTrans g3)
  clear g1 g2 g3
  go_wp2_with fail
  go_ret
  exact ⟨rfl, HF9.out.belowNone (Nat.le_refl _)⟩
end Go.Proofs.Ytljfdoabgbioiaa
