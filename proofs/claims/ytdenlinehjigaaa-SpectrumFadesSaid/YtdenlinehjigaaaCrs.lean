/- Crosses. -/
import Derived.Test.YtdenlinehjigaaaOvl
namespace Go.Proofs.Ytdenlinehjigaaa
open Go.RowKit
set_option linter.unusedVariables false

def sdB (ax ay bx by_ px py qx qy : Int) : Bool := eqS (tn ax ay bx by_ px py) (tn ax ay bx by_ qx qy)
def crB (ax ay bx by_ cx cy dx dy : Int) : Bool := ovB ax bx cx dx && (ovB ay by_ cy dy && (!sdB ax ay bx by_ cx cy dx dy && !sdB cx cy dx dy ax ay bx by_))
set_option maxHeartbeats 4000000 in
theorem crosses_0 (ax ay bx by_ cx cy dx dy f : Int) (w : World) (h1 : nr ax) (h2 : nr ay) (h3 : nr bx) (h4 : nr by_) (h5 : nr cx) (h6 : nr cy) (h7 : nr dx) (h8 : nr dy) (g0 : ovB ax bx cx dx = false) :
    Calls Try.prog 67 #[.agg #[.int .i64 ax, .int .i64 ay], .agg #[.int .i64 bx, .int .i64 by_], .agg #[.int .i64 cx, .int .i64 cy, .int .i64 dx, .int .i64 dy, .int .i64 f]] w fun e w' => e = .returned (.bool false) ∧ Fr no w w' := by
  have HV := Lib.hid (show (false : Bool) = false from rfl)
  have KO1 := Lib.hid (fun w => overlap_any ax bx cx dx w)
  rw [g0] at KO1
  clear h1 h2 h3 h4 h5 h6 h7 h8 g0
  have KS := Lib.hid (show ∀ w0 w' : World, Fr no w0 w' → w0.cell? ⟨w.heap.size, 0, none⟩ = some (.int .i64 ax) → w0.cell? ⟨w.heap.size, 1, none⟩ = some (.int .i64 ay) → w0.cell? ⟨w.heap.size + 1, 0, none⟩ = some (.int .i64 bx) → w0.cell? ⟨w.heap.size + 1, 1, none⟩ = some (.int .i64 by_) → w0.cell? ⟨w.heap.size + 1 + 1, 0, none⟩ = some (.int .i64 cx) → w0.cell? ⟨w.heap.size + 1 + 1, 1, none⟩ = some (.int .i64 cy) → w0.cell? ⟨w.heap.size + 1 + 1, 2, none⟩ = some (.int .i64 dx) → w0.cell? ⟨w.heap.size + 1 + 1, 3, none⟩ = some (.int .i64 dy) → w0.cell? ⟨w.heap.size + 1 + 1, 4, none⟩ = some (.int .i64 f) → (w'.cell? ⟨w.heap.size, 0, none⟩ = some (.int .i64 ax) ∧ w'.cell? ⟨w.heap.size, 1, none⟩ = some (.int .i64 ay) ∧ w'.cell? ⟨w.heap.size + 1, 0, none⟩ = some (.int .i64 bx) ∧ w'.cell? ⟨w.heap.size + 1, 1, none⟩ = some (.int .i64 by_) ∧ w'.cell? ⟨w.heap.size + 1 + 1, 0, none⟩ = some (.int .i64 cx) ∧ w'.cell? ⟨w.heap.size + 1 + 1, 1, none⟩ = some (.int .i64 cy) ∧ w'.cell? ⟨w.heap.size + 1 + 1, 2, none⟩ = some (.int .i64 dx) ∧ w'.cell? ⟨w.heap.size + 1 + 1, 3, none⟩ = some (.int .i64 dy) ∧ w'.cell? ⟨w.heap.size + 1 + 1, 4, none⟩ = some (.int .i64 f)) from fun _ _ h a0 a1 a2 a3 a4 a5 a6 a7 a8 => ⟨h.keepc a0, h.keepc a1, h.keepc a2, h.keepc a3, h.keepc a4, h.keepc a5, h.keepc a6, h.keepc a7, h.keepc a8⟩)
  obtain ⟨W, hW⟩ : ∃ W, W = (((w.alloc (.cells #[.int .i64 ax, .int .i64 ay] 42 (0, 0))).alloc (.cells #[.int .i64 bx, .int .i64 by_] 42 (0, 0))).alloc (.cells #[.int .i64 cx, .int .i64 cy, .int .i64 dx, .int .i64 dy, .int .i64 f] 101 (0, 0))) := ⟨_, rfl⟩
  have HF := Lib.hid (show Fr no w W by rw [hW]; exact (((Fr.refl no w).alloc _).alloc _).alloc _)
  have c0 : W.cell? ⟨w.heap.size, 0, none⟩ = some (.int .i64 ax) := by rw [hW]; go_simp
  have c1 : W.cell? ⟨w.heap.size, 1, none⟩ = some (.int .i64 ay) := by rw [hW]; go_simp
  have c2 : W.cell? ⟨w.heap.size + 1, 0, none⟩ = some (.int .i64 bx) := by rw [hW]; go_simp
  have c3 : W.cell? ⟨w.heap.size + 1, 1, none⟩ = some (.int .i64 by_) := by rw [hW]; go_simp
  have c4 : W.cell? ⟨w.heap.size + 1 + 1, 0, none⟩ = some (.int .i64 cx) := by rw [hW]; go_simp
  have c5 : W.cell? ⟨w.heap.size + 1 + 1, 1, none⟩ = some (.int .i64 cy) := by rw [hW]; go_simp
  have c6 : W.cell? ⟨w.heap.size + 1 + 1, 2, none⟩ = some (.int .i64 dx) := by rw [hW]; go_simp
  have c7 : W.cell? ⟨w.heap.size + 1 + 1, 3, none⟩ = some (.int .i64 dy) := by rw [hW]; go_simp
  have c8 : W.cell? ⟨w.heap.size + 1 + 1, 4, none⟩ = some (.int .i64 f) := by rw [hW]; go_simp
  have HW := Lib.hid hW
  clear hW
  go_enter Try.func67, Try.ntmps67
  go_wp2_with fail
  rw [← HW.out]
  refine (KO1.out _).mono ?_
  rintro e w' ⟨rfl, rfl⟩
  go_wp2_with fail
  go_ret
  exact ⟨rfl, HF.out⟩
set_option maxHeartbeats 4000000 in
theorem crosses_1 (ax ay bx by_ cx cy dx dy f : Int) (w : World) (h1 : nr ax) (h2 : nr ay) (h3 : nr bx) (h4 : nr by_) (h5 : nr cx) (h6 : nr cy) (h7 : nr dx) (h8 : nr dy) (g0 : ovB ax bx cx dx = true) (g1 : ovB ay by_ cy dy = false) :
    Calls Try.prog 67 #[.agg #[.int .i64 ax, .int .i64 ay], .agg #[.int .i64 bx, .int .i64 by_], .agg #[.int .i64 cx, .int .i64 cy, .int .i64 dx, .int .i64 dy, .int .i64 f]] w fun e w' => e = .returned (.bool false) ∧ Fr no w w' := by
  have HV := Lib.hid (show (false : Bool) = false from rfl)
  have KO1 := Lib.hid (fun w => overlap_any ax bx cx dx w)
  rw [g0] at KO1
  have KO2 := Lib.hid (fun w => overlap_any ay by_ cy dy w)
  rw [g1] at KO2
  clear h1 h2 h3 h4 h5 h6 h7 h8 g0 g1
  have KS := Lib.hid (show ∀ w0 w' : World, Fr no w0 w' → w0.cell? ⟨w.heap.size, 0, none⟩ = some (.int .i64 ax) → w0.cell? ⟨w.heap.size, 1, none⟩ = some (.int .i64 ay) → w0.cell? ⟨w.heap.size + 1, 0, none⟩ = some (.int .i64 bx) → w0.cell? ⟨w.heap.size + 1, 1, none⟩ = some (.int .i64 by_) → w0.cell? ⟨w.heap.size + 1 + 1, 0, none⟩ = some (.int .i64 cx) → w0.cell? ⟨w.heap.size + 1 + 1, 1, none⟩ = some (.int .i64 cy) → w0.cell? ⟨w.heap.size + 1 + 1, 2, none⟩ = some (.int .i64 dx) → w0.cell? ⟨w.heap.size + 1 + 1, 3, none⟩ = some (.int .i64 dy) → w0.cell? ⟨w.heap.size + 1 + 1, 4, none⟩ = some (.int .i64 f) → (w'.cell? ⟨w.heap.size, 0, none⟩ = some (.int .i64 ax) ∧ w'.cell? ⟨w.heap.size, 1, none⟩ = some (.int .i64 ay) ∧ w'.cell? ⟨w.heap.size + 1, 0, none⟩ = some (.int .i64 bx) ∧ w'.cell? ⟨w.heap.size + 1, 1, none⟩ = some (.int .i64 by_) ∧ w'.cell? ⟨w.heap.size + 1 + 1, 0, none⟩ = some (.int .i64 cx) ∧ w'.cell? ⟨w.heap.size + 1 + 1, 1, none⟩ = some (.int .i64 cy) ∧ w'.cell? ⟨w.heap.size + 1 + 1, 2, none⟩ = some (.int .i64 dx) ∧ w'.cell? ⟨w.heap.size + 1 + 1, 3, none⟩ = some (.int .i64 dy) ∧ w'.cell? ⟨w.heap.size + 1 + 1, 4, none⟩ = some (.int .i64 f)) from fun _ _ h a0 a1 a2 a3 a4 a5 a6 a7 a8 => ⟨h.keepc a0, h.keepc a1, h.keepc a2, h.keepc a3, h.keepc a4, h.keepc a5, h.keepc a6, h.keepc a7, h.keepc a8⟩)
  obtain ⟨W, hW⟩ : ∃ W, W = (((w.alloc (.cells #[.int .i64 ax, .int .i64 ay] 42 (0, 0))).alloc (.cells #[.int .i64 bx, .int .i64 by_] 42 (0, 0))).alloc (.cells #[.int .i64 cx, .int .i64 cy, .int .i64 dx, .int .i64 dy, .int .i64 f] 101 (0, 0))) := ⟨_, rfl⟩
  have HF := Lib.hid (show Fr no w W by rw [hW]; exact (((Fr.refl no w).alloc _).alloc _).alloc _)
  have c0 : W.cell? ⟨w.heap.size, 0, none⟩ = some (.int .i64 ax) := by rw [hW]; go_simp
  have c1 : W.cell? ⟨w.heap.size, 1, none⟩ = some (.int .i64 ay) := by rw [hW]; go_simp
  have c2 : W.cell? ⟨w.heap.size + 1, 0, none⟩ = some (.int .i64 bx) := by rw [hW]; go_simp
  have c3 : W.cell? ⟨w.heap.size + 1, 1, none⟩ = some (.int .i64 by_) := by rw [hW]; go_simp
  have c4 : W.cell? ⟨w.heap.size + 1 + 1, 0, none⟩ = some (.int .i64 cx) := by rw [hW]; go_simp
  have c5 : W.cell? ⟨w.heap.size + 1 + 1, 1, none⟩ = some (.int .i64 cy) := by rw [hW]; go_simp
  have c6 : W.cell? ⟨w.heap.size + 1 + 1, 2, none⟩ = some (.int .i64 dx) := by rw [hW]; go_simp
  have c7 : W.cell? ⟨w.heap.size + 1 + 1, 3, none⟩ = some (.int .i64 dy) := by rw [hW]; go_simp
  have c8 : W.cell? ⟨w.heap.size + 1 + 1, 4, none⟩ = some (.int .i64 f) := by rw [hW]; go_simp
  have HW := Lib.hid hW
  clear hW
  go_enter Try.func67, Try.ntmps67
  go_wp2_with fail
  rw [← HW.out]
  refine (KO1.out _).mono ?_
  rintro e w' ⟨rfl, rfl⟩
  go_wp2_with fail
  refine (KO2.out _).mono ?_
  rintro e w' ⟨rfl, rfl⟩
  go_wp2_with fail
  go_ret
  exact ⟨rfl, HF.out⟩
set_option maxHeartbeats 4000000 in
theorem crosses_2 (ax ay bx by_ cx cy dx dy f : Int) (w : World) (h1 : nr ax) (h2 : nr ay) (h3 : nr bx) (h4 : nr by_) (h5 : nr cx) (h6 : nr cy) (h7 : nr dx) (h8 : nr dy) (g0 : ovB ax bx cx dx = true) (g1 : ovB ay by_ cy dy = true) (g2 : sdB ax ay bx by_ cx cy dx dy = true) :
    Calls Try.prog 67 #[.agg #[.int .i64 ax, .int .i64 ay], .agg #[.int .i64 bx, .int .i64 by_], .agg #[.int .i64 cx, .int .i64 cy, .int .i64 dx, .int .i64 dy, .int .i64 f]] w fun e w' => e = .returned (.bool false) ∧ Fr no w w' := by
  have HV := Lib.hid (show (false : Bool) = false from rfl)
  have KO1 := Lib.hid (fun w => overlap_any ax bx cx dx w)
  rw [g0] at KO1
  have KO2 := Lib.hid (fun w => overlap_any ay by_ cy dy w)
  rw [g1] at KO2
  have KS1 := Lib.hid (fun w => sides_any ax ay bx by_ cx cy dx dy w h1 h2 h3 h4 h5 h6 h7 h8)
  have KE1 := Lib.hid (fun w => equal_any (tn ax ay bx by_ cx cy) (tn ax ay bx by_ dx dy) w (tn_tri ..) (tn_tri ..))
  unfold sdB at g2
  rw [g2] at KE1
  clear h1 h2 h3 h4 h5 h6 h7 h8 g0 g1 g2
  have KS := Lib.hid (show ∀ w0 w' : World, Fr no w0 w' → w0.cell? ⟨w.heap.size, 0, none⟩ = some (.int .i64 ax) → w0.cell? ⟨w.heap.size, 1, none⟩ = some (.int .i64 ay) → w0.cell? ⟨w.heap.size + 1, 0, none⟩ = some (.int .i64 bx) → w0.cell? ⟨w.heap.size + 1, 1, none⟩ = some (.int .i64 by_) → w0.cell? ⟨w.heap.size + 1 + 1, 0, none⟩ = some (.int .i64 cx) → w0.cell? ⟨w.heap.size + 1 + 1, 1, none⟩ = some (.int .i64 cy) → w0.cell? ⟨w.heap.size + 1 + 1, 2, none⟩ = some (.int .i64 dx) → w0.cell? ⟨w.heap.size + 1 + 1, 3, none⟩ = some (.int .i64 dy) → w0.cell? ⟨w.heap.size + 1 + 1, 4, none⟩ = some (.int .i64 f) → (w'.cell? ⟨w.heap.size, 0, none⟩ = some (.int .i64 ax) ∧ w'.cell? ⟨w.heap.size, 1, none⟩ = some (.int .i64 ay) ∧ w'.cell? ⟨w.heap.size + 1, 0, none⟩ = some (.int .i64 bx) ∧ w'.cell? ⟨w.heap.size + 1, 1, none⟩ = some (.int .i64 by_) ∧ w'.cell? ⟨w.heap.size + 1 + 1, 0, none⟩ = some (.int .i64 cx) ∧ w'.cell? ⟨w.heap.size + 1 + 1, 1, none⟩ = some (.int .i64 cy) ∧ w'.cell? ⟨w.heap.size + 1 + 1, 2, none⟩ = some (.int .i64 dx) ∧ w'.cell? ⟨w.heap.size + 1 + 1, 3, none⟩ = some (.int .i64 dy) ∧ w'.cell? ⟨w.heap.size + 1 + 1, 4, none⟩ = some (.int .i64 f)) from fun _ _ h a0 a1 a2 a3 a4 a5 a6 a7 a8 => ⟨h.keepc a0, h.keepc a1, h.keepc a2, h.keepc a3, h.keepc a4, h.keepc a5, h.keepc a6, h.keepc a7, h.keepc a8⟩)
  obtain ⟨W, hW⟩ : ∃ W, W = (((w.alloc (.cells #[.int .i64 ax, .int .i64 ay] 42 (0, 0))).alloc (.cells #[.int .i64 bx, .int .i64 by_] 42 (0, 0))).alloc (.cells #[.int .i64 cx, .int .i64 cy, .int .i64 dx, .int .i64 dy, .int .i64 f] 101 (0, 0))) := ⟨_, rfl⟩
  have HF := Lib.hid (show Fr no w W by rw [hW]; exact (((Fr.refl no w).alloc _).alloc _).alloc _)
  have c0 : W.cell? ⟨w.heap.size, 0, none⟩ = some (.int .i64 ax) := by rw [hW]; go_simp
  have c1 : W.cell? ⟨w.heap.size, 1, none⟩ = some (.int .i64 ay) := by rw [hW]; go_simp
  have c2 : W.cell? ⟨w.heap.size + 1, 0, none⟩ = some (.int .i64 bx) := by rw [hW]; go_simp
  have c3 : W.cell? ⟨w.heap.size + 1, 1, none⟩ = some (.int .i64 by_) := by rw [hW]; go_simp
  have c4 : W.cell? ⟨w.heap.size + 1 + 1, 0, none⟩ = some (.int .i64 cx) := by rw [hW]; go_simp
  have c5 : W.cell? ⟨w.heap.size + 1 + 1, 1, none⟩ = some (.int .i64 cy) := by rw [hW]; go_simp
  have c6 : W.cell? ⟨w.heap.size + 1 + 1, 2, none⟩ = some (.int .i64 dx) := by rw [hW]; go_simp
  have c7 : W.cell? ⟨w.heap.size + 1 + 1, 3, none⟩ = some (.int .i64 dy) := by rw [hW]; go_simp
  have c8 : W.cell? ⟨w.heap.size + 1 + 1, 4, none⟩ = some (.int .i64 f) := by rw [hW]; go_simp
  have HW := Lib.hid hW
  clear hW
  go_enter Try.func67, Try.ntmps67
  go_wp2_with fail
  rw [← HW.out]
  refine (KO1.out _).mono ?_
  rintro e w' ⟨rfl, rfl⟩
  go_wp2_with fail
  refine (KO2.out _).mono ?_
  rintro e w' ⟨rfl, rfl⟩
  go_wp2_with fail
  refine (KS1.out _).mono ?_
  rintro e w3 ⟨rfl, f3⟩
  obtain ⟨d0, d1, d2, d3, d4, d5, d6, d7, d8⟩ := KS.out _ _ f3 c0 c1 c2 c3 c4 c5 c6 c7 c8
  have HF3 := Lib.hid (HF.out.noTrans f3)
  clear f3
  go_wp2_with fail
  refine (KE1.out _).mono ?_
  rintro e w4 ⟨rfl, f4⟩
  obtain ⟨e0, e1, e2, e3, e4, e5, e6, e7, e8⟩ := KS.out _ _ f4 d0 d1 d2 d3 d4 d5 d6 d7 d8
  have HF4 := Lib.hid (HF3.out.noTrans f4)
  clear f4
  go_wp2_with fail
  go_ret
  exact ⟨rfl, HF4.out⟩
set_option maxHeartbeats 4000000 in
theorem crosses_3 (ax ay bx by_ cx cy dx dy f : Int) (w : World) (h1 : nr ax) (h2 : nr ay) (h3 : nr bx) (h4 : nr by_) (h5 : nr cx) (h6 : nr cy) (h7 : nr dx) (h8 : nr dy) (g0 : ovB ax bx cx dx = true) (g1 : ovB ay by_ cy dy = true) (g2 : sdB ax ay bx by_ cx cy dx dy = false) (g3 : sdB cx cy dx dy ax ay bx by_ = true) :
    Calls Try.prog 67 #[.agg #[.int .i64 ax, .int .i64 ay], .agg #[.int .i64 bx, .int .i64 by_], .agg #[.int .i64 cx, .int .i64 cy, .int .i64 dx, .int .i64 dy, .int .i64 f]] w fun e w' => e = .returned (.bool false) ∧ Fr no w w' := by
  have HV := Lib.hid (show (false : Bool) = false from rfl)
  have KO1 := Lib.hid (fun w => overlap_any ax bx cx dx w)
  rw [g0] at KO1
  have KO2 := Lib.hid (fun w => overlap_any ay by_ cy dy w)
  rw [g1] at KO2
  have KS1 := Lib.hid (fun w => sides_any ax ay bx by_ cx cy dx dy w h1 h2 h3 h4 h5 h6 h7 h8)
  have KE1 := Lib.hid (fun w => equal_any (tn ax ay bx by_ cx cy) (tn ax ay bx by_ dx dy) w (tn_tri ..) (tn_tri ..))
  unfold sdB at g2
  rw [g2] at KE1
  have KS2 := Lib.hid (fun w => sides_any cx cy dx dy ax ay bx by_ w h5 h6 h7 h8 h1 h2 h3 h4)
  have KE2 := Lib.hid (fun w => equal_any (tn cx cy dx dy ax ay) (tn cx cy dx dy bx by_) w (tn_tri ..) (tn_tri ..))
  unfold sdB at g3
  rw [g3] at KE2
  clear h1 h2 h3 h4 h5 h6 h7 h8 g0 g1 g2 g3
  have KS := Lib.hid (show ∀ w0 w' : World, Fr no w0 w' → w0.cell? ⟨w.heap.size, 0, none⟩ = some (.int .i64 ax) → w0.cell? ⟨w.heap.size, 1, none⟩ = some (.int .i64 ay) → w0.cell? ⟨w.heap.size + 1, 0, none⟩ = some (.int .i64 bx) → w0.cell? ⟨w.heap.size + 1, 1, none⟩ = some (.int .i64 by_) → w0.cell? ⟨w.heap.size + 1 + 1, 0, none⟩ = some (.int .i64 cx) → w0.cell? ⟨w.heap.size + 1 + 1, 1, none⟩ = some (.int .i64 cy) → w0.cell? ⟨w.heap.size + 1 + 1, 2, none⟩ = some (.int .i64 dx) → w0.cell? ⟨w.heap.size + 1 + 1, 3, none⟩ = some (.int .i64 dy) → w0.cell? ⟨w.heap.size + 1 + 1, 4, none⟩ = some (.int .i64 f) → (w'.cell? ⟨w.heap.size, 0, none⟩ = some (.int .i64 ax) ∧ w'.cell? ⟨w.heap.size, 1, none⟩ = some (.int .i64 ay) ∧ w'.cell? ⟨w.heap.size + 1, 0, none⟩ = some (.int .i64 bx) ∧ w'.cell? ⟨w.heap.size + 1, 1, none⟩ = some (.int .i64 by_) ∧ w'.cell? ⟨w.heap.size + 1 + 1, 0, none⟩ = some (.int .i64 cx) ∧ w'.cell? ⟨w.heap.size + 1 + 1, 1, none⟩ = some (.int .i64 cy) ∧ w'.cell? ⟨w.heap.size + 1 + 1, 2, none⟩ = some (.int .i64 dx) ∧ w'.cell? ⟨w.heap.size + 1 + 1, 3, none⟩ = some (.int .i64 dy) ∧ w'.cell? ⟨w.heap.size + 1 + 1, 4, none⟩ = some (.int .i64 f)) from fun _ _ h a0 a1 a2 a3 a4 a5 a6 a7 a8 => ⟨h.keepc a0, h.keepc a1, h.keepc a2, h.keepc a3, h.keepc a4, h.keepc a5, h.keepc a6, h.keepc a7, h.keepc a8⟩)
  obtain ⟨W, hW⟩ : ∃ W, W = (((w.alloc (.cells #[.int .i64 ax, .int .i64 ay] 42 (0, 0))).alloc (.cells #[.int .i64 bx, .int .i64 by_] 42 (0, 0))).alloc (.cells #[.int .i64 cx, .int .i64 cy, .int .i64 dx, .int .i64 dy, .int .i64 f] 101 (0, 0))) := ⟨_, rfl⟩
  have HF := Lib.hid (show Fr no w W by rw [hW]; exact (((Fr.refl no w).alloc _).alloc _).alloc _)
  have c0 : W.cell? ⟨w.heap.size, 0, none⟩ = some (.int .i64 ax) := by rw [hW]; go_simp
  have c1 : W.cell? ⟨w.heap.size, 1, none⟩ = some (.int .i64 ay) := by rw [hW]; go_simp
  have c2 : W.cell? ⟨w.heap.size + 1, 0, none⟩ = some (.int .i64 bx) := by rw [hW]; go_simp
  have c3 : W.cell? ⟨w.heap.size + 1, 1, none⟩ = some (.int .i64 by_) := by rw [hW]; go_simp
  have c4 : W.cell? ⟨w.heap.size + 1 + 1, 0, none⟩ = some (.int .i64 cx) := by rw [hW]; go_simp
  have c5 : W.cell? ⟨w.heap.size + 1 + 1, 1, none⟩ = some (.int .i64 cy) := by rw [hW]; go_simp
  have c6 : W.cell? ⟨w.heap.size + 1 + 1, 2, none⟩ = some (.int .i64 dx) := by rw [hW]; go_simp
  have c7 : W.cell? ⟨w.heap.size + 1 + 1, 3, none⟩ = some (.int .i64 dy) := by rw [hW]; go_simp
  have c8 : W.cell? ⟨w.heap.size + 1 + 1, 4, none⟩ = some (.int .i64 f) := by rw [hW]; go_simp
  have HW := Lib.hid hW
  clear hW
  go_enter Try.func67, Try.ntmps67
  go_wp2_with fail
  rw [← HW.out]
  refine (KO1.out _).mono ?_
  rintro e w' ⟨rfl, rfl⟩
  go_wp2_with fail
  refine (KO2.out _).mono ?_
  rintro e w' ⟨rfl, rfl⟩
  go_wp2_with fail
  refine (KS1.out _).mono ?_
  rintro e w3 ⟨rfl, f3⟩
  obtain ⟨d0, d1, d2, d3, d4, d5, d6, d7, d8⟩ := KS.out _ _ f3 c0 c1 c2 c3 c4 c5 c6 c7 c8
  have HF3 := Lib.hid (HF.out.noTrans f3)
  clear f3
  go_wp2_with fail
  refine (KE1.out _).mono ?_
  rintro e w4 ⟨rfl, f4⟩
  obtain ⟨e0, e1, e2, e3, e4, e5, e6, e7, e8⟩ := KS.out _ _ f4 d0 d1 d2 d3 d4 d5 d6 d7 d8
  have HF4 := Lib.hid (HF3.out.noTrans f4)
  clear f4
  go_wp2_with fail
  refine (KS2.out _).mono ?_
  rintro e w5 ⟨rfl, f5⟩
  have HF5 := Lib.hid (HF4.out.noTrans f5)
  clear f5
  go_wp2_with fail
  refine (KE2.out _).mono ?_
  rintro e w6 ⟨rfl, f6⟩
  have HF6 := Lib.hid (HF5.out.noTrans f6)
  clear f6
  go_wp2_with fail
  go_ret
  exact ⟨rfl, HF6.out⟩
set_option maxHeartbeats 4000000 in
theorem crosses_4 (ax ay bx by_ cx cy dx dy f : Int) (w : World) (h1 : nr ax) (h2 : nr ay) (h3 : nr bx) (h4 : nr by_) (h5 : nr cx) (h6 : nr cy) (h7 : nr dx) (h8 : nr dy) (g0 : ovB ax bx cx dx = true) (g1 : ovB ay by_ cy dy = true) (g2 : sdB ax ay bx by_ cx cy dx dy = false) (g3 : sdB cx cy dx dy ax ay bx by_ = false) :
    Calls Try.prog 67 #[.agg #[.int .i64 ax, .int .i64 ay], .agg #[.int .i64 bx, .int .i64 by_], .agg #[.int .i64 cx, .int .i64 cy, .int .i64 dx, .int .i64 dy, .int .i64 f]] w fun e w' => e = .returned (.bool true) ∧ Fr no w w' := by
  have HV := Lib.hid (show (true : Bool) = true from rfl)
  have KO1 := Lib.hid (fun w => overlap_any ax bx cx dx w)
  rw [g0] at KO1
  have KO2 := Lib.hid (fun w => overlap_any ay by_ cy dy w)
  rw [g1] at KO2
  have KS1 := Lib.hid (fun w => sides_any ax ay bx by_ cx cy dx dy w h1 h2 h3 h4 h5 h6 h7 h8)
  have KE1 := Lib.hid (fun w => equal_any (tn ax ay bx by_ cx cy) (tn ax ay bx by_ dx dy) w (tn_tri ..) (tn_tri ..))
  unfold sdB at g2
  rw [g2] at KE1
  have KS2 := Lib.hid (fun w => sides_any cx cy dx dy ax ay bx by_ w h5 h6 h7 h8 h1 h2 h3 h4)
  have KE2 := Lib.hid (fun w => equal_any (tn cx cy dx dy ax ay) (tn cx cy dx dy bx by_) w (tn_tri ..) (tn_tri ..))
  unfold sdB at g3
  rw [g3] at KE2
  clear h1 h2 h3 h4 h5 h6 h7 h8 g0 g1 g2 g3
  have KS := Lib.hid (show ∀ w0 w' : World, Fr no w0 w' → w0.cell? ⟨w.heap.size, 0, none⟩ = some (.int .i64 ax) → w0.cell? ⟨w.heap.size, 1, none⟩ = some (.int .i64 ay) → w0.cell? ⟨w.heap.size + 1, 0, none⟩ = some (.int .i64 bx) → w0.cell? ⟨w.heap.size + 1, 1, none⟩ = some (.int .i64 by_) → w0.cell? ⟨w.heap.size + 1 + 1, 0, none⟩ = some (.int .i64 cx) → w0.cell? ⟨w.heap.size + 1 + 1, 1, none⟩ = some (.int .i64 cy) → w0.cell? ⟨w.heap.size + 1 + 1, 2, none⟩ = some (.int .i64 dx) → w0.cell? ⟨w.heap.size + 1 + 1, 3, none⟩ = some (.int .i64 dy) → w0.cell? ⟨w.heap.size + 1 + 1, 4, none⟩ = some (.int .i64 f) → (w'.cell? ⟨w.heap.size, 0, none⟩ = some (.int .i64 ax) ∧ w'.cell? ⟨w.heap.size, 1, none⟩ = some (.int .i64 ay) ∧ w'.cell? ⟨w.heap.size + 1, 0, none⟩ = some (.int .i64 bx) ∧ w'.cell? ⟨w.heap.size + 1, 1, none⟩ = some (.int .i64 by_) ∧ w'.cell? ⟨w.heap.size + 1 + 1, 0, none⟩ = some (.int .i64 cx) ∧ w'.cell? ⟨w.heap.size + 1 + 1, 1, none⟩ = some (.int .i64 cy) ∧ w'.cell? ⟨w.heap.size + 1 + 1, 2, none⟩ = some (.int .i64 dx) ∧ w'.cell? ⟨w.heap.size + 1 + 1, 3, none⟩ = some (.int .i64 dy) ∧ w'.cell? ⟨w.heap.size + 1 + 1, 4, none⟩ = some (.int .i64 f)) from fun _ _ h a0 a1 a2 a3 a4 a5 a6 a7 a8 => ⟨h.keepc a0, h.keepc a1, h.keepc a2, h.keepc a3, h.keepc a4, h.keepc a5, h.keepc a6, h.keepc a7, h.keepc a8⟩)
  obtain ⟨W, hW⟩ : ∃ W, W = (((w.alloc (.cells #[.int .i64 ax, .int .i64 ay] 42 (0, 0))).alloc (.cells #[.int .i64 bx, .int .i64 by_] 42 (0, 0))).alloc (.cells #[.int .i64 cx, .int .i64 cy, .int .i64 dx, .int .i64 dy, .int .i64 f] 101 (0, 0))) := ⟨_, rfl⟩
  have HF := Lib.hid (show Fr no w W by rw [hW]; exact (((Fr.refl no w).alloc _).alloc _).alloc _)
  have c0 : W.cell? ⟨w.heap.size, 0, none⟩ = some (.int .i64 ax) := by rw [hW]; go_simp
  have c1 : W.cell? ⟨w.heap.size, 1, none⟩ = some (.int .i64 ay) := by rw [hW]; go_simp
  have c2 : W.cell? ⟨w.heap.size + 1, 0, none⟩ = some (.int .i64 bx) := by rw [hW]; go_simp
  have c3 : W.cell? ⟨w.heap.size + 1, 1, none⟩ = some (.int .i64 by_) := by rw [hW]; go_simp
  have c4 : W.cell? ⟨w.heap.size + 1 + 1, 0, none⟩ = some (.int .i64 cx) := by rw [hW]; go_simp
  have c5 : W.cell? ⟨w.heap.size + 1 + 1, 1, none⟩ = some (.int .i64 cy) := by rw [hW]; go_simp
  have c6 : W.cell? ⟨w.heap.size + 1 + 1, 2, none⟩ = some (.int .i64 dx) := by rw [hW]; go_simp
  have c7 : W.cell? ⟨w.heap.size + 1 + 1, 3, none⟩ = some (.int .i64 dy) := by rw [hW]; go_simp
  have c8 : W.cell? ⟨w.heap.size + 1 + 1, 4, none⟩ = some (.int .i64 f) := by rw [hW]; go_simp
  have HW := Lib.hid hW
  clear hW
  go_enter Try.func67, Try.ntmps67
  go_wp2_with fail
  rw [← HW.out]
  refine (KO1.out _).mono ?_
  rintro e w' ⟨rfl, rfl⟩
  go_wp2_with fail
  refine (KO2.out _).mono ?_
  rintro e w' ⟨rfl, rfl⟩
  go_wp2_with fail
  refine (KS1.out _).mono ?_
  rintro e w3 ⟨rfl, f3⟩
  obtain ⟨d0, d1, d2, d3, d4, d5, d6, d7, d8⟩ := KS.out _ _ f3 c0 c1 c2 c3 c4 c5 c6 c7 c8
  have HF3 := Lib.hid (HF.out.noTrans f3)
  clear f3
  go_wp2_with fail
  refine (KE1.out _).mono ?_
  rintro e w4 ⟨rfl, f4⟩
  obtain ⟨e0, e1, e2, e3, e4, e5, e6, e7, e8⟩ := KS.out _ _ f4 d0 d1 d2 d3 d4 d5 d6 d7 d8
  have HF4 := Lib.hid (HF3.out.noTrans f4)
  clear f4
  go_wp2_with fail
  refine (KS2.out _).mono ?_
  rintro e w5 ⟨rfl, f5⟩
  have HF5 := Lib.hid (HF4.out.noTrans f5)
  clear f5
  go_wp2_with fail
  refine (KE2.out _).mono ?_
  rintro e w6 ⟨rfl, f6⟩
  have HF6 := Lib.hid (HF5.out.noTrans f6)
  clear f6
  go_wp2_with fail
  go_ret
  exact ⟨rfl, HF6.out⟩
theorem crosses_any (ax ay bx by_ cx cy dx dy f : Int) (w : World) (h1 : nr ax) (h2 : nr ay) (h3 : nr bx) (h4 : nr by_) (h5 : nr cx) (h6 : nr cy) (h7 : nr dx) (h8 : nr dy) :
    Calls Try.prog 67 #[.agg #[.int .i64 ax, .int .i64 ay], .agg #[.int .i64 bx, .int .i64 by_], .agg #[.int .i64 cx, .int .i64 cy, .int .i64 dx, .int .i64 dy, .int .i64 f]] w fun e w' => e = .returned (.bool (crB ax ay bx by_ cx cy dx dy)) ∧ Fr no w w' := by
  cases g0 : ovB ax bx cx dx
  · rw [show crB ax ay bx by_ cx cy dx dy = false by simp [crB, g0]]; exact crosses_0 ax ay bx by_ cx cy dx dy f w h1 h2 h3 h4 h5 h6 h7 h8 g0
  cases g1 : ovB ay by_ cy dy
  · rw [show crB ax ay bx by_ cx cy dx dy = false by simp [crB, g0, g1]]; exact crosses_1 ax ay bx by_ cx cy dx dy f w h1 h2 h3 h4 h5 h6 h7 h8 g0 g1
  cases g2 : sdB ax ay bx by_ cx cy dx dy
  · cases g3 : sdB cx cy dx dy ax ay bx by_
    · rw [show crB ax ay bx by_ cx cy dx dy = true by simp [crB, g0, g1, g2, g3]]; exact crosses_4 ax ay bx by_ cx cy dx dy f w h1 h2 h3 h4 h5 h6 h7 h8 g0 g1 g2 g3
    · rw [show crB ax ay bx by_ cx cy dx dy = false by simp [crB, g0, g1, g2, g3]]; exact crosses_3 ax ay bx by_ cx cy dx dy f w h1 h2 h3 h4 h5 h6 h7 h8 g0 g1 g2 g3
  · rw [show crB ax ay bx by_ cx cy dx dy = false by simp [crB, g0, g1, g2]]; exact crosses_2 ax ay bx by_ cx cy dx dy f w h1 h2 h3 h4 h5 h6 h7 h8 g0 g1 g2
end Go.Proofs.Ytdenlinehjigaaa
