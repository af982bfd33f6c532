/- Monotone. -/
import Derived.Test.YtgddmmlkpajpmaaLw1
import Derived.BigQuiet
import Derived.BigRegion
namespace Go.Proofs.Ytgddmmlkpajpmaa
set_option linter.unusedVariables false
open Go.RowKit

theorem four_cells {w : World} {B T : Nat} {c0 c1 c2 c3 : Value} (h : w.heap[B]? = some (.cells #[c0, c1, c2, c3] T (0, 0))) :
    w.cell? ⟨B, 0, none⟩ = some c0 ∧ w.cell? ⟨B, 1, none⟩ = some c1 ∧ w.cell? ⟨B, 2, none⟩ = some c2 ∧ w.cell? ⟨B, 3, none⟩ = some c3 ∧
    w.frozen? ⟨B, 0, none⟩ = false ∧ w.frozen? ⟨B, 1, none⟩ = false ∧ w.frozen? ⟨B, 2, none⟩ = false ∧ w.frozen? ⟨B, 3, none⟩ = false := by
  simp [World.cell?, World.frozen?, h]
theorem four_set {w : World} {B T : Nat} {c : Array Value} (h : w.heap[B]? = some (.cells c T (0, 0))) (i : Nat) (u : Value) :
    (w.setCell ⟨B, i, none⟩ u).heap[B]? = some (.cells (c.setIfInBounds i u) T (0, 0)) := three_set h i u
/-- Both arrays, and how far they are sorted. -/
structure Ar (w u : World) (k : Nat) (x0 x1 x2 x3 y0 y1 y2 y3 : Int) : Prop where
  f : Fr no w u
  x : u.heap[w.heap.size]? = some (.cells #[.int .i64 x0, .int .i64 x1, .int .i64 x2, .int .i64 x3] 44 (0, 0))
  y : u.heap[w.heap.size + 1]? = some (.cells #[.int .i64 y0, .int .i64 y1, .int .i64 y2, .int .i64 y3] 44 (0, 0))
  s0 : 0 < k → x0 ≤ y0
  s1 : 1 < k → x1 ≤ y1
  s2 : 2 < k → x2 ≤ y2
  s3 : 3 < k → x3 ≤ y3
def ArS (w u : World) (k : Nat) : Prop := ∃ x0 x1 x2 x3 y0 y1 y2 y3, Ar w u k x0 x1 x2 x3 y0 y1 y2 y3
theorem Ar.swap {w u : World} {k : Nat} {x0 x1 x2 x3 y0 y1 y2 y3 : Int} (h : Ar w u k x0 x1 x2 x3 y0 y1 y2 y3) (i : Nat) (a b : Value) :
    Fr no w ((u.setCell ⟨w.heap.size, i, none⟩ a).setCell ⟨w.heap.size + 1, i, none⟩ b) ∧
    ((u.setCell ⟨w.heap.size, i, none⟩ a).setCell ⟨w.heap.size + 1, i, none⟩ b).heap[w.heap.size]? = some (.cells (#[.int .i64 x0, .int .i64 x1, .int .i64 x2, .int .i64 x3].setIfInBounds i a) 44 (0, 0)) ∧
    ((u.setCell ⟨w.heap.size, i, none⟩ a).setCell ⟨w.heap.size + 1, i, none⟩ b).heap[w.heap.size + 1]? = some (.cells (#[.int .i64 y0, .int .i64 y1, .int .i64 y2, .int .i64 y3].setIfInBounds i b) 44 (0, 0)) := by
  refine ⟨(h.f.setCell (.inr (Nat.le_refl _)) _).setCell (.inr (by simp)) _, other_set (four_set h.x i a) b (by simp), four_set (other_set h.y a (by simp)) i b⟩

theorem grE_c (t d : Int) : grE t d = 0 ∨ grE t d = 2 := by unfold grE; split <;> simp
theorem leE_c (t d : Int) : leE t d = 0 ∨ leE t d = 2 := by unfold leE; split <;> simp
theorem spE_c (a b n d : Int) : spE a b n d = 0 ∨ spE a b n d = 2 := by unfold spE; split <;> simp
/-- Two errors and two numbers: an error, or the numbers' order. -/
def Mo (l e f a b : Int) : Prop := (e = 0 ∧ f = 0 ∧ l ≤ a ∧ a ≤ b) ∨ ((0 ≤ e ∧ e ≤ 2) ∧ (0 ≤ f ∧ f ≤ 2) ∧ 0 < e + f)
theorem mo_of {l e f a b : Int} (he : e = 0 ∨ e = 2) (hf : f = 0 ∨ f = 2) (h : e = 0 → f = 0 → l ≤ a ∧ a ≤ b) : Mo l e f a b := by
  unfold Mo
  rcases he with he | he <;> rcases hf with hf | hf
  · obtain ⟨h1, h2⟩ := h he hf
    omega
  all_goals omega
theorem mo_gr {t u d D : Int} (h1 : t ≤ u) (h2 : d ≤ D) : Mo 2 (grE t d) (grE u D) (grV t d) (grV u D) := by
  refine mo_of (grE_c _ _) (grE_c _ _) fun e f => ?_
  unfold grE at e f
  cases a1 : isT t <;> cases a2 : isD d <;> cases b1 : isT u <;> cases b2 : isD D <;> simp [a1, a2, b1, b2] at e f
  simp only [grV, a1, a2, b1, b2, Bool.and_self, if_true]
  obtain ⟨t0, t1⟩ := isT_t.1 a1
  obtain ⟨d0, d1⟩ := isD_t.1 a2
  simp only [MT] at t1
  exact ⟨(grF_bd t0 t1 d0 d1).1, grF_mono t0 h1 d0 h2⟩
theorem mo_le {t u d D : Int} (h1 : t ≤ u) (h2 : d ≤ D) : Mo 1 (leE t d) (leE u D) (leV t d) (leV u D) := by
  refine mo_of (leE_c _ _) (leE_c _ _) fun e f => ?_
  unfold leE at e f
  cases a1 : isK t <;> cases a2 : isD d <;> cases b1 : isK u <;> cases b2 : isD D <;> simp [a1, a2, b1, b2] at e f
  simp only [leV, a1, a2, b1, b2, Bool.and_self, if_true]
  obtain ⟨t0, t1⟩ := isK_t.1 a1
  obtain ⟨d0, d1⟩ := isD_t.1 a2
  obtain ⟨e0, e1⟩ := isD_t.1 b2
  exact ⟨(leF_bd t0 t1 d0 d1).1, leF_mono h1 h2 t0 e1⟩
theorem mo_sp {p q t u d D : Int} (h0 : p ≤ q) (h1 : t ≤ u) (h2 : d ≤ D) : Mo 0 (spE p p t d) (spE q q u D) (spV p p t d) (spV q q u D) := by
  refine mo_of (spE_c _ _ _ _) (spE_c _ _ _ _) fun e f => ?_
  unfold spE at e f
  cases a0 : isP p <;> cases a1 : isK t <;> cases a2 : isD d <;> cases b0 : isP q <;> cases b1 : isK u <;> cases b2 : isD D <;> simp [a0, a1, a2, b0, b1, b2] at e f
  simp only [spV, a0, a1, a2, b0, b1, b2, Bool.and_self, if_true]
  obtain ⟨p0, p1⟩ := isP_t.1 a0
  obtain ⟨t0, t1⟩ := isK_t.1 a1
  obtain ⟨d0, d1⟩ := isD_t.1 a2
  obtain ⟨u0, u1⟩ := isK_t.1 b1
  obtain ⟨e0, e1⟩ := isD_t.1 b2
  exact ⟨(sp_bd (s := p + p) (by omega) (by omega) t0 t1 d0 d1).1, sp_mono (by omega) (by omega) h1 d0 h2 t0 u1 e1⟩

set_option maxRecDepth 20000 in
set_option maxHeartbeats 4000000 in
theorem monotone_law (x0 x1 x2 x3 y0 y1 y2 y3 : Int) (w : World) : Calls Try.prog 10 #[.agg #[.int .i64 x0, .int .i64 x1, .int .i64 x2, .int .i64 x3], .agg #[.int .i64 y0, .int .i64 y1, .int .i64 y2, .int .i64 y3]] w fun e w' => e = .returned (.bool true) ∧ Fr no w w' := by
  obtain ⟨W, hW⟩ : ∃ W, W = (w.alloc (.cells #[.int .i64 x0, .int .i64 x1, .int .i64 x2, .int .i64 x3] 44 (0, 0))).alloc (.cells #[.int .i64 y0, .int .i64 y1, .int .i64 y2, .int .i64 y3] 44 (0, 0)) := ⟨_, rfl⟩
  have HA := Lib.hid (show Ar w W 0 x0 x1 x2 x3 y0 y1 y2 y3 by
    rw [hW]
    exact ⟨((Fr.refl no w).alloc _).alloc _, alloc_keeps (heap_alloc_new w _) _, by simpa using heap_alloc_new (w.alloc (.cells #[.int .i64 x0, .int .i64 x1, .int .i64 x2, .int .i64 x3] 44 (0, 0))) (.cells #[.int .i64 y0, .int .i64 y1, .int .i64 y2, .int .i64 y3] 44 (0, 0)), fun h => by omega, fun h => by omega, fun h => by omega, fun h => by omega⟩)
  have HW := Lib.hid hW
  clear hW
  go_enter Try.func10, Try.ntmps10
  go_wp2_with fail
  rw [← HW.out]
  refine (awake_any _).mono ?_
  rintro e w1 ⟨rfl, f1⟩
  have HA1 := Lib.hid (show ArS w w1 0 from ⟨_, _, _, _, _, _, _, _, ⟨HA.out.f.noTrans f1, f1.blk HA.out.x (fun h => h), f1.blk HA.out.y (fun h => h), HA.out.s0, HA.out.s1, HA.out.s2, HA.out.s3⟩⟩)
  clear f1 HA HW
  go_wp2_with fail
  go_loopw [5, 20] (fun _ i wr => ∃ k : Nat, k ≤ 4 ∧ i = .int .i64 k ∧ Hid (ArS w wr k)) (fun _ i _ => (4 - intOf i).toNat)
  case atStart => exact ⟨0, by omega, rfl, HA1⟩
  case round =>
    obtain ⟨k, hk, rfl, hA⟩ := hrel
    rcases (show k = 0 ∨ k = 1 ∨ k = 2 ∨ k = 3 ∨ k = 4 by omega) with rfl | rfl | rfl | rfl | rfl
    · obtain ⟨x0, x1, x2, x3, y0, y1, y2, y3, A⟩ := hA.out
      have A := Lib.hid A
      obtain ⟨c0, c1, c2, c3, g0, g1, g2, g3⟩ := four_cells A.out.x
      obtain ⟨d0, d1, d2, d3, j0, j1, j2, j3⟩ := four_cells A.out.y
      by_cases hc : y0 < x0
      · go_wp2_with fail
        go_quiet (fail)
        rename_i nq
        obtain ⟨v1, hv1⟩ : ∃ v, v = wr.drewN nq := ⟨_, rfl⟩
        have A := Lib.hid (show Ar w v1 0 x0 x1 x2 x3 y0 y1 y2 y3 by rw [hv1]; exact ⟨A.out.f.drewN nq, A.out.x, A.out.y, A.out.s0, A.out.s1, A.out.s2, A.out.s3⟩)
        rw [← hv1]
        clear hv1 c0 c1 c2 c3 g0 g1 g2 g3 d0 d1 d2 d3 j0 j1 j2 j3
        obtain ⟨c0, c1, c2, c3, g0, g1, g2, g3⟩ := four_cells A.out.x
        obtain ⟨d0, d1, d2, d3, j0, j1, j2, j3⟩ := four_cells A.out.y
        go_wp2_with fail
        go_region
        all_goals (
          go_wp2_with fail
          go_roundw
          case rel =>
            obtain ⟨h1, h2, h3⟩ := A.out.swap 0 (.int .i64 y0) (.int .i64 x0)
            exact ⟨1, by omega, by go_num, Lib.hid ⟨y0, x1, x2, x3, x0, y1, y2, y3, ⟨h1.drewN _, by simp at h2; exact h2, by simp at h3; exact h3, fun _ => by omega, fun h => by omega, fun h => by omega, fun h => by omega⟩⟩⟩
          case measure => simp [intOf])
      · have hc2 : x0 ≤ y0 := by omega
        go_wp2_with fail
        go_quiet (fail)
        rename_i nq
        obtain ⟨v1, hv1⟩ : ∃ v, v = wr.drewN nq := ⟨_, rfl⟩
        have A := Lib.hid (show Ar w v1 0 x0 x1 x2 x3 y0 y1 y2 y3 by rw [hv1]; exact ⟨A.out.f.drewN nq, A.out.x, A.out.y, A.out.s0, A.out.s1, A.out.s2, A.out.s3⟩)
        rw [← hv1]
        clear hv1 c0 c1 c2 c3 g0 g1 g2 g3 d0 d1 d2 d3 j0 j1 j2 j3
        obtain ⟨c0, c1, c2, c3, g0, g1, g2, g3⟩ := four_cells A.out.x
        obtain ⟨d0, d1, d2, d3, j0, j1, j2, j3⟩ := four_cells A.out.y
        go_wp2_with fail
        go_roundw
        case rel => exact ⟨1, by omega, by go_num, Lib.hid ⟨x0, x1, x2, x3, y0, y1, y2, y3, ⟨A.out.f, A.out.x, A.out.y, fun _ => by omega, fun h => by omega, fun h => by omega, fun h => by omega⟩⟩⟩
        case measure => simp [intOf]
    · obtain ⟨x0, x1, x2, x3, y0, y1, y2, y3, A⟩ := hA.out
      have A := Lib.hid A
      obtain ⟨c0, c1, c2, c3, g0, g1, g2, g3⟩ := four_cells A.out.x
      obtain ⟨d0, d1, d2, d3, j0, j1, j2, j3⟩ := four_cells A.out.y
      by_cases hc : y1 < x1
      · go_wp2_with fail
        go_quiet (fail)
        rename_i nq
        obtain ⟨v1, hv1⟩ : ∃ v, v = wr.drewN nq := ⟨_, rfl⟩
        have A := Lib.hid (show Ar w v1 1 x0 x1 x2 x3 y0 y1 y2 y3 by rw [hv1]; exact ⟨A.out.f.drewN nq, A.out.x, A.out.y, A.out.s0, A.out.s1, A.out.s2, A.out.s3⟩)
        rw [← hv1]
        clear hv1 c0 c1 c2 c3 g0 g1 g2 g3 d0 d1 d2 d3 j0 j1 j2 j3
        obtain ⟨c0, c1, c2, c3, g0, g1, g2, g3⟩ := four_cells A.out.x
        obtain ⟨d0, d1, d2, d3, j0, j1, j2, j3⟩ := four_cells A.out.y
        go_wp2_with fail
        go_region
        all_goals (
          go_wp2_with fail
          go_roundw
          case rel =>
            obtain ⟨h1, h2, h3⟩ := A.out.swap 1 (.int .i64 y1) (.int .i64 x1)
            exact ⟨2, by omega, by go_num, Lib.hid ⟨x0, y1, x2, x3, y0, x1, y2, y3, ⟨h1.drewN _, by simp at h2; exact h2, by simp at h3; exact h3, fun _ => A.out.s0 (by omega), fun _ => by omega, fun h => by omega, fun h => by omega⟩⟩⟩
          case measure => simp [intOf])
      · have hc2 : x1 ≤ y1 := by omega
        go_wp2_with fail
        go_quiet (fail)
        rename_i nq
        obtain ⟨v1, hv1⟩ : ∃ v, v = wr.drewN nq := ⟨_, rfl⟩
        have A := Lib.hid (show Ar w v1 1 x0 x1 x2 x3 y0 y1 y2 y3 by rw [hv1]; exact ⟨A.out.f.drewN nq, A.out.x, A.out.y, A.out.s0, A.out.s1, A.out.s2, A.out.s3⟩)
        rw [← hv1]
        clear hv1 c0 c1 c2 c3 g0 g1 g2 g3 d0 d1 d2 d3 j0 j1 j2 j3
        obtain ⟨c0, c1, c2, c3, g0, g1, g2, g3⟩ := four_cells A.out.x
        obtain ⟨d0, d1, d2, d3, j0, j1, j2, j3⟩ := four_cells A.out.y
        go_wp2_with fail
        go_roundw
        case rel => exact ⟨2, by omega, by go_num, Lib.hid ⟨x0, x1, x2, x3, y0, y1, y2, y3, ⟨A.out.f, A.out.x, A.out.y, fun _ => A.out.s0 (by omega), fun _ => by omega, fun h => by omega, fun h => by omega⟩⟩⟩
        case measure => simp [intOf]
    · obtain ⟨x0, x1, x2, x3, y0, y1, y2, y3, A⟩ := hA.out
      have A := Lib.hid A
      obtain ⟨c0, c1, c2, c3, g0, g1, g2, g3⟩ := four_cells A.out.x
      obtain ⟨d0, d1, d2, d3, j0, j1, j2, j3⟩ := four_cells A.out.y
      by_cases hc : y2 < x2
      · go_wp2_with fail
        go_quiet (fail)
        rename_i nq
        obtain ⟨v1, hv1⟩ : ∃ v, v = wr.drewN nq := ⟨_, rfl⟩
        have A := Lib.hid (show Ar w v1 2 x0 x1 x2 x3 y0 y1 y2 y3 by rw [hv1]; exact ⟨A.out.f.drewN nq, A.out.x, A.out.y, A.out.s0, A.out.s1, A.out.s2, A.out.s3⟩)
        rw [← hv1]
        clear hv1 c0 c1 c2 c3 g0 g1 g2 g3 d0 d1 d2 d3 j0 j1 j2 j3
        obtain ⟨c0, c1, c2, c3, g0, g1, g2, g3⟩ := four_cells A.out.x
        obtain ⟨d0, d1, d2, d3, j0, j1, j2, j3⟩ := four_cells A.out.y
        go_wp2_with fail
        go_region
        all_goals (
          go_wp2_with fail
          go_roundw
          case rel =>
            obtain ⟨h1, h2, h3⟩ := A.out.swap 2 (.int .i64 y2) (.int .i64 x2)
            exact ⟨3, by omega, by go_num, Lib.hid ⟨x0, x1, y2, x3, y0, y1, x2, y3, ⟨h1.drewN _, by simp at h2; exact h2, by simp at h3; exact h3, fun _ => A.out.s0 (by omega), fun _ => A.out.s1 (by omega), fun _ => by omega, fun h => by omega⟩⟩⟩
          case measure => simp [intOf])
      · have hc2 : x2 ≤ y2 := by omega
        go_wp2_with fail
        go_quiet (fail)
        rename_i nq
        obtain ⟨v1, hv1⟩ : ∃ v, v = wr.drewN nq := ⟨_, rfl⟩
        have A := Lib.hid (show Ar w v1 2 x0 x1 x2 x3 y0 y1 y2 y3 by rw [hv1]; exact ⟨A.out.f.drewN nq, A.out.x, A.out.y, A.out.s0, A.out.s1, A.out.s2, A.out.s3⟩)
        rw [← hv1]
        clear hv1 c0 c1 c2 c3 g0 g1 g2 g3 d0 d1 d2 d3 j0 j1 j2 j3
        obtain ⟨c0, c1, c2, c3, g0, g1, g2, g3⟩ := four_cells A.out.x
        obtain ⟨d0, d1, d2, d3, j0, j1, j2, j3⟩ := four_cells A.out.y
        go_wp2_with fail
        go_roundw
        case rel => exact ⟨3, by omega, by go_num, Lib.hid ⟨x0, x1, x2, x3, y0, y1, y2, y3, ⟨A.out.f, A.out.x, A.out.y, fun _ => A.out.s0 (by omega), fun _ => A.out.s1 (by omega), fun _ => by omega, fun h => by omega⟩⟩⟩
        case measure => simp [intOf]
    · obtain ⟨x0, x1, x2, x3, y0, y1, y2, y3, A⟩ := hA.out
      have A := Lib.hid A
      obtain ⟨c0, c1, c2, c3, g0, g1, g2, g3⟩ := four_cells A.out.x
      obtain ⟨d0, d1, d2, d3, j0, j1, j2, j3⟩ := four_cells A.out.y
      by_cases hc : y3 < x3
      · go_wp2_with fail
        go_quiet (fail)
        rename_i nq
        obtain ⟨v1, hv1⟩ : ∃ v, v = wr.drewN nq := ⟨_, rfl⟩
        have A := Lib.hid (show Ar w v1 3 x0 x1 x2 x3 y0 y1 y2 y3 by rw [hv1]; exact ⟨A.out.f.drewN nq, A.out.x, A.out.y, A.out.s0, A.out.s1, A.out.s2, A.out.s3⟩)
        rw [← hv1]
        clear hv1 c0 c1 c2 c3 g0 g1 g2 g3 d0 d1 d2 d3 j0 j1 j2 j3
        obtain ⟨c0, c1, c2, c3, g0, g1, g2, g3⟩ := four_cells A.out.x
        obtain ⟨d0, d1, d2, d3, j0, j1, j2, j3⟩ := four_cells A.out.y
        go_wp2_with fail
        go_region
        all_goals (
          go_wp2_with fail
          go_roundw
          case rel =>
            obtain ⟨h1, h2, h3⟩ := A.out.swap 3 (.int .i64 y3) (.int .i64 x3)
            exact ⟨4, by omega, by go_num, Lib.hid ⟨x0, x1, x2, y3, y0, y1, y2, x3, ⟨h1.drewN _, by simp at h2; exact h2, by simp at h3; exact h3, fun _ => A.out.s0 (by omega), fun _ => A.out.s1 (by omega), fun _ => A.out.s2 (by omega), fun _ => by omega⟩⟩⟩
          case measure => simp [intOf])
      · have hc2 : x3 ≤ y3 := by omega
        go_wp2_with fail
        go_quiet (fail)
        rename_i nq
        obtain ⟨v1, hv1⟩ : ∃ v, v = wr.drewN nq := ⟨_, rfl⟩
        have A := Lib.hid (show Ar w v1 3 x0 x1 x2 x3 y0 y1 y2 y3 by rw [hv1]; exact ⟨A.out.f.drewN nq, A.out.x, A.out.y, A.out.s0, A.out.s1, A.out.s2, A.out.s3⟩)
        rw [← hv1]
        clear hv1 c0 c1 c2 c3 g0 g1 g2 g3 d0 d1 d2 d3 j0 j1 j2 j3
        obtain ⟨c0, c1, c2, c3, g0, g1, g2, g3⟩ := four_cells A.out.x
        obtain ⟨d0, d1, d2, d3, j0, j1, j2, j3⟩ := four_cells A.out.y
        go_wp2_with fail
        go_roundw
        case rel => exact ⟨4, by omega, by go_num, Lib.hid ⟨x0, x1, x2, x3, y0, y1, y2, y3, ⟨A.out.f, A.out.x, A.out.y, fun _ => A.out.s0 (by omega), fun _ => A.out.s1 (by omega), fun _ => A.out.s2 (by omega), fun _ => by omega⟩⟩⟩
        case measure => simp [intOf]
    · obtain ⟨x0, x1, x2, x3, y0, y1, y2, y3, A⟩ := hA.out
      obtain ⟨m0, m1, m2, m3⟩ : x0 ≤ y0 ∧ x1 ≤ y1 ∧ x2 ≤ y2 ∧ x3 ≤ y3 := ⟨A.s0 (by omega), A.s1 (by omega), A.s2 (by omega), A.s3 (by omega)⟩
      have HF1 := Lib.hid A.f
      obtain ⟨c0_1, c1_1, c2_1, c3_1, -⟩ := four_cells A.x
      obtain ⟨d0_1, d1_1, d2_1, d3_1, -⟩ := four_cells A.y
      clear A hA HA1
      have K1 := Lib.hid (fun w => growth_any x0 x1 w)
      have K2 := Lib.hid (fun w => growth_any y0 y1 w)
      have K3 := Lib.hid (fun w => length_any x2 x1 w)
      have K4 := Lib.hid (fun w => length_any y2 y1 w)
      have K5 := Lib.hid (fun w => spread_any x3 x3 x2 x1 w)
      have K6 := Lib.hid (fun w => spread_any y3 y3 y2 y1 w)
      have M1 := mo_gr m0 m1
      have M2 := mo_le m2 m1
      have M3 := mo_sp m3 m2 m1
      generalize grE x0 x1 = e1 at *
      generalize grE y0 y1 = e2 at *
      generalize leE x2 x1 = e3 at *
      generalize leE y2 y1 = e4 at *
      generalize spE x3 x3 x2 x1 = e5 at *
      generalize spE y3 y3 y2 y1 = e6 at *
      generalize grV x0 x1 = v1 at *
      generalize grV y0 y1 = v2 at *
      generalize leV x2 x1 = v3 at *
      generalize leV y2 y1 = v4 at *
      generalize spV x3 x3 x2 x1 = v5 at *
      generalize spV y3 y3 y2 y1 = v6 at *
      clear m0 m1 m2 m3
      rcases M1 with ⟨rfl, rfl, l0, m0⟩ | ⟨⟨p0, q0⟩, ⟨r0, s0⟩, t0⟩
      · rcases M2 with ⟨rfl, rfl, l1, m1⟩ | ⟨⟨p1, q1⟩, ⟨r1, s1⟩, t1⟩
        · rcases M3 with ⟨rfl, rfl, l2, m2⟩ | ⟨⟨p2, q2⟩, ⟨r2, s2⟩, t2⟩
          · go_wp2_with fail
            refine (K1.out _).mono ?_
            rintro e w2 ⟨rfl, f2⟩
            have HF2 := Lib.hid (HF1.out.noTrans f2)
            have c0_2 := f2.keepc c0_1
            have c1_2 := f2.keepc c1_1
            have c2_2 := f2.keepc c2_1
            have c3_2 := f2.keepc c3_1
            have d0_2 := f2.keepc d0_1
            have d1_2 := f2.keepc d1_1
            have d2_2 := f2.keepc d2_1
            have d3_2 := f2.keepc d3_1
            clear f2 HF1 c0_1 c1_1 c2_1 c3_1 d0_1 d1_1 d2_1 d3_1
            go_wp2_with fail
            refine (K2.out _).mono ?_
            rintro e w3 ⟨rfl, f3⟩
            have HF3 := Lib.hid (HF2.out.noTrans f3)
            have c0_3 := f3.keepc c0_2
            have c1_3 := f3.keepc c1_2
            have c2_3 := f3.keepc c2_2
            have c3_3 := f3.keepc c3_2
            have d0_3 := f3.keepc d0_2
            have d1_3 := f3.keepc d1_2
            have d2_3 := f3.keepc d2_2
            have d3_3 := f3.keepc d3_2
            clear f3 HF2 c0_2 c1_2 c2_2 c3_2 d0_2 d1_2 d2_2 d3_2
            go_wp2_with fail
            refine (K3.out _).mono ?_
            rintro e w4 ⟨rfl, f4⟩
            have HF4 := Lib.hid (HF3.out.noTrans f4)
            have c0_4 := f4.keepc c0_3
            have c1_4 := f4.keepc c1_3
            have c2_4 := f4.keepc c2_3
            have c3_4 := f4.keepc c3_3
            have d0_4 := f4.keepc d0_3
            have d1_4 := f4.keepc d1_3
            have d2_4 := f4.keepc d2_3
            have d3_4 := f4.keepc d3_3
            clear f4 HF3 c0_3 c1_3 c2_3 c3_3 d0_3 d1_3 d2_3 d3_3
            go_wp2_with fail
            refine (K4.out _).mono ?_
            rintro e w5 ⟨rfl, f5⟩
            have HF5 := Lib.hid (HF4.out.noTrans f5)
            have c0_5 := f5.keepc c0_4
            have c1_5 := f5.keepc c1_4
            have c2_5 := f5.keepc c2_4
            have c3_5 := f5.keepc c3_4
            have d0_5 := f5.keepc d0_4
            have d1_5 := f5.keepc d1_4
            have d2_5 := f5.keepc d2_4
            have d3_5 := f5.keepc d3_4
            clear f5 HF4 c0_4 c1_4 c2_4 c3_4 d0_4 d1_4 d2_4 d3_4
            go_wp2_with fail
            refine (K5.out _).mono ?_
            rintro e w6 ⟨rfl, f6⟩
            have HF6 := Lib.hid (HF5.out.noTrans f6)
            have c0_6 := f6.keepc c0_5
            have c1_6 := f6.keepc c1_5
            have c2_6 := f6.keepc c2_5
            have c3_6 := f6.keepc c3_5
            have d0_6 := f6.keepc d0_5
            have d1_6 := f6.keepc d1_5
            have d2_6 := f6.keepc d2_5
            have d3_6 := f6.keepc d3_5
            clear f6 HF5 c0_5 c1_5 c2_5 c3_5 d0_5 d1_5 d2_5 d3_5
            go_wp2_with fail
            refine (K6.out _).mono ?_
            rintro e w7 ⟨rfl, f7⟩
            have HF7 := Lib.hid (HF6.out.noTrans f7)
            clear f7 HF6 c0_6 c1_6 c2_6 c3_6 d0_6 d1_6 d2_6 d3_6
            go_wp2_with fail
            go_ret
            exact ⟨by first | rfl | (simp; done) | (simp; omega), HF7.out⟩
          · have x2_ : (e5 + e6 == 0) = false := by simp; omega
            have y2_ : decide (e5 + e6 = 0) = false := by simp; omega
            go_wp2_with fail
            refine (K1.out _).mono ?_
            rintro e w2 ⟨rfl, f2⟩
            have HF2 := Lib.hid (HF1.out.noTrans f2)
            have c0_2 := f2.keepc c0_1
            have c1_2 := f2.keepc c1_1
            have c2_2 := f2.keepc c2_1
            have c3_2 := f2.keepc c3_1
            have d0_2 := f2.keepc d0_1
            have d1_2 := f2.keepc d1_1
            have d2_2 := f2.keepc d2_1
            have d3_2 := f2.keepc d3_1
            clear f2 HF1 c0_1 c1_1 c2_1 c3_1 d0_1 d1_1 d2_1 d3_1
            go_wp2_with fail
            refine (K2.out _).mono ?_
            rintro e w3 ⟨rfl, f3⟩
            have HF3 := Lib.hid (HF2.out.noTrans f3)
            have c0_3 := f3.keepc c0_2
            have c1_3 := f3.keepc c1_2
            have c2_3 := f3.keepc c2_2
            have c3_3 := f3.keepc c3_2
            have d0_3 := f3.keepc d0_2
            have d1_3 := f3.keepc d1_2
            have d2_3 := f3.keepc d2_2
            have d3_3 := f3.keepc d3_2
            clear f3 HF2 c0_2 c1_2 c2_2 c3_2 d0_2 d1_2 d2_2 d3_2
            go_wp2_with fail
            refine (K3.out _).mono ?_
            rintro e w4 ⟨rfl, f4⟩
            have HF4 := Lib.hid (HF3.out.noTrans f4)
            have c0_4 := f4.keepc c0_3
            have c1_4 := f4.keepc c1_3
            have c2_4 := f4.keepc c2_3
            have c3_4 := f4.keepc c3_3
            have d0_4 := f4.keepc d0_3
            have d1_4 := f4.keepc d1_3
            have d2_4 := f4.keepc d2_3
            have d3_4 := f4.keepc d3_3
            clear f4 HF3 c0_3 c1_3 c2_3 c3_3 d0_3 d1_3 d2_3 d3_3
            go_wp2_with fail
            refine (K4.out _).mono ?_
            rintro e w5 ⟨rfl, f5⟩
            have HF5 := Lib.hid (HF4.out.noTrans f5)
            have c0_5 := f5.keepc c0_4
            have c1_5 := f5.keepc c1_4
            have c2_5 := f5.keepc c2_4
            have c3_5 := f5.keepc c3_4
            have d0_5 := f5.keepc d0_4
            have d1_5 := f5.keepc d1_4
            have d2_5 := f5.keepc d2_4
            have d3_5 := f5.keepc d3_4
            clear f5 HF4 c0_4 c1_4 c2_4 c3_4 d0_4 d1_4 d2_4 d3_4
            go_wp2_with fail
            refine (K5.out _).mono ?_
            rintro e w6 ⟨rfl, f6⟩
            have HF6 := Lib.hid (HF5.out.noTrans f6)
            have c0_6 := f6.keepc c0_5
            have c1_6 := f6.keepc c1_5
            have c2_6 := f6.keepc c2_5
            have c3_6 := f6.keepc c3_5
            have d0_6 := f6.keepc d0_5
            have d1_6 := f6.keepc d1_5
            have d2_6 := f6.keepc d2_5
            have d3_6 := f6.keepc d3_5
            clear f6 HF5 c0_5 c1_5 c2_5 c3_5 d0_5 d1_5 d2_5 d3_5
            go_wp2_with fail
            refine (K6.out _).mono ?_
            rintro e w7 ⟨rfl, f7⟩
            have HF7 := Lib.hid (HF6.out.noTrans f7)
            clear f7 HF6 c0_6 c1_6 c2_6 c3_6 d0_6 d1_6 d2_6 d3_6
            go_wp2_with fail
            go_ret
            exact ⟨by first | rfl | (simp; done) | (simp; omega), HF7.out⟩
        · have x1_ : (e3 + e4 == 0) = false := by simp; omega
          have y1_ : decide (e3 + e4 = 0) = false := by simp; omega
          rcases M3 with ⟨rfl, rfl, l2, m2⟩ | ⟨⟨p2, q2⟩, ⟨r2, s2⟩, t2⟩
          · go_wp2_with fail
            refine (K1.out _).mono ?_
            rintro e w2 ⟨rfl, f2⟩
            have HF2 := Lib.hid (HF1.out.noTrans f2)
            have c0_2 := f2.keepc c0_1
            have c1_2 := f2.keepc c1_1
            have c2_2 := f2.keepc c2_1
            have c3_2 := f2.keepc c3_1
            have d0_2 := f2.keepc d0_1
            have d1_2 := f2.keepc d1_1
            have d2_2 := f2.keepc d2_1
            have d3_2 := f2.keepc d3_1
            clear f2 HF1 c0_1 c1_1 c2_1 c3_1 d0_1 d1_1 d2_1 d3_1
            go_wp2_with fail
            refine (K2.out _).mono ?_
            rintro e w3 ⟨rfl, f3⟩
            have HF3 := Lib.hid (HF2.out.noTrans f3)
            have c0_3 := f3.keepc c0_2
            have c1_3 := f3.keepc c1_2
            have c2_3 := f3.keepc c2_2
            have c3_3 := f3.keepc c3_2
            have d0_3 := f3.keepc d0_2
            have d1_3 := f3.keepc d1_2
            have d2_3 := f3.keepc d2_2
            have d3_3 := f3.keepc d3_2
            clear f3 HF2 c0_2 c1_2 c2_2 c3_2 d0_2 d1_2 d2_2 d3_2
            go_wp2_with fail
            refine (K3.out _).mono ?_
            rintro e w4 ⟨rfl, f4⟩
            have HF4 := Lib.hid (HF3.out.noTrans f4)
            have c0_4 := f4.keepc c0_3
            have c1_4 := f4.keepc c1_3
            have c2_4 := f4.keepc c2_3
            have c3_4 := f4.keepc c3_3
            have d0_4 := f4.keepc d0_3
            have d1_4 := f4.keepc d1_3
            have d2_4 := f4.keepc d2_3
            have d3_4 := f4.keepc d3_3
            clear f4 HF3 c0_3 c1_3 c2_3 c3_3 d0_3 d1_3 d2_3 d3_3
            go_wp2_with fail
            refine (K4.out _).mono ?_
            rintro e w5 ⟨rfl, f5⟩
            have HF5 := Lib.hid (HF4.out.noTrans f5)
            have c0_5 := f5.keepc c0_4
            have c1_5 := f5.keepc c1_4
            have c2_5 := f5.keepc c2_4
            have c3_5 := f5.keepc c3_4
            have d0_5 := f5.keepc d0_4
            have d1_5 := f5.keepc d1_4
            have d2_5 := f5.keepc d2_4
            have d3_5 := f5.keepc d3_4
            clear f5 HF4 c0_4 c1_4 c2_4 c3_4 d0_4 d1_4 d2_4 d3_4
            go_wp2_with fail
            refine (K5.out _).mono ?_
            rintro e w6 ⟨rfl, f6⟩
            have HF6 := Lib.hid (HF5.out.noTrans f6)
            have c0_6 := f6.keepc c0_5
            have c1_6 := f6.keepc c1_5
            have c2_6 := f6.keepc c2_5
            have c3_6 := f6.keepc c3_5
            have d0_6 := f6.keepc d0_5
            have d1_6 := f6.keepc d1_5
            have d2_6 := f6.keepc d2_5
            have d3_6 := f6.keepc d3_5
            clear f6 HF5 c0_5 c1_5 c2_5 c3_5 d0_5 d1_5 d2_5 d3_5
            go_wp2_with fail
            refine (K6.out _).mono ?_
            rintro e w7 ⟨rfl, f7⟩
            have HF7 := Lib.hid (HF6.out.noTrans f7)
            clear f7 HF6 c0_6 c1_6 c2_6 c3_6 d0_6 d1_6 d2_6 d3_6
            go_wp2_with fail
            go_ret
            exact ⟨by first | rfl | (simp; done) | (simp; omega), HF7.out⟩
          · have x2_ : (e5 + e6 == 0) = false := by simp; omega
            have y2_ : decide (e5 + e6 = 0) = false := by simp; omega
            go_wp2_with fail
            refine (K1.out _).mono ?_
            rintro e w2 ⟨rfl, f2⟩
            have HF2 := Lib.hid (HF1.out.noTrans f2)
            have c0_2 := f2.keepc c0_1
            have c1_2 := f2.keepc c1_1
            have c2_2 := f2.keepc c2_1
            have c3_2 := f2.keepc c3_1
            have d0_2 := f2.keepc d0_1
            have d1_2 := f2.keepc d1_1
            have d2_2 := f2.keepc d2_1
            have d3_2 := f2.keepc d3_1
            clear f2 HF1 c0_1 c1_1 c2_1 c3_1 d0_1 d1_1 d2_1 d3_1
            go_wp2_with fail
            refine (K2.out _).mono ?_
            rintro e w3 ⟨rfl, f3⟩
            have HF3 := Lib.hid (HF2.out.noTrans f3)
            have c0_3 := f3.keepc c0_2
            have c1_3 := f3.keepc c1_2
            have c2_3 := f3.keepc c2_2
            have c3_3 := f3.keepc c3_2
            have d0_3 := f3.keepc d0_2
            have d1_3 := f3.keepc d1_2
            have d2_3 := f3.keepc d2_2
            have d3_3 := f3.keepc d3_2
            clear f3 HF2 c0_2 c1_2 c2_2 c3_2 d0_2 d1_2 d2_2 d3_2
            go_wp2_with fail
            refine (K3.out _).mono ?_
            rintro e w4 ⟨rfl, f4⟩
            have HF4 := Lib.hid (HF3.out.noTrans f4)
            have c0_4 := f4.keepc c0_3
            have c1_4 := f4.keepc c1_3
            have c2_4 := f4.keepc c2_3
            have c3_4 := f4.keepc c3_3
            have d0_4 := f4.keepc d0_3
            have d1_4 := f4.keepc d1_3
            have d2_4 := f4.keepc d2_3
            have d3_4 := f4.keepc d3_3
            clear f4 HF3 c0_3 c1_3 c2_3 c3_3 d0_3 d1_3 d2_3 d3_3
            go_wp2_with fail
            refine (K4.out _).mono ?_
            rintro e w5 ⟨rfl, f5⟩
            have HF5 := Lib.hid (HF4.out.noTrans f5)
            have c0_5 := f5.keepc c0_4
            have c1_5 := f5.keepc c1_4
            have c2_5 := f5.keepc c2_4
            have c3_5 := f5.keepc c3_4
            have d0_5 := f5.keepc d0_4
            have d1_5 := f5.keepc d1_4
            have d2_5 := f5.keepc d2_4
            have d3_5 := f5.keepc d3_4
            clear f5 HF4 c0_4 c1_4 c2_4 c3_4 d0_4 d1_4 d2_4 d3_4
            go_wp2_with fail
            refine (K5.out _).mono ?_
            rintro e w6 ⟨rfl, f6⟩
            have HF6 := Lib.hid (HF5.out.noTrans f6)
            have c0_6 := f6.keepc c0_5
            have c1_6 := f6.keepc c1_5
            have c2_6 := f6.keepc c2_5
            have c3_6 := f6.keepc c3_5
            have d0_6 := f6.keepc d0_5
            have d1_6 := f6.keepc d1_5
            have d2_6 := f6.keepc d2_5
            have d3_6 := f6.keepc d3_5
            clear f6 HF5 c0_5 c1_5 c2_5 c3_5 d0_5 d1_5 d2_5 d3_5
            go_wp2_with fail
            refine (K6.out _).mono ?_
            rintro e w7 ⟨rfl, f7⟩
            have HF7 := Lib.hid (HF6.out.noTrans f7)
            clear f7 HF6 c0_6 c1_6 c2_6 c3_6 d0_6 d1_6 d2_6 d3_6
            go_wp2_with fail
            go_ret
            exact ⟨by first | rfl | (simp; done) | (simp; omega), HF7.out⟩
      · have x0_ : (e1 + e2 == 0) = false := by simp; omega
        have y0_ : decide (e1 + e2 = 0) = false := by simp; omega
        rcases M2 with ⟨rfl, rfl, l1, m1⟩ | ⟨⟨p1, q1⟩, ⟨r1, s1⟩, t1⟩
        · rcases M3 with ⟨rfl, rfl, l2, m2⟩ | ⟨⟨p2, q2⟩, ⟨r2, s2⟩, t2⟩
          · go_wp2_with fail
            refine (K1.out _).mono ?_
            rintro e w2 ⟨rfl, f2⟩
            have HF2 := Lib.hid (HF1.out.noTrans f2)
            have c0_2 := f2.keepc c0_1
            have c1_2 := f2.keepc c1_1
            have c2_2 := f2.keepc c2_1
            have c3_2 := f2.keepc c3_1
            have d0_2 := f2.keepc d0_1
            have d1_2 := f2.keepc d1_1
            have d2_2 := f2.keepc d2_1
            have d3_2 := f2.keepc d3_1
            clear f2 HF1 c0_1 c1_1 c2_1 c3_1 d0_1 d1_1 d2_1 d3_1
            go_wp2_with fail
            refine (K2.out _).mono ?_
            rintro e w3 ⟨rfl, f3⟩
            have HF3 := Lib.hid (HF2.out.noTrans f3)
            have c0_3 := f3.keepc c0_2
            have c1_3 := f3.keepc c1_2
            have c2_3 := f3.keepc c2_2
            have c3_3 := f3.keepc c3_2
            have d0_3 := f3.keepc d0_2
            have d1_3 := f3.keepc d1_2
            have d2_3 := f3.keepc d2_2
            have d3_3 := f3.keepc d3_2
            clear f3 HF2 c0_2 c1_2 c2_2 c3_2 d0_2 d1_2 d2_2 d3_2
            go_wp2_with fail
            refine (K3.out _).mono ?_
            rintro e w4 ⟨rfl, f4⟩
            have HF4 := Lib.hid (HF3.out.noTrans f4)
            have c0_4 := f4.keepc c0_3
            have c1_4 := f4.keepc c1_3
            have c2_4 := f4.keepc c2_3
            have c3_4 := f4.keepc c3_3
            have d0_4 := f4.keepc d0_3
            have d1_4 := f4.keepc d1_3
            have d2_4 := f4.keepc d2_3
            have d3_4 := f4.keepc d3_3
            clear f4 HF3 c0_3 c1_3 c2_3 c3_3 d0_3 d1_3 d2_3 d3_3
            go_wp2_with fail
            refine (K4.out _).mono ?_
            rintro e w5 ⟨rfl, f5⟩
            have HF5 := Lib.hid (HF4.out.noTrans f5)
            have c0_5 := f5.keepc c0_4
            have c1_5 := f5.keepc c1_4
            have c2_5 := f5.keepc c2_4
            have c3_5 := f5.keepc c3_4
            have d0_5 := f5.keepc d0_4
            have d1_5 := f5.keepc d1_4
            have d2_5 := f5.keepc d2_4
            have d3_5 := f5.keepc d3_4
            clear f5 HF4 c0_4 c1_4 c2_4 c3_4 d0_4 d1_4 d2_4 d3_4
            go_wp2_with fail
            refine (K5.out _).mono ?_
            rintro e w6 ⟨rfl, f6⟩
            have HF6 := Lib.hid (HF5.out.noTrans f6)
            have c0_6 := f6.keepc c0_5
            have c1_6 := f6.keepc c1_5
            have c2_6 := f6.keepc c2_5
            have c3_6 := f6.keepc c3_5
            have d0_6 := f6.keepc d0_5
            have d1_6 := f6.keepc d1_5
            have d2_6 := f6.keepc d2_5
            have d3_6 := f6.keepc d3_5
            clear f6 HF5 c0_5 c1_5 c2_5 c3_5 d0_5 d1_5 d2_5 d3_5
            go_wp2_with fail
            refine (K6.out _).mono ?_
            rintro e w7 ⟨rfl, f7⟩
            have HF7 := Lib.hid (HF6.out.noTrans f7)
            clear f7 HF6 c0_6 c1_6 c2_6 c3_6 d0_6 d1_6 d2_6 d3_6
            go_wp2_with fail
            go_ret
            exact ⟨by first | rfl | (simp; done) | (simp; omega), HF7.out⟩
          · have x2_ : (e5 + e6 == 0) = false := by simp; omega
            have y2_ : decide (e5 + e6 = 0) = false := by simp; omega
            go_wp2_with fail
            refine (K1.out _).mono ?_
            rintro e w2 ⟨rfl, f2⟩
            have HF2 := Lib.hid (HF1.out.noTrans f2)
            have c0_2 := f2.keepc c0_1
            have c1_2 := f2.keepc c1_1
            have c2_2 := f2.keepc c2_1
            have c3_2 := f2.keepc c3_1
            have d0_2 := f2.keepc d0_1
            have d1_2 := f2.keepc d1_1
            have d2_2 := f2.keepc d2_1
            have d3_2 := f2.keepc d3_1
            clear f2 HF1 c0_1 c1_1 c2_1 c3_1 d0_1 d1_1 d2_1 d3_1
            go_wp2_with fail
            refine (K2.out _).mono ?_
            rintro e w3 ⟨rfl, f3⟩
            have HF3 := Lib.hid (HF2.out.noTrans f3)
            have c0_3 := f3.keepc c0_2
            have c1_3 := f3.keepc c1_2
            have c2_3 := f3.keepc c2_2
            have c3_3 := f3.keepc c3_2
            have d0_3 := f3.keepc d0_2
            have d1_3 := f3.keepc d1_2
            have d2_3 := f3.keepc d2_2
            have d3_3 := f3.keepc d3_2
            clear f3 HF2 c0_2 c1_2 c2_2 c3_2 d0_2 d1_2 d2_2 d3_2
            go_wp2_with fail
            refine (K3.out _).mono ?_
            rintro e w4 ⟨rfl, f4⟩
            have HF4 := Lib.hid (HF3.out.noTrans f4)
            have c0_4 := f4.keepc c0_3
            have c1_4 := f4.keepc c1_3
            have c2_4 := f4.keepc c2_3
            have c3_4 := f4.keepc c3_3
            have d0_4 := f4.keepc d0_3
            have d1_4 := f4.keepc d1_3
            have d2_4 := f4.keepc d2_3
            have d3_4 := f4.keepc d3_3
            clear f4 HF3 c0_3 c1_3 c2_3 c3_3 d0_3 d1_3 d2_3 d3_3
            go_wp2_with fail
            refine (K4.out _).mono ?_
            rintro e w5 ⟨rfl, f5⟩
            have HF5 := Lib.hid (HF4.out.noTrans f5)
            have c0_5 := f5.keepc c0_4
            have c1_5 := f5.keepc c1_4
            have c2_5 := f5.keepc c2_4
            have c3_5 := f5.keepc c3_4
            have d0_5 := f5.keepc d0_4
            have d1_5 := f5.keepc d1_4
            have d2_5 := f5.keepc d2_4
            have d3_5 := f5.keepc d3_4
            clear f5 HF4 c0_4 c1_4 c2_4 c3_4 d0_4 d1_4 d2_4 d3_4
            go_wp2_with fail
            refine (K5.out _).mono ?_
            rintro e w6 ⟨rfl, f6⟩
            have HF6 := Lib.hid (HF5.out.noTrans f6)
            have c0_6 := f6.keepc c0_5
            have c1_6 := f6.keepc c1_5
            have c2_6 := f6.keepc c2_5
            have c3_6 := f6.keepc c3_5
            have d0_6 := f6.keepc d0_5
            have d1_6 := f6.keepc d1_5
            have d2_6 := f6.keepc d2_5
            have d3_6 := f6.keepc d3_5
            clear f6 HF5 c0_5 c1_5 c2_5 c3_5 d0_5 d1_5 d2_5 d3_5
            go_wp2_with fail
            refine (K6.out _).mono ?_
            rintro e w7 ⟨rfl, f7⟩
            have HF7 := Lib.hid (HF6.out.noTrans f7)
            clear f7 HF6 c0_6 c1_6 c2_6 c3_6 d0_6 d1_6 d2_6 d3_6
            go_wp2_with fail
            go_ret
            exact ⟨by first | rfl | (simp; done) | (simp; omega), HF7.out⟩
        · have x1_ : (e3 + e4 == 0) = false := by simp; omega
          have y1_ : decide (e3 + e4 = 0) = false := by simp; omega
          rcases M3 with ⟨rfl, rfl, l2, m2⟩ | ⟨⟨p2, q2⟩, ⟨r2, s2⟩, t2⟩
          · go_wp2_with fail
            refine (K1.out _).mono ?_
            rintro e w2 ⟨rfl, f2⟩
            have HF2 := Lib.hid (HF1.out.noTrans f2)
            have c0_2 := f2.keepc c0_1
            have c1_2 := f2.keepc c1_1
            have c2_2 := f2.keepc c2_1
            have c3_2 := f2.keepc c3_1
            have d0_2 := f2.keepc d0_1
            have d1_2 := f2.keepc d1_1
            have d2_2 := f2.keepc d2_1
            have d3_2 := f2.keepc d3_1
            clear f2 HF1 c0_1 c1_1 c2_1 c3_1 d0_1 d1_1 d2_1 d3_1
            go_wp2_with fail
            refine (K2.out _).mono ?_
            rintro e w3 ⟨rfl, f3⟩
            have HF3 := Lib.hid (HF2.out.noTrans f3)
            have c0_3 := f3.keepc c0_2
            have c1_3 := f3.keepc c1_2
            have c2_3 := f3.keepc c2_2
            have c3_3 := f3.keepc c3_2
            have d0_3 := f3.keepc d0_2
            have d1_3 := f3.keepc d1_2
            have d2_3 := f3.keepc d2_2
            have d3_3 := f3.keepc d3_2
            clear f3 HF2 c0_2 c1_2 c2_2 c3_2 d0_2 d1_2 d2_2 d3_2
            go_wp2_with fail
            refine (K3.out _).mono ?_
            rintro e w4 ⟨rfl, f4⟩
            have HF4 := Lib.hid (HF3.out.noTrans f4)
            have c0_4 := f4.keepc c0_3
            have c1_4 := f4.keepc c1_3
            have c2_4 := f4.keepc c2_3
            have c3_4 := f4.keepc c3_3
            have d0_4 := f4.keepc d0_3
            have d1_4 := f4.keepc d1_3
            have d2_4 := f4.keepc d2_3
            have d3_4 := f4.keepc d3_3
            clear f4 HF3 c0_3 c1_3 c2_3 c3_3 d0_3 d1_3 d2_3 d3_3
            go_wp2_with fail
            refine (K4.out _).mono ?_
            rintro e w5 ⟨rfl, f5⟩
            have HF5 := Lib.hid (HF4.out.noTrans f5)
            have c0_5 := f5.keepc c0_4
            have c1_5 := f5.keepc c1_4
            have c2_5 := f5.keepc c2_4
            have c3_5 := f5.keepc c3_4
            have d0_5 := f5.keepc d0_4
            have d1_5 := f5.keepc d1_4
            have d2_5 := f5.keepc d2_4
            have d3_5 := f5.keepc d3_4
            clear f5 HF4 c0_4 c1_4 c2_4 c3_4 d0_4 d1_4 d2_4 d3_4
            go_wp2_with fail
            refine (K5.out _).mono ?_
            rintro e w6 ⟨rfl, f6⟩
            have HF6 := Lib.hid (HF5.out.noTrans f6)
            have c0_6 := f6.keepc c0_5
            have c1_6 := f6.keepc c1_5
            have c2_6 := f6.keepc c2_5
            have c3_6 := f6.keepc c3_5
            have d0_6 := f6.keepc d0_5
            have d1_6 := f6.keepc d1_5
            have d2_6 := f6.keepc d2_5
            have d3_6 := f6.keepc d3_5
            clear f6 HF5 c0_5 c1_5 c2_5 c3_5 d0_5 d1_5 d2_5 d3_5
            go_wp2_with fail
            refine (K6.out _).mono ?_
            rintro e w7 ⟨rfl, f7⟩
            have HF7 := Lib.hid (HF6.out.noTrans f7)
            clear f7 HF6 c0_6 c1_6 c2_6 c3_6 d0_6 d1_6 d2_6 d3_6
            go_wp2_with fail
            go_ret
            exact ⟨by first | rfl | (simp; done) | (simp; omega), HF7.out⟩
          · have x2_ : (e5 + e6 == 0) = false := by simp; omega
            have y2_ : decide (e5 + e6 = 0) = false := by simp; omega
            go_wp2_with fail
            refine (K1.out _).mono ?_
            rintro e w2 ⟨rfl, f2⟩
            have HF2 := Lib.hid (HF1.out.noTrans f2)
            have c0_2 := f2.keepc c0_1
            have c1_2 := f2.keepc c1_1
            have c2_2 := f2.keepc c2_1
            have c3_2 := f2.keepc c3_1
            have d0_2 := f2.keepc d0_1
            have d1_2 := f2.keepc d1_1
            have d2_2 := f2.keepc d2_1
            have d3_2 := f2.keepc d3_1
            clear f2 HF1 c0_1 c1_1 c2_1 c3_1 d0_1 d1_1 d2_1 d3_1
            go_wp2_with fail
            refine (K2.out _).mono ?_
            rintro e w3 ⟨rfl, f3⟩
            have HF3 := Lib.hid (HF2.out.noTrans f3)
            have c0_3 := f3.keepc c0_2
            have c1_3 := f3.keepc c1_2
            have c2_3 := f3.keepc c2_2
            have c3_3 := f3.keepc c3_2
            have d0_3 := f3.keepc d0_2
            have d1_3 := f3.keepc d1_2
            have d2_3 := f3.keepc d2_2
            have d3_3 := f3.keepc d3_2
            clear f3 HF2 c0_2 c1_2 c2_2 c3_2 d0_2 d1_2 d2_2 d3_2
            go_wp2_with fail
            refine (K3.out _).mono ?_
            rintro e w4 ⟨rfl, f4⟩
            have HF4 := Lib.hid (HF3.out.noTrans f4)
            have c0_4 := f4.keepc c0_3
            have c1_4 := f4.keepc c1_3
            have c2_4 := f4.keepc c2_3
            have c3_4 := f4.keepc c3_3
            have d0_4 := f4.keepc d0_3
            have d1_4 := f4.keepc d1_3
            have d2_4 := f4.keepc d2_3
            have d3_4 := f4.keepc d3_3
            clear f4 HF3 c0_3 c1_3 c2_3 c3_3 d0_3 d1_3 d2_3 d3_3
            go_wp2_with fail
            refine (K4.out _).mono ?_
            rintro e w5 ⟨rfl, f5⟩
            have HF5 := Lib.hid (HF4.out.noTrans f5)
            have c0_5 := f5.keepc c0_4
            have c1_5 := f5.keepc c1_4
            have c2_5 := f5.keepc c2_4
            have c3_5 := f5.keepc c3_4
            have d0_5 := f5.keepc d0_4
            have d1_5 := f5.keepc d1_4
            have d2_5 := f5.keepc d2_4
            have d3_5 := f5.keepc d3_4
            clear f5 HF4 c0_4 c1_4 c2_4 c3_4 d0_4 d1_4 d2_4 d3_4
            go_wp2_with fail
            refine (K5.out _).mono ?_
            rintro e w6 ⟨rfl, f6⟩
            have HF6 := Lib.hid (HF5.out.noTrans f6)
            have c0_6 := f6.keepc c0_5
            have c1_6 := f6.keepc c1_5
            have c2_6 := f6.keepc c2_5
            have c3_6 := f6.keepc c3_5
            have d0_6 := f6.keepc d0_5
            have d1_6 := f6.keepc d1_5
            have d2_6 := f6.keepc d2_5
            have d3_6 := f6.keepc d3_5
            clear f6 HF5 c0_5 c1_5 c2_5 c3_5 d0_5 d1_5 d2_5 d3_5
            go_wp2_with fail
            refine (K6.out _).mono ?_
            rintro e w7 ⟨rfl, f7⟩
            have HF7 := Lib.hid (HF6.out.noTrans f7)
            clear f7 HF6 c0_6 c1_6 c2_6 c3_6 d0_6 d1_6 d2_6 d3_6
            go_wp2_with fail
            go_ret
            exact ⟨by first | rfl | (simp; done) | (simp; omega), HF7.out⟩

end Go.Proofs.Ytgddmmlkpajpmaa
