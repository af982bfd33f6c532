/- A copy of a list of fadings. -/
import Derived.Test.YtdenlinehjigaaaLwG
import Derived.Laws.OwnMore
import Derived.Deep.AppendLies
import Derived.Deep.RegionLaw
namespace Go.Proofs.Ytdenlinehjigaaa
open Go.RowKit
set_option linter.unusedVariables false

theorem info66 : (Try.prog.info? 66).map (fun i => (i.zero, i.size, i.bytes)) = some (some (.agg #[.int .i64 0, .int .i64 0, .int .i64 0, .int .i64 0, .int .i64 0, .int .i64 0]), 6, 48) := by kernel_rfl
def fdVals (v : Fd) : List Value := [.int .i64 v.fr, .int .i64 v.to, .int .i64 v.ch, .int .i64 v.fi, .int .i64 v.un, .int .i64 v.fa]
def flatF (ws : List Fd) : List Value := ws.flatMap fdVals
theorem flatF_len (ws : List Fd) : (flatF ws).length = ws.length * 6 := by
  induction ws with
  | nil => rfl
  | cons v l ih => simp only [flatF, List.flatMap_cons, List.length_append] at *; rw [ih]; simp [fdVals]; omega
theorem flatF_at (ws : List Fd) (i j : Nat) (hi : i < ws.length) (hj : j < 6) : (flatF ws)[i * 6 + j]? = (fdVals (fdAt ws i))[j]? := by
  induction ws generalizing i with
  | nil => simp at hi
  | cons v l ih =>
    simp only [flatF, List.flatMap_cons] at *
    cases i with
    | zero =>
      rw [Nat.zero_mul, Nat.zero_add, List.getElem?_append_left (by simpa [fdVals] using hj)]
      rfl
    | succ i =>
      rw [List.getElem?_append_right (by simp [fdVals]; omega), show (i + 1) * 6 + j - (fdVals v).length = i * 6 + j by simp [fdVals]; omega, ih i (by simpa using hi)]
      rfl
theorem flatF_app (a b : List Fd) : flatF (a ++ b) = flatF a ++ flatF b := by simp [flatF]
theorem flatF_one (ws : List Fd) : ∀ u ∈ flatF ws, u.oneCell' = true := by
  intro u hu
  simp only [flatF, List.mem_flatMap] at hu
  obtain ⟨v, _, hv⟩ := hu
  simp only [fdVals, List.mem_cons, List.not_mem_nil, or_false] at hv
  rcases hv with rfl | rfl | rfl | rfl | rfl | rfl <;> rfl
theorem add_at (b off j : Nat) : (⟨b, off, none⟩ : Addr).add j = ⟨b, off + j, none⟩ := by unfold Addr.add; split <;> simp_all
/-- The cells of walls in memory are these. -/
theorem fds_cells {w : World} {a : Addr} {len : Nat} {ws : List Fd} (h : FdsIn w (some a) len ws) (h0 : 0 < len) : ∀ j u, (flatF ws)[j]? = some u → w.cell? (a.add j) = some u := fun j u hu => by
  have hl := h.1
  have hj : j < (flatF ws).length := (List.getElem?_eq_some_iff.1 hu).1
  rw [flatF_len] at hj
  obtain ⟨b, off, ha, c0, c1, c2, c3, c4, c5⟩ := h.2 (j / 6) (by omega)
  cases ha
  have e : j = j / 6 * 6 + j % 6 := by omega
  rw [e, flatF_at ws _ _ (by omega) (by omega)] at hu
  have hadd := add_at b off j
  rw [hadd]
  have hm : j % 6 < 6 := by omega
  generalize j / 6 = q at *
  generalize j % 6 = r at *
  subst e
  match r, hm, hu with
  | 0, _, hu => exact c0.trans hu
  | 1, _, hu => exact c1.trans hu
  | 2, _, hu => exact c2.trans hu
  | 3, _, hu => exact c3.trans hu
  | 4, _, hu => exact c4.trans hu
  | 5, _, hu => exact c5.trans hu
/-- A row of walls that the call owns reads as them. -/
theorem own_fds {w : World} {B g cap len : Nat} {ws : List Fd} (h : w.ownsRow B 66 6 (.slice (some ⟨g, 0, none⟩) len cap) len (flatF ws)) (hl : ws.length = len) : FdsIn w (some ⟨g, 0, none⟩) len ws :=
  ⟨hl, fun i hi => ⟨g, 0, rfl, by
    have hc : ∀ j, j < 6 → w.cell? ⟨g, 0 + i * 6 + j, none⟩ = (fdVals (fdAt ws i))[j]? := fun j hj => by
      rw [Nat.zero_add, h.cellAt (i * 6 + j) (by omega), flatF_at ws i j (by omega) hj]
    exact ⟨hc 0 (by omega), hc 1 (by omega), hc 2 (by omega), hc 3 (by omega), hc 4 (by omega), hc 5 (by omega)⟩⟩⟩
def CloneF (w w' : World) (len : Nat) (ws : List Fd) (e : Ending) : Prop := ∃ v, e = .returned v ∧ w'.ownsRow w.heap.size 66 6 v len (flatF ws) ∧ Fr no w w'
theorem cell_alloc {w : World} {a : Addr} {u : Value} (o : Obj) (h : w.cell? a = some u) : (w.alloc o).cell? a = some u := (World.cell?_alloc_lt _ _ _ (World.block_lt_of_cell? w a h)).trans h
set_option maxHeartbeats 2000000 in
theorem cloneF_some (a : Addr) (len cap : Nat) (ws : List Fd) (w : World) (hl : ws.length = len) (hl2 : len ≤ 80) (hc : ∀ j u, (flatF ws)[j]? = some u → w.cell? (a.add j) = some u) :
    Calls Try.prog 47 #[.slice (some a) len cap] w (fun e w' => CloneF w w' len ws e) := by
  obtain ⟨i0, hi, hz0, hz1, hz2⟩ := info_parts info66
  have A := Lib.hid hc
  have HL := Lib.hid hl
  have HL2 := Lib.hid hl2
  clear hc hl hl2
  have q45 : ∀ (w : World) (a : Option Addr) (n c n' c' : Nat), (binOp .eql 45 (.slice a n c) (.slice none n' c')).run Try.prog w = .ok (.bool a.isNone) w := fun w a n c n' c' => Lib.run_eql_slice_nil w _ _ a n c n' c' Try.underlying45
  go_enter Try.func47, Try.ntmps47
  go_wp2_with (at_builtin; refine wpList_append_own _ rfl _ _ 45 rfl w.heap.size 66 i0 _ 6 48 Try.underlying45 hi hz0 hz1 hz2 rfl (by decide) _ _ _ rfl (World.ownsRow_made w #[] 0 (Nat.le_refl _) (Nat.zero_le _) (by simp)) a len cap (flatF ws) rfl ?qc1 ?qc2 ?qc3 ?qc4 ?qc5 ?qc6 ?_)
  case qc1 => rw [flatF_len, HL.out]
  case qc2 =>
    intro j u hj
    exact cell_alloc _ (A.out j u hj)
  case qc3 => exact flatF_one ws
  case qc4 => have := HL2.out; unfold maxLen; omega
  case qc5 => have := HL2.out; omega
  case qc6 => simp
  intro v' w1 hown hgrow hnil
  go_wp2_with fail
  go_ret
  refine ⟨v', rfl, by simpa using hown, ((Fr.refl no w).alloc _).grown hgrow (fun k hk => ?_)⟩
  simp [Value.ownBlock] at hk
  exact .inr (by omega)
set_option maxHeartbeats 1000000 in
theorem cloneF_none (len cap : Nat) (w : World) (hl : len = 0) :
    Calls Try.prog 47 #[.slice none len cap] w (fun e w' => CloneF w w' len [] e) := by
  subst hl
  have q45 : ∀ (w : World) (a : Option Addr) (n c n' c' : Nat), (binOp .eql 45 (.slice a n c) (.slice none n' c')).run Try.prog w = .ok (.bool a.isNone) w := fun w a n c n' c' => Lib.run_eql_slice_nil w _ _ a n c n' c' Try.underlying45
  go_enter Try.func47, Try.ntmps47
  go_wp2_with fail
  go_ret
  exact ⟨_, rfl, ⟨rfl, .inl ⟨rfl, rfl⟩⟩, Fr.refl no w⟩
theorem clone_fds (ao : Option Addr) (len cap : Nat) (ws : List Fd) (w : World) (h : FdsIn w ao len ws) (hl : len ≤ 80) :
    Calls Try.prog 47 #[.slice ao len cap] w (fun e w' => CloneF w w' len ws e) := by
  cases ao with
  | none =>
    have h0 : len = 0 := by
      apply Classical.byContradiction
      intro hn
      obtain ⟨b, off, h1, _⟩ := h.2 0 (by omega)
      cases h1
    have h1 : ws = [] := List.length_eq_zero_iff.1 (by rw [h.1, h0])
    rw [h1]
    exact cloneF_none len cap w h0
  | some a =>
    refine cloneF_some a len cap ws w h.1 hl ?_
    by_cases h0 : len = 0
    · have h1 : ws = [] := List.length_eq_zero_iff.1 (by rw [h.1, h0])
      subst h1
      intro j u hu
      simp [flatF] at hu
    · exact fds_cells h (by omega)
end Go.Proofs.Ytdenlinehjigaaa
