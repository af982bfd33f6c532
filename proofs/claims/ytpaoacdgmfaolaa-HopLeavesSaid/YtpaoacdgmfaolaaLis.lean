/- Lists of integers, copies of them, flags. -/
import Derived.Test.YtpaoacdgmfaolaaProg
import Derived.Test.YtpaoacdgmfaolaaBase
import Derived.Test.YtpaoacdgmfaolaaMth
import Derived.OwnWalk
import Derived.Laws.OwnMore
import Derived.Deep.AppendLies
import Derived.Deep.Onto
namespace Go.Proofs.Ytpaoacdgmfaolaa
set_option linter.unusedVariables false
open Go.RowKit

/-- A slice of integers in memory. -/
def IntsIn (w : World) (ao : Option Addr) (len : Nat) (zs : List Int) : Prop :=
  zs.length = len ∧ ∀ i, i < len → ∃ b off, ao = some ⟨b, off, none⟩ ∧ w.cell? ⟨b, off + i, none⟩ = some (.int .i64 (zs.getD i 0))
theorem IntsIn.kept {w w' : World} {ao : Option Addr} {len : Nat} {zs : List Int} (h : IntsIn w ao len zs) (hf : Fr no w w') : IntsIn w' ao len zs := ⟨h.1, fun i hi => by
  obtain ⟨b, off, ha, hc⟩ := h.2 i hi
  exact ⟨b, off, ha, hf.keepc hc⟩⟩
theorem Fr.growNo {w w' : World} (h : Fr no w w') : w.grownBy w' none := h.grownBy none (fun _ _ h => h.elim)
def Ints (l : List Int) : List Value := l.map fun z : Int => Value.int .i64 z
theorem ints_len (l : List Int) : (Ints l).length = l.length := by simp [Ints]
/-- A row of integers of the call's own. -/
def RowI (B : Nat) (w : World) (v : Value) (l : List Int) : Prop := w.ownsRow B 3 1 v l.length (Ints l)
theorem RowI.kept {B : Nat} {w w' : World} {v : Value} {l : List Int} (h : RowI B w v l) (hf : Fr no w w') : RowI B w' v l := World.ownsRow.kept h hf.growNo (Classical.em _)
theorem RowI.mono {B B' : Nat} {w : World} {v : Value} {l : List Int} (h : RowI B w v l) (hb : B' ≤ B) : RowI B' w v l := World.ownsRow.mono h hb
theorem rowI_ints {B : Nat} {w : World} {v : Value} {l : List Int} (h : RowI B w v l) : ∃ a c, v = .slice a l.length c ∧ l.length ≤ c ∧ IntsIn w a l.length l := by
  have h' : World.ownsRow w B 3 1 v l.length (Ints l) := h
  rcases h'.2 with ⟨rfl, h0⟩ | ⟨g, cap, cur, rfl, hq1, hq2, hq3, hq4, hq5⟩
  · have hl : l.length = 0 := h0
    exact ⟨none, 0, by rw [hl], by omega, rfl, fun i hi => by omega⟩
  · refine ⟨_, _, rfl, by omega, rfl, fun i hi => ⟨g, 0, rfl, ?_⟩⟩
    rw [Nat.zero_add, h'.cellAt i (by omega)]
    simp [Ints, List.getD_eq_getElem?_getD, List.getElem?_eq_getElem hi]
theorem info3 : (Try.prog.info? 3).map (fun i => (i.zero, i.size, i.bytes)) = some (some (.int .i64 0), 1, 8) := by kernel_rfl
theorem info_parts {t : TypeId} {z : Option Value} {s b : Nat} (h : (Try.prog.info? t).map (fun i => (i.zero, i.size, i.bytes)) = some (z, s, b)) : ∃ i, Try.prog.info? t = some i ∧ i.zero = z ∧ i.size = s ∧ i.bytes = b := by
  obtain ⟨i, hi, hx⟩ := Option.map_eq_some_iff.1 h
  simp only [Prod.mk.injEq] at hx
  exact ⟨i, hi, hx.1, hx.2.1, hx.2.2⟩
theorem add_at (b off j : Nat) : (⟨b, off, none⟩ : Addr).add j = ⟨b, off + j, none⟩ := by unfold Addr.add; split <;> simp_all
theorem ints_cells {w : World} {a : Addr} {len : Nat} {zs : List Int} (h : IntsIn w (some a) len zs) : ∀ j u, (Ints zs)[j]? = some u → w.cell? (a.add j) = some u := fun j u hu => by
  have hj : j < (Ints zs).length := (List.getElem?_eq_some_iff.1 hu).1
  rw [ints_len] at hj
  obtain ⟨b, off, ha, hc⟩ := h.2 j (by rw [← h.1]; exact hj)
  cases ha
  rw [add_at, hc]
  simp [Ints, List.getElem?_eq_getElem hj] at hu
  simp [List.getD_eq_getElem?_getD, List.getElem?_eq_getElem hj, hu]
theorem ints_one (l : List Int) : ∀ u ∈ Ints l, u.oneCell' = true := by
  intro u hu
  simp only [Ints, List.mem_map] at hu
  obtain ⟨z, _, rfl⟩ := hu
  rfl
theorem cell_alloc {w : World} {a : Addr} {u : Value} (o : Obj) (h : w.cell? a = some u) : (w.alloc o).cell? a = some u := (World.cell?_alloc_lt _ _ _ (World.block_lt_of_cell? w a h)).trans h
def CloneI (w w' : World) (zs : List Int) (e : Ending) : Prop := ∃ v, e = .returned v ∧ RowI w.heap.size w' v zs ∧ Fr no w w'
set_option maxHeartbeats 2000000 in
theorem cloneI_some (a : Addr) (len cap : Nat) (zs : List Int) (w : World) (hl : zs.length = len) (hl2 : len ≤ 100) (hc : ∀ j u, (Ints zs)[j]? = some u → w.cell? (a.add j) = some u) :
    Calls Try.prog 26 #[.slice (some a) len cap] w (fun e w' => CloneI w w' zs e) := by
  obtain ⟨i0, hi, hz0, hz1, hz2⟩ := info_parts info3
  have A := Lib.hid hc
  have HL := Lib.hid hl
  have HL2 := Lib.hid hl2
  clear hc hl hl2
  have q22 : ∀ (w : World) (a : Option Addr) (n c n' c' : Nat), (binOp .eql 22 (.slice a n c) (.slice none n' c')).run Try.prog w = .ok (.bool a.isNone) w := fun w a n c n' c' => Lib.run_eql_slice_nil w _ _ a n c n' c' Try.underlying22
  go_enter Try.func26, Try.ntmps26
  go_wp2_with (at_builtin; refine wpList_append_own _ rfl _ _ 22 rfl w.heap.size 3 i0 _ 1 8 Try.underlying22 hi hz0 hz1 hz2 rfl (by decide) _ _ _ rfl (World.ownsRow_made w #[] 0 (Nat.le_refl _) (Nat.zero_le _) (by simp)) a len cap (Ints zs) rfl ?qc1 ?qc2 ?qc3 ?qc4 ?qc5 ?qc6 ?_)
  case qc1 => rw [ints_len, HL.out]; omega
  case qc2 =>
    intro j u hj
    exact cell_alloc _ (A.out j u hj)
  case qc3 => exact ints_one zs
  case qc4 => have := HL2.out; unfold maxLen; omega
  case qc5 => have := HL2.out; omega
  case qc6 => simp
  intro v' w1 hown hgrow hnil
  go_wp2_with fail
  go_ret
  refine ⟨v', rfl, ?_, ((Fr.refl no w).alloc _).grown hgrow (fun k hk => ?_)⟩
  · unfold RowI
    rw [HL.out]
    simpa using hown
  · simp [Value.ownBlock] at hk
    exact .inr (by omega)
set_option maxHeartbeats 1000000 in
theorem cloneI_none (len cap : Nat) (w : World) (hl : len = 0) :
    Calls Try.prog 26 #[.slice none len cap] w (fun e w' => CloneI w w' [] e) := by
  subst hl
  have q22 : ∀ (w : World) (a : Option Addr) (n c n' c' : Nat), (binOp .eql 22 (.slice a n c) (.slice none n' c')).run Try.prog w = .ok (.bool a.isNone) w := fun w a n c n' c' => Lib.run_eql_slice_nil w _ _ a n c n' c' Try.underlying22
  go_enter Try.func26, Try.ntmps26
  go_wp2_with fail
  go_ret
  exact ⟨_, rfl, ⟨rfl, .inl ⟨rfl, rfl⟩⟩, Fr.refl no w⟩
theorem cloneI_any (ao : Option Addr) (len cap : Nat) (zs : List Int) (w : World) (h : IntsIn w ao len zs) (hl : len ≤ 100) :
    Calls Try.prog 26 #[.slice ao len cap] w (fun e w' => CloneI w w' zs e) := by
  cases ao with
  | none =>
    have h0 : len = 0 := by
      apply Classical.byContradiction
      intro hn
      obtain ⟨b, off, h1, _⟩ := h.2 0 (by omega)
      cases h1
    have h1 : zs = [] := List.length_eq_zero_iff.1 (by rw [h.1, h0])
    rw [h1]
    exact cloneI_none len cap w h0
  | some a => exact cloneI_some a len cap zs w h.1 hl (ints_cells h)

theorem own_geN {w : World} {B n : Nat} {v : Value} {xs : List Value} (h : w.ownsRow B 3 1 v n xs) (k : Nat) (hk : v.ownBlock = some k) : B ≤ k := by
  rcases h.2 with ⟨rfl, _⟩ | ⟨g, cap', cur, rfl, hB, _⟩
  · simp [Value.ownBlock] at hk
  · simp only [Value.ownBlock, Option.some.injEq] at hk
    omega
/-- Sixteen flags. -/
def flA (f : Nat → Bool) : Array Value := ((List.range 16).map fun c => Value.bool (f c)).toArray
theorem flA_size (f : Nat → Bool) : (flA f).size = 16 := by simp [flA]
theorem flA_get (f : Nat → Bool) (c : Nat) (h : c < 16) : (flA f)[c]? = some (.bool (f c)) := by simp [flA, h]
theorem flA_set (f : Nat → Bool) (c : Nat) (h : c < 16) : (flA f).setIfInBounds c (.bool true) = flA (fun d => d == c || f d) := by
  refine Array.ext_getElem? fun i => ?_
  rw [Array.getElem?_setIfInBounds]
  by_cases hc : c = i
  · subst hc
    rw [if_pos rfl, if_pos (by rw [flA_size]; exact h), flA_get _ c h]
    simp
  · rw [if_neg hc]
    by_cases h16 : i < 16
    · rw [flA_get f i h16, flA_get _ i h16]
      have : (i == c) = false := by simpa using fun h => hc h.symm
      simp [this]
    · simp [flA, h16]
theorem flA_no : flA (fun _ => false) = #[.bool false, .bool false, .bool false, .bool false, .bool false, .bool false, .bool false, .bool false, .bool false, .bool false, .bool false, .bool false, .bool false, .bool false, .bool false, .bool false] := by kernel_rfl
theorem fl_cell {w : World} {R : Nat} {f : Nat → Bool} (h : w.heap[R]? = some (.cells (flA f) 65 (0, 0))) (c : Nat) (hc : c < 16) : w.cell? ⟨R, c, none⟩ = some (.bool (f c)) ∧ w.frozen? ⟨R, c, none⟩ = false := by
  have := flA_get f c hc
  simp [World.cell?, World.frozen?, h, this]
theorem slice_1 {w : World} {ao : Option Addr} {len : Nat} {zs : List Int} (h : IntsIn w ao len zs) (h0 : 1 ≤ len) : ∃ b off, ao = some ⟨b, off, none⟩ ∧ zs.length = len ∧ ∀ i, i < len → w.cell? ⟨b, off + i, none⟩ = some (.int .i64 (zs.getD i 0)) := by
  obtain ⟨b, off, ha, _⟩ := h.2 0 (by omega)
  refine ⟨b, off, ha, h.1, fun i hi => ?_⟩
  obtain ⟨b', off', ha', hc⟩ := h.2 i hi
  rw [ha] at ha'
  cases ha'
  exact hc

theorem cell_new1 (w : World) (v : Value) (T : Nat) : (w.alloc (.cells #[v] T (0, 0))).cell? ⟨w.heap.size, 0, none⟩ = some v := by simp only [World.cell?, heap_alloc_new w _]; rfl
theorem four_cells {w : World} {B T : Nat} {a b c d : Value} (h : w.heap[B]? = some (.cells #[a, b, c, d] T (0, 0))) :
    w.cell? ⟨B, 0, none⟩ = some a ∧ w.cell? ⟨B, 1, none⟩ = some b ∧ w.cell? ⟨B, 2, none⟩ = some c ∧ w.cell? ⟨B, 3, none⟩ = some d := by
  simp [World.cell?, h]
theorem flA_put (f : Nat → Bool) (c : Nat) (h : c < 16) (v : Bool) : (flA f).setIfInBounds c (.bool v) = flA (fun d => if d == c then v else f d) := by
  refine Array.ext_getElem? fun i => ?_
  rw [Array.getElem?_setIfInBounds]
  by_cases hc : c = i
  · subst hc
    rw [if_pos rfl, if_pos (by rw [flA_size]; exact h), flA_get _ c h]
    simp
  · rw [if_neg hc]
    by_cases h16 : i < 16
    · rw [flA_get f i h16, flA_get _ i h16]
      have : (i == c) = false := by simpa using fun h => hc h.symm
      simp [this]
    · simp [flA, h16]

end Go.Proofs.Ytpaoacdgmfaolaa
