/- Lists of integers; copies; depths. -/
import Derived.Test.YtmkmefcafpgphaaSyh
import Derived.OwnWalk
import Derived.Laws.OwnMore
import Derived.Deep.AppendLies
import Derived.Deep.Onto
namespace Go.Proofs.Ytmkmefcafpgphaa
set_option linter.unusedVariables false
open Go.RowKit


/-- A slice of integers in memory. -/
def IntsIn (w : World) (ao : Option Addr) (len : Nat) (zs : List Int) : Prop :=
  zs.length = len ∧ ∀ i, i < len → ∃ b off, ao = some ⟨b, off, none⟩ ∧ w.cell? ⟨b, off + i, none⟩ = some (.int .i64 (zs.getD i 0))
theorem IntsIn.kept {w w' : World} {ao : Option Addr} {len : Nat} {zs : List Int} (h : IntsIn w ao len zs) (hf : Fr no w w') : IntsIn w' ao len zs := ⟨h.1, fun i hi => by
  obtain ⟨b, off, ha, hc⟩ := h.2 i hi
  exact ⟨b, off, ha, hf.keepc hc⟩⟩
theorem Fr.growNo {w w' : World} (h : Fr no w w') : w.grownBy w' none := h.grownBy none (fun _ _ h => h.elim)
def Ints (l : List Int) : List Value := l.map fun z : Int => Value.int .i64 z
theorem ints_len (l : List Int) : (Ints l).length = l.length := by simp [Ints]
/-- A row of integers of the call's own. -/
def RowI (B : Nat) (w : World) (v : Value) (l : List Int) : Prop := w.ownsRow B 3 1 v l.length (Ints l)
theorem RowI.kept {B : Nat} {w w' : World} {v : Value} {l : List Int} (h : RowI B w v l) (hf : Fr no w w') : RowI B w' v l := World.ownsRow.kept h hf.growNo (Classical.em _)
theorem RowI.mono {B B' : Nat} {w : World} {v : Value} {l : List Int} (h : RowI B w v l) (hb : B' ≤ B) : RowI B' w v l := World.ownsRow.mono h hb
theorem rowI_ints {B : Nat} {w : World} {v : Value} {l : List Int} (h : RowI B w v l) : ∃ a c, v = .slice a l.length c ∧ l.length ≤ c ∧ IntsIn w a l.length l := by
  have h' : World.ownsRow w B 3 1 v l.length (Ints l) := h
  rcases h'.2 with ⟨rfl, h0⟩ | ⟨g, cap, cur, rfl, hq1, hq2, hq3, hq4, hq5⟩
  · have hl : l.length = 0 := h0
    exact ⟨none, 0, by rw [hl], by omega, rfl, fun i hi => by omega⟩
  · refine ⟨_, _, rfl, by omega, rfl, fun i hi => ⟨g, 0, rfl, ?_⟩⟩
    rw [Nat.zero_add, h'.cellAt i (by omega)]
    simp [Ints, List.getD_eq_getElem?_getD, List.getElem?_eq_getElem hi]
theorem info3 : (Try.prog.info? 3).map (fun i => (i.zero, i.size, i.bytes)) = some (some (.int .i64 0), 1, 8) := by kernel_rfl
theorem info_parts {t : TypeId} {z : Option Value} {s b : Nat} (h : (Try.prog.info? t).map (fun i => (i.zero, i.size, i.bytes)) = some (z, s, b)) : ∃ i, Try.prog.info? t = some i ∧ i.zero = z ∧ i.size = s ∧ i.bytes = b := by
  obtain ⟨i, hi, hx⟩ := Option.map_eq_some_iff.1 h
  simp only [Prod.mk.injEq] at hx
  exact ⟨i, hi, hx.1, hx.2.1, hx.2.2⟩
theorem add_at (b off j : Nat) : (⟨b, off, none⟩ : Addr).add j = ⟨b, off + j, none⟩ := by unfold Addr.add; split <;> simp_all
theorem ints_cells {w : World} {a : Addr} {len : Nat} {zs : List Int} (h : IntsIn w (some a) len zs) : ∀ j u, (Ints zs)[j]? = some u → w.cell? (a.add j) = some u := fun j u hu => by
  have hj : j < (Ints zs).length := (List.getElem?_eq_some_iff.1 hu).1
  rw [ints_len] at hj
  obtain ⟨b, off, ha, hc⟩ := h.2 j (by rw [← h.1]; exact hj)
  cases ha
  rw [add_at, hc]
  simp [Ints, List.getElem?_eq_getElem hj] at hu
  simp [List.getD_eq_getElem?_getD, List.getElem?_eq_getElem hj, hu]
theorem ints_one (l : List Int) : ∀ u ∈ Ints l, u.oneCell' = true := by
  intro u hu
  simp only [Ints, List.mem_map] at hu
  obtain ⟨z, _, rfl⟩ := hu
  rfl
theorem cell_alloc {w : World} {a : Addr} {u : Value} (o : Obj) (h : w.cell? a = some u) : (w.alloc o).cell? a = some u := (World.cell?_alloc_lt _ _ _ (World.block_lt_of_cell? w a h)).trans h
def CloneI (w w' : World) (zs : List Int) (e : Ending) : Prop := ∃ v, e = .returned v ∧ RowI w.heap.size w' v zs ∧ Fr no w w'
set_option maxHeartbeats 2000000 in
theorem cloneI_some (a : Addr) (len cap : Nat) (zs : List Int) (w : World) (hl : zs.length = len) (hl2 : len ≤ 40) (hc : ∀ j u, (Ints zs)[j]? = some u → w.cell? (a.add j) = some u) :
    Calls Try.prog 22 #[.slice (some a) len cap] w (fun e w' => CloneI w w' zs e) := by
  obtain ⟨i0, hi, hz0, hz1, hz2⟩ := info_parts info3
  have A := Lib.hid hc
  have HL := Lib.hid hl
  have HL2 := Lib.hid hl2
  clear hc hl hl2
  have q37 : ∀ (w : World) (a : Option Addr) (n c n' c' : Nat), (binOp .eql 37 (.slice a n c) (.slice none n' c')).run Try.prog w = .ok (.bool a.isNone) w := fun w a n c n' c' => Lib.run_eql_slice_nil w _ _ a n c n' c' Try.underlying37
  go_enter Try.func22, Try.ntmps22
  go_wp2_with (at_builtin; refine wpList_append_own _ rfl _ _ 37 rfl w.heap.size 3 i0 _ 1 8 Try.underlying37 hi hz0 hz1 hz2 rfl (by decide) _ _ _ rfl (World.ownsRow_made w #[] 0 (Nat.le_refl _) (Nat.zero_le _) (by simp)) a len cap (Ints zs) rfl ?qc1 ?qc2 ?qc3 ?qc4 ?qc5 ?qc6 ?_)
  case qc1 => rw [ints_len, HL.out]; omega
  case qc2 =>
    intro j u hj
    exact cell_alloc _ (A.out j u hj)
  case qc3 => exact ints_one zs
  case qc4 => have := HL2.out; unfold maxLen; omega
  case qc5 => have := HL2.out; omega
  case qc6 => simp
  intro v' w1 hown hgrow hnil
  go_wp2_with fail
  go_ret
  refine ⟨v', rfl, ?_, ((Fr.refl no w).alloc _).grown hgrow (fun k hk => ?_)⟩
  · unfold RowI
    rw [HL.out]
    simpa using hown
  · simp [Value.ownBlock] at hk
    exact .inr (by omega)
set_option maxHeartbeats 1000000 in
theorem cloneI_none (len cap : Nat) (w : World) (hl : len = 0) :
    Calls Try.prog 22 #[.slice none len cap] w (fun e w' => CloneI w w' [] e) := by
  subst hl
  have q37 : ∀ (w : World) (a : Option Addr) (n c n' c' : Nat), (binOp .eql 37 (.slice a n c) (.slice none n' c')).run Try.prog w = .ok (.bool a.isNone) w := fun w a n c n' c' => Lib.run_eql_slice_nil w _ _ a n c n' c' Try.underlying37
  go_enter Try.func22, Try.ntmps22
  go_wp2_with fail
  go_ret
  exact ⟨_, rfl, ⟨rfl, .inl ⟨rfl, rfl⟩⟩, Fr.refl no w⟩
theorem cloneI_any (ao : Option Addr) (len cap : Nat) (zs : List Int) (w : World) (h : IntsIn w ao len zs) (hl : len ≤ 40) :
    Calls Try.prog 22 #[.slice ao len cap] w (fun e w' => CloneI w w' zs e) := by
  cases ao with
  | none =>
    have h0 : len = 0 := by
      apply Classical.byContradiction
      intro hn
      obtain ⟨b, off, h1, _⟩ := h.2 0 (by omega)
      cases h1
    have h1 : zs = [] := List.length_eq_zero_iff.1 (by rw [h.1, h0])
    rw [h1]
    exact cloneI_none len cap w h0
  | some a => exact cloneI_some a len cap zs w h.1 hl (ints_cells h)

/-! Depths. -/
def an (zs : List Int) (i : Int) : Nat → Int
  | 0 => i
  | k + 1 => zs.getD (an zs i k).toNat 0
theorem an_from (zs : List Int) (i : Int) (k : Nat) : an zs i (k + 1) = an zs (zs.getD i.toNat 0) k := by
  induction k with
  | zero => rfl
  | succ k ih => rw [an, ih]; rfl
/-- k is the depth of the node i. -/
def Dp (zs : List Int) (i : Int) (k : Nat) : Prop := k < zs.length ∧ an zs i k = 0 ∧ ∀ j, j < k → an zs i j ≠ 0
theorem Dp.unique {zs : List Int} {i : Int} {k j : Nat} (h : Dp zs i k) (g : Dp zs i j) : k = j := by
  by_cases h1 : k < j
  · exact absurd h.2.1 (g.2.2 k h1)
  · by_cases h2 : j < k
    · exact absurd g.2.1 (h.2.2 j h2)
    · omega
noncomputable def dep (zs : List Int) (i : Int) : Nat := Classical.epsilon (Dp zs i)
theorem Dp.eq {zs : List Int} {i : Int} {k : Nat} (h : Dp zs i k) : dep zs i = k := (Classical.epsilon_spec (p := Dp zs i) ⟨k, h⟩).unique h
theorem dp_ex_n (zs : List Int) (i : Int) (n : Nat) : (∀ j, j < n → an zs i j ≠ 0) ∨ ∃ k, k < n ∧ an zs i k = 0 ∧ ∀ j, j < k → an zs i j ≠ 0 := by
  induction n with
  | zero => exact .inl fun j h => by omega
  | succ n ih =>
    rcases ih with h | ⟨k, h1, h2, h3⟩
    · by_cases h0 : an zs i n = 0
      · exact .inr ⟨n, by omega, h0, h⟩
      · exact .inl fun j hj => by
          by_cases e : j = n
          · rw [e]; exact h0
          · exact h j (by omega)
    · exact .inr ⟨k, by omega, h2, h3⟩
theorem dp_of {zs : List Int} {i : Int} {k : Nat} (h : k < zs.length) (h0 : an zs i k = 0) : Dp zs i (dep zs i) := by
  rcases dp_ex_n zs i zs.length with h1 | ⟨j, h1, h2, h3⟩
  · exact absurd h0 (h1 k h)
  · have hd : Dp zs i j := ⟨h1, h2, h3⟩
    rw [hd.eq]
    exact hd
def hpB (zs : List Int) : Bool := inR zs.length 1 32 && (decide (zs.getD 0 0 = -1) && (zs.drop 1).all fun p => inR p 0 ((zs.length : Int) - 1))
theorem hpB_t {zs : List Int} (h : hpB zs = true) : (1 ≤ zs.length ∧ zs.length ≤ 32) ∧ zs.getD 0 0 = -1 ∧ ∀ i, 1 ≤ i → i < zs.length → 0 ≤ zs.getD i 0 ∧ zs.getD i 0 ≤ (zs.length : Int) - 1 := by
  simp only [hpB, Bool.and_eq_true, decide_eq_true_eq, inR_t] at h
  obtain ⟨⟨h1, h2⟩, h3, h4⟩ := h
  refine ⟨⟨by omega, by omega⟩, h3, fun i i1 i2 => ?_⟩
  rw [List.all_eq_true] at h4
  have := h4 (zs.getD i 0) (by
    rw [List.getD_eq_getElem?_getD, List.getElem?_eq_getElem i2]
    simp only [Option.getD_some]
    rw [List.mem_iff_getElem]
    exact ⟨i - 1, by simp; omega, by rw [List.getElem_drop]; congr 1; omega⟩)
  exact inR_t.1 this
/-- The list is a tree: it has depths. -/
def Tree (zs : List Int) : Prop := hpB zs = true ∧ ∀ i : Nat, i < zs.length → Dp zs i (dep zs i)
noncomputable def dpL (zs : List Int) : List Int := (List.range zs.length).map fun i : Nat => (dep zs (i : Int) : Int)
theorem dpL_len (zs : List Int) : (dpL zs).length = zs.length := by simp [dpL]
theorem dpL_at (zs : List Int) (i : Nat) (h : i < zs.length) : (dpL zs).getD i 0 = (dep zs (i : Int) : Int) := by
  simp [dpL, List.getD_eq_getElem?_getD, h]
theorem an_in {zs : List Int} (h : hpB zs = true) {i : Int} (h0 : 0 ≤ i) (h1 : i < zs.length) (k : Nat) (hk : ∀ j, j < k → an zs i j ≠ 0) : 0 ≤ an zs i k ∧ an zs i k < zs.length := by
  induction k with
  | zero => exact ⟨h0, h1⟩
  | succ k ih =>
    obtain ⟨a, b⟩ := ih (fun j hj => hk j (by omega))
    have c := hk k (by omega)
    obtain ⟨-, -, h3⟩ := hpB_t h
    have := h3 (an zs i k).toNat (by omega) (by omega)
    rw [an]
    omega
theorem dep_0 {zs : List Int} (h : 0 < zs.length) : dep zs 0 = 0 := Dp.eq ⟨h, rfl, fun j hj => by omega⟩
theorem dep_next {zs : List Int} (h : Tree zs) {i : Nat} (i1 : 1 ≤ i) (hi : i < zs.length) : 0 ≤ zs.getD i 0 ∧ zs.getD i 0 < zs.length ∧ dep zs i = dep zs (zs.getD i 0) + 1 := by
  obtain ⟨hp, hr⟩ := h
  obtain ⟨-, -, h3⟩ := hpB_t hp
  obtain ⟨p0, p1⟩ := h3 i i1 hi
  refine ⟨p0, by omega, ?_⟩
  obtain ⟨d1, d2, d3⟩ := hr i hi
  obtain ⟨k, hk⟩ : ∃ k, dep zs i = k + 1 := by
    cases e : dep zs i with
    | zero => rw [e] at d2; simp [an] at d2; omega
    | succ k => exact ⟨k, rfl⟩
  have hd : Dp zs (zs.getD i 0) k := by
    rw [hk] at d1 d2 d3
    rw [an_from] at d2
    have e : (i : Int).toNat = i := by omega
    rw [e] at d2
    refine ⟨by omega, d2, fun j hj => ?_⟩
    have := d3 (j + 1) (by omega)
    rw [an_from, e] at this
    exact this
  rw [hd.eq, hk]
/-- Parents that are less than their nodes lead to 0. -/
theorem less_tree {zs : List Int} (h1 : 1 ≤ zs.length) (h2 : zs.length ≤ 32) (h3 : zs.getD 0 0 = -1) (h4 : ∀ i, 1 ≤ i → i < zs.length → 0 ≤ zs.getD i 0 ∧ zs.getD i 0 < i) : Tree zs := by
  have hp : hpB zs = true := by
    simp only [hpB, Bool.and_eq_true, decide_eq_true_eq, inR_t]
    refine ⟨⟨by omega, by omega⟩, h3, ?_⟩
    rw [List.all_eq_true]
    intro p hm
    obtain ⟨j, hj, rfl⟩ := List.mem_iff_getElem.1 hm
    simp at hj
    have := h4 (j + 1) (by omega) (by omega)
    rw [List.getElem_drop]
    rw [List.getD_eq_getElem?_getD, List.getElem?_eq_getElem (by omega)] at this
    simp only [Option.getD_some] at this
    rw [inR_t]
    have e : 1 + j = j + 1 := by omega
    simp only [e]
    omega
  have hx : ∀ n i : Nat, i ≤ n → i < zs.length → ∃ k, k ≤ i ∧ an zs i k = 0 := by
    intro n
    induction n with
    | zero => intro i hi _; exact ⟨0, by omega, by simp [an]; omega⟩
    | succ n ih =>
      intro i hi hl
      by_cases h0 : i = 0
      · exact ⟨0, by omega, by simp [an, h0]⟩
      · obtain ⟨q0, q1⟩ := h4 i (by omega) hl
        obtain ⟨k, hk, hz⟩ := ih (zs.getD i 0).toNat (by omega) (by omega)
        refine ⟨k + 1, by omega, ?_⟩
        rw [an_from, show (i : Int).toNat = i by omega]
        rwa [show (((zs.getD i 0).toNat : Nat) : Int) = zs.getD i 0 by omega] at hz
  exact ⟨hp, fun i hi => by
    obtain ⟨k, hk, hz⟩ := hx i i (Nat.le_refl _) hi
    exact dp_of (by omega) hz⟩

end Go.Proofs.Ytmkmefcafpgphaa
