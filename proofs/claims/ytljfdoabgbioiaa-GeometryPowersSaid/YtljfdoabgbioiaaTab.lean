/- Rows of integers in memory of the call's own, and a list of them. -/
import Derived.Test.YtljfdoabgbioiaaLawF
namespace Go.Proofs.Ytljfdoabgbioiaa
open Go.RowKit
set_option linter.unusedVariables false

/-- A row of integers of the call's own. -/
def RowI (B : Nat) (w : World) (v : Value) (l : List Int) : Prop := w.ownsRow B 3 1 v l.length (l.map fun z : Int => Value.int .i64 z)
/-- A list of slices of the call's own. -/
def ListV (B : Nat) (w : World) (v : Value) (vs : List Value) : Prop := w.ownsRow B 31 1 v vs.length vs
/-- Each value of a list is a row. -/
def RowsI (B : Nat) (w : World) (vs : List Value) (zss : List (List Int)) : Prop := vs.length = zss.length ∧ ∀ (i : Nat) (v : Value) (l : List Int), vs[i]? = some v → zss[i]? = some l → RowI B w v l
theorem own_block {w : World} {B e s n : Nat} {v : Value} {xs : List Value} (h : w.ownsRow B e s v n xs) (k : Nat) (hk : v.ownBlock = some k) : ∃ cur, w.heap[k]? = some (.cells cur e (0, 0)) := by
  rcases h.2 with ⟨rfl, _⟩ | ⟨g, cap', cur, rfl, hB, hh, _⟩
  · simp [Value.ownBlock] at hk
  · simp only [Value.ownBlock, Option.some.injEq] at hk
    subst hk
    exact ⟨cur, hh⟩
/-- Rows of different elements lie in different blocks. -/
theorem own_ne {w : World} {B B' e e' s s' n n' : Nat} {v v' : Value} {xs xs' : List Value} (h : w.ownsRow B e s v n xs) (h' : w.ownsRow B' e' s' v' n' xs') (he : e ≠ e') : v.ownBlock = none ∨ v.ownBlock ≠ v'.ownBlock := by
  cases hv : v.ownBlock with
  | none => exact .inl rfl
  | some k =>
    right
    intro hn
    obtain ⟨c, h1⟩ := own_block h k hv
    obtain ⟨c', h2⟩ := own_block h' k hn.symm
    rw [h1] at h2
    simp only [Option.some.injEq, Obj.cells.injEq] at h2
    exact he h2.2.1
theorem RowI.kept {B : Nat} {w w' : World} {v : Value} {l : List Int} (h : RowI B w v l) (hf : Fr no w w') : RowI B w' v l := World.ownsRow.kept h hf.growNo (Classical.em _)
theorem ListV.kept {B : Nat} {w w' : World} {v : Value} {vs : List Value} (h : ListV B w v vs) (hf : Fr no w w') : ListV B w' v vs := World.ownsRow.kept h hf.growNo (Classical.em _)
theorem RowsI.kept {B : Nat} {w w' : World} {vs : List Value} {zss : List (List Int)} (h : RowsI B w vs zss) (hf : Fr no w w') : RowsI B w' vs zss := ⟨h.1, fun i v l h1 h2 => (h.2 i v l h1 h2).kept hf⟩
/-- What was appended to the list leaves the rows. -/
theorem RowsI.list {B B' n : Nat} {w w' : World} {v : Value} {us vs : List Value} {zss : List (List Int)} (h : RowsI B w vs zss) (ho : w.ownsRow B' 31 1 v n us) (hg : w.grownBy w' v.ownBlock) : RowsI B w' vs zss :=
  ⟨h.1, fun i x l h1 h2 => World.ownsRow.kept (h.2 i x l h1 h2) hg (own_ne (h.2 i x l h1 h2) ho (by decide))⟩
theorem RowI.mono {B B' : Nat} {w : World} {v : Value} {l : List Int} (h : RowI B w v l) (hb : B' ≤ B) : RowI B' w v l := World.ownsRow.mono h hb
theorem RowsI.snoc {B : Nat} {w : World} {vs : List Value} {zss : List (List Int)} {v : Value} {l : List Int} (h : RowsI B w vs zss) (hv : RowI B w v l) : RowsI B w (vs ++ [v]) (zss ++ [l]) :=
  ⟨by simp [h.1], fun i x y h1 h2 => by
    have hl := h.1
    by_cases hi : i < vs.length
    · rw [List.getElem?_append_left hi] at h1
      rw [List.getElem?_append_left (by omega)] at h2
      exact h.2 i x y h1 h2
    · rw [List.getElem?_append_right (by omega)] at h1
      rw [List.getElem?_append_right (by omega)] at h2
      by_cases h0 : i - vs.length = 0
      · rw [h0] at h1
        rw [show i - zss.length = 0 by omega] at h2
        simp at h1 h2
        subst h1 h2
        exact hv
      · rw [List.getElem?_eq_none (by simp; omega)] at h1
        cases h1⟩
theorem rowI_ints {B : Nat} {w : World} {v : Value} {l : List Int} (h : RowI B w v l) : ∃ a c, v = .slice a l.length c ∧ IntsIn w a l.length l := by
  have h' : World.ownsRow w B 3 1 v l.length (l.map fun z : Int => Value.int .i64 z) := h
  rcases h'.2 with ⟨rfl, h0⟩ | ⟨g, cap, cur, rfl, _⟩
  · have hl : l.length = 0 := h0
    exact ⟨none, 0, by rw [hl], rfl, fun i hi => by omega⟩
  · refine ⟨_, _, rfl, rfl, fun i hi => ⟨g, 0, rfl, ?_⟩⟩
    rw [Nat.zero_add, h'.cellAt i (by omega)]
    simp [List.getD_eq_getElem?_getD, List.getElem?_eq_getElem hi]
/-- The table of a site. -/
def rowF (e : Int) (ps : List Pt) (zs : List Int) (ws : List Wl) (a k : Nat) : List Int := (List.range k).map fun b : Nat => btF e ps zs ws a b
def tabF (e : Int) (ps : List Pt) (zs : List Int) (ws : List Wl) (n k : Nat) : List (List Int) := (List.range k).map fun a => rowF e ps zs ws a n
theorem rowF_succ (e : Int) (ps : List Pt) (zs : List Int) (ws : List Wl) (a k : Nat) : rowF e ps zs ws a (k + 1) = rowF e ps zs ws a k ++ [btF e ps zs ws a k] := by simp [rowF, List.range_succ]
theorem tabF_succ (e : Int) (ps : List Pt) (zs : List Int) (ws : List Wl) (n k : Nat) : tabF e ps zs ws n (k + 1) = tabF e ps zs ws n k ++ [rowF e ps zs ws k n] := by simp [tabF, List.range_succ]
theorem rowF_len (e : Int) (ps : List Pt) (zs : List Int) (ws : List Wl) (a k : Nat) : (rowF e ps zs ws a k).length = k := by simp [rowF]
theorem tabF_len (e : Int) (ps : List Pt) (zs : List Int) (ws : List Wl) (n k : Nat) : (tabF e ps zs ws n k).length = k := by simp [tabF]
end Go.Proofs.Ytljfdoabgbioiaa
