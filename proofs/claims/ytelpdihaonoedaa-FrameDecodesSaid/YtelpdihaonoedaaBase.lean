/- Plain words on memory: a call that changes only the blocks of S (and makes new ones). -/
import Derived.WalkKit
import Derived.WalkSpells
import Derived.WalkLawsBesides
import Derived.Lib.Hide
namespace Go.Proofs.Ytelpdihaonoedaa
open Go.RowKit

/-- Of the old blocks only those of S may have changed. -/
structure Fr (S : Nat → Prop) (w w' : World) : Prop where
  os : w'.os = w.os
  tape : w'.tape = w.tape
  output : w'.output = w.output
  size : w.heap.size ≤ w'.heap.size
  block : ∀ k, k < w.heap.size → ¬ S k → w'.heap[k]? = w.heap[k]?

theorem Fr.refl (S : Nat → Prop) (w : World) : Fr S w w := ⟨rfl, rfl, rfl, Nat.le_refl _, fun _ _ _ => rfl⟩
theorem Fr.trans {S S' : Nat → Prop} {a b c : World} (h : Fr S a b) (k : Fr S' b c) (hS : ∀ i, i < a.heap.size → S' i → S i) : Fr S a c :=
  ⟨k.os.trans h.os, k.tape.trans h.tape, k.output.trans h.output, Nat.le_trans h.size k.size,
    fun i hi hn => (k.block i (Nat.lt_of_lt_of_le hi h.size) (fun hs => hn (hS i hi hs))).trans (h.block i hi hn)⟩
theorem Fr.mono {S S' : Nat → Prop} {a b : World} (h : Fr S a b) (hS : ∀ i, i < a.heap.size → S i → S' i) : Fr S' a b :=
  ⟨h.os, h.tape, h.output, h.size, fun i hi hn => h.block i hi (fun hs => hn (hS i hi hs))⟩
theorem Fr.drew {S : Nat → Prop} {a w : World} (h : Fr S a w) : Fr S a w.drew := ⟨h.os, h.tape, h.output, h.size, h.block⟩
theorem Fr.alloc {S : Nat → Prop} {a w : World} (h : Fr S a w) (o : Obj) : Fr S a (w.alloc o) :=
  ⟨h.os, h.tape, h.output, by have := h.size; simp; omega, fun i hi hn => (Below.heap_alloc w o i (Nat.lt_of_lt_of_le hi h.size)).trans (h.block i hi hn)⟩
theorem Fr.setCell {S : Nat → Prop} {a w : World} (h : Fr S a w) {p : Addr} (hp : S p.block ∨ a.heap.size ≤ p.block) (u : Value) : Fr S a (w.setCell p u) :=
  ⟨h.os, h.tape, h.output, by have := h.size; simp; omega, fun i hi hn => (Below.heap_setCell w p u i (by rintro rfl; rcases hp with hp | hp; exact hn hp; omega)).trans (h.block i hi hn)⟩
theorem Fr.grown {S : Nat → Prop} {a w w' : World} {row : Option Nat} (h : Fr S a w) (hg : w.grownBy w' row) (hr : ∀ k, row = some k → S k ∨ a.heap.size ≤ k) : Fr S a w' :=
  ⟨hg.os.trans h.os, hg.tape.trans h.tape, hg.output.trans h.output, Nat.le_trans h.size hg.size,
    fun i hi hn => (hg.block i (Nat.lt_of_lt_of_le hi h.size) (fun e => by rcases hr i e.symm with hp | hp; exact hn hp; omega)).trans (h.block i hi hn)⟩
theorem Fr.cell {S : Nat → Prop} {w w' : World} (h : Fr S w w') {p : Addr} (hp : p.block < w.heap.size) (hn : ¬ S p.block) : w'.cell? p = w.cell? p := World.cell?_of_block (w := w) (h.block p.block hp hn)
theorem Fr.frozen {S : Nat → Prop} {w w' : World} (h : Fr S w w') {p : Addr} (hp : p.block < w.heap.size) (hn : ¬ S p.block) : w'.frozen? p = w.frozen? p := World.frozen?_of_block (w := w) (h.block p.block hp hn)
theorem Fr.below {S : Nat → Prop} {B : Nat} {w w' : World} (h : Fr S w w') (hS : ∀ k, S k → B ≤ k) (hB : B ≤ w.heap.size) : Below B w w' :=
  ⟨h.os, h.tape, h.output, h.size, fun k hk => h.block k (Nat.lt_of_lt_of_le hk hB) (fun hs => by have := hS k hs; omega)⟩
theorem Fr.grownBy {S : Nat → Prop} {w w' : World} (h : Fr S w w') (row : Option Nat) (hS : ∀ k, k < w.heap.size → S k → some k = row) : w.grownBy w' row :=
  ⟨h.os, h.tape, h.output, h.size, fun k hk hne => h.block k hk (fun hs => hne (hS k hk hs))⟩

/-- A 'return' of a function without results. -/
theorem ret_none {P : Program} {fn : Func} {R : Ending → World → Prop} {a : Act} {w : World} (hr : fn.results = #[]) (hd : a.defers = []) (hR : R (.returned (.tuple #[])) w) : bodyPost P fn R .ret a w :=
  bodyPost_ret (results_none hr _ _ _) hd hR

/-- A block of three cells. -/
theorem three_cells {w : World} {B T : Nat} {a b c : Value} (h : w.heap[B]? = some (.cells #[a, b, c] T (0, 0))) :
    w.cell? ⟨B, 0, none⟩ = some a ∧ w.cell? ⟨B, 1, none⟩ = some b ∧ w.cell? ⟨B, 2, none⟩ = some c ∧ w.frozen? ⟨B, 0, none⟩ = false ∧ w.frozen? ⟨B, 1, none⟩ = false ∧ w.frozen? ⟨B, 2, none⟩ = false := by
  simp [World.cell?, World.frozen?, h]
theorem three_set {w : World} {B T : Nat} {c : Array Value} (h : w.heap[B]? = some (.cells c T (0, 0))) (i : Nat) (u : Value) :
    (w.setCell ⟨B, i, none⟩ u).heap[B]? = some (.cells (c.setIfInBounds i u) T (0, 0)) := by
  simp [World.setCell, Array.getElem?_modify, h]
theorem other_set {w : World} {B k i : Nat} {o : Option Obj} (h : w.heap[k]? = o) (u : Value) (hk : k ≠ B) : (w.setCell ⟨B, i, none⟩ u).heap[k]? = o :=
  (Below.heap_setCell w ⟨B, i, none⟩ u k hk).trans h
theorem set_comm (w : World) (p q : Addr) (a b : Value) (h : p.block ≠ q.block) : (w.setCell p a).setCell q b = (w.setCell q b).setCell p a := by
  simp only [World.setCell, World.mk.injEq, and_true]
  refine Array.ext (by simp) fun i h1 h2 => ?_
  simp only [Array.getElem_modify]
  by_cases hp : p.block = i <;> by_cases hq : q.block = i <;> simp [hp, hq]
  exact absurd (hp.trans hq.symm) h
theorem alloc_keeps {w : World} {k : Nat} {x : Obj} (h : w.heap[k]? = some x) (o : Obj) : (w.alloc o).heap[k]? = some x :=
  (Below.heap_alloc w o k (Array.getElem?_eq_some_iff.1 h).1).trans h
theorem lt_of_blk {w : World} {k : Nat} {x : Obj} (h : w.heap[k]? = some x) : k < w.heap.size := (Array.getElem?_eq_some_iff.1 h).1
theorem Fr.blk {S : Nat → Prop} {w w' : World} (h : Fr S w w') {k : Nat} {x : Obj} (hx : w.heap[k]? = some x) (hn : ¬ S k) : w'.heap[k]? = some x := (h.block k (lt_of_blk hx) hn).trans hx

/-- The bytes l hold the bits bs: the first one is the highest of the first byte; those behind the last are 0. -/
structure Packs (l : List Nat) (bs : List Bool) : Prop where
  len : l.length = (bs.length + 7) / 8
  byte : ∀ j, l.getD j 0 < 256
  bit : ∀ i, (l.getD (i / 8) 0).testBit (7 - i % 8) = bs.getD i false

theorem Packs.nil : Packs [] [] := ⟨rfl, by simp, by simp⟩
theorem Packs.whole {l : List Nat} {bs : List Bool} (h : Packs l bs) (b : Bool) (hz : bs.length % 8 = 0) : Packs (l ++ [if b then 128 else 0]) (bs ++ [b]) := by
  have hl := h.len
  have e : l.length = bs.length / 8 := by omega
  refine ⟨by simp; omega, fun j => ?_, fun i => ?_⟩
  · by_cases hj : j < l.length
    · have := h.byte j; simpa [List.getD_eq_getElem?_getD, List.getElem?_append_left hj] using this
    · by_cases hj' : j = l.length
      · subst hj'; cases b <;> simp [List.getD_eq_getElem?_getD]
      · have : l.length + 1 ≤ j := by omega
        simp [List.getD_eq_getElem?_getD, List.getElem?_eq_none (show (l ++ [if b then 128 else 0]).length ≤ j by simp; omega)]
  · by_cases hi : i < bs.length
    · have := h.bit i
      have h1 : i / 8 < l.length := by omega
      simpa [List.getD_eq_getElem?_getD, List.getElem?_append_left hi, List.getElem?_append_left h1] using this
    · by_cases hi8 : i / 8 = l.length
      · have hp : i % 8 = i - bs.length := by omega
        by_cases hi' : i = bs.length
        · subst hi'
          have h0 : 7 - bs.length % 8 = 7 := by omega
          rw [h0, hi8]
          cases b <;> simp [List.getD_eq_getElem?_getD] <;> decide
        · have : bs.length + 1 ≤ i := by omega
          have hx : 7 - i % 8 < 7 := by omega
          rw [hi8]
          simp only [List.getD_eq_getElem?_getD, List.getElem?_append_right (Nat.le_refl _), Nat.sub_self]
          rw [List.getElem?_eq_none (show (bs ++ [b]).length ≤ i by simp; omega)]
          generalize 7 - i % 8 = q at hx
          cases b
          · simp
          · have : Nat.testBit 128 q = false := by
              rw [show (128 : Nat) = 2 ^ 7 from rfl, Nat.testBit_two_pow]; simp; omega
            simpa using this
      · rw [List.getD_eq_getElem?_getD, List.getD_eq_getElem?_getD, List.getElem?_eq_none (show (l ++ [if b then 128 else 0]).length ≤ i / 8 by simp; omega), List.getElem?_eq_none (show (bs ++ [b]).length ≤ i by simp; omega)]
        simp
theorem Packs.part {l : List Nat} {bs : List Bool} (h : Packs l bs) (hz : bs.length % 8 ≠ 0) : Packs l (bs ++ [false]) := by
  have hl := h.len
  refine ⟨by simp; omega, h.byte, fun i => ?_⟩
  rw [h.bit i]
  by_cases hi : i < bs.length
  · simp [List.getD_eq_getElem?_getD, List.getElem?_append_left hi]
  · by_cases hi' : i = bs.length
    · subst hi'; simp [List.getD_eq_getElem?_getD]
    · rw [List.getD_eq_getElem?_getD, List.getD_eq_getElem?_getD, List.getElem?_eq_none (by omega), List.getElem?_eq_none (by simp; omega)]
theorem Packs.set {l : List Nat} {bs : List Bool} (h : Packs l bs) (hz : bs.length % 8 ≠ 0) :
    Packs (l.set (l.length - 1) (l.getD (l.length - 1) 0 ||| 2 ^ (7 - bs.length % 8))) (bs ++ [true]) := by
  have hl := h.len
  have e : l.length - 1 = bs.length / 8 := by omega
  have hlt : l.length - 1 < l.length := by omega
  have hp : 7 - bs.length % 8 < 8 := by omega
  refine ⟨by simp; omega, fun j => ?_, fun i => ?_⟩
  · by_cases hj : j = l.length - 1
    · rw [hj]
      simp only [List.getD_eq_getElem?_getD, List.getElem?_set_self hlt, Option.getD_some]
      exact Nat.or_lt_two_pow (n := 8) (by have := h.byte (l.length - 1); simpa [List.getD_eq_getElem?_getD] using this) (Nat.pow_lt_pow_right (by decide) hp)
    · have := h.byte j; simpa [List.getD_eq_getElem?_getD, List.getElem?_set_ne (Ne.symm hj)] using this
  · have hb := h.bit i
    by_cases hi8 : i / 8 = l.length - 1
    · rw [hi8]
      simp only [List.getD_eq_getElem?_getD, List.getElem?_set_self hlt, Option.getD_some, Nat.testBit_or, Nat.testBit_two_pow]
      rw [hi8] at hb
      simp only [List.getD_eq_getElem?_getD] at hb
      rw [hb]
      by_cases hi : i < bs.length
      · rw [List.getElem?_append_left hi]
        have : ¬ (7 - bs.length % 8 = 7 - i % 8) := by omega
        simp [this]
      · by_cases hi' : i = bs.length
        · subst hi'; simp
        · rw [List.getElem?_eq_none (show bs.length ≤ i by omega), List.getElem?_eq_none (show (bs ++ [true]).length ≤ i by simp; omega)]
          have : ¬ (7 - bs.length % 8 = 7 - i % 8) := by omega
          simp [this]
    · rw [List.getD_eq_getElem?_getD, List.getElem?_set_ne (Ne.symm hi8), ← List.getD_eq_getElem?_getD, hb]
      by_cases hi : i < bs.length
      · simp [List.getD_eq_getElem?_getD, List.getElem?_append_left hi]
      · rw [List.getD_eq_getElem?_getD, List.getD_eq_getElem?_getD, List.getElem?_eq_none (by omega), List.getElem?_eq_none (by simp; omega)]
/-- The bytes of bits. -/
def pushB (l : List Nat) (n : Nat) (b : Bool) : List Nat :=
  if n % 8 = 0 then l ++ [if b then 128 else 0] else if b then l.set (l.length - 1) (l.getD (l.length - 1) 0 ||| 2 ^ (7 - n % 8)) else l
def packB (bs : List Bool) : List Nat := (bs.foldl (fun (p : List Nat × Nat) b => (pushB p.1 p.2 b, p.2 + 1)) ([], 0)).1
theorem packB_count (bs : List Bool) : ∀ p : List Nat × Nat, (bs.foldl (fun (p : List Nat × Nat) b => (pushB p.1 p.2 b, p.2 + 1)) p).2 = p.2 + bs.length := by
  induction bs with
  | nil => intro p; rfl
  | cons b bs ih => intro p; rw [List.foldl_cons, ih]; simp; omega
theorem packB_snoc (bs : List Bool) (b : Bool) : packB (bs ++ [b]) = pushB (packB bs) bs.length b := by
  have := packB_count bs ([], 0)
  simp only [packB, List.foldl_append, List.foldl_cons, List.foldl_nil, this]
  simp
theorem packs_packB_rev (l : List Bool) : Packs (packB l.reverse) l.reverse := by
  induction l with
  | nil => exact Packs.nil
  | cons b l ih =>
    rw [List.reverse_cons, packB_snoc]
    unfold pushB
    by_cases hz : l.reverse.length % 8 = 0
    · rw [if_pos hz]; exact ih.whole b hz
    · rw [if_neg hz]
      cases b
      · exact ih.part hz
      · exact ih.set hz
theorem packs_packB (bs : List Bool) : Packs (packB bs) bs := by
  have := packs_packB_rev bs.reverse
  rwa [List.reverse_reverse] at this
theorem Packs.inj {l l' : List Nat} {bs : List Bool} (h : Packs l bs) (h' : Packs l' bs) : l = l' := by
  have e : l.length = l'.length := h.len.trans h'.len.symm
  refine List.ext_getElem e fun j h1 h2 => ?_
  have hj : ∀ (x : List Nat) (hx : j < x.length), x.getD j 0 = x[j] := fun x hx => by simp [List.getD_eq_getElem?_getD, hx]
  rw [← hj l h1, ← hj l' h2]
  refine Nat.eq_of_testBit_eq fun q => ?_
  by_cases hq : q < 8
  · have a := h.bit (8 * j + (7 - q))
    have b := h'.bit (8 * j + (7 - q))
    have e1 : (8 * j + (7 - q)) / 8 = j := by omega
    have e2 : 7 - (8 * j + (7 - q)) % 8 = q := by omega
    rw [e1, e2] at a b
    rw [a, b]
  · rw [Nat.testBit_lt_two_pow (Nat.lt_of_lt_of_le (h.byte j) (Nat.pow_le_pow_right (n := 2) (by decide) (show 8 ≤ q by omega))), Nat.testBit_lt_two_pow (Nat.lt_of_lt_of_le (h'.byte j) (Nat.pow_le_pow_right (n := 2) (by decide) (show 8 ≤ q by omega)))]
end Go.Proofs.Ytelpdihaonoedaa
