/- The syndrome as a sum over all bits; strings with inverted bits. -/
import Derived.Test.YtelpdihaonoedaaJoin
namespace Go.Proofs.Ytelpdihaonoedaa
open Go.RowKit
set_option maxRecDepth 20000

/-- The bytes as residues: each one times its power. -/
def val (s : Wd) (l : List Nat) : Wd := l.foldl (fun s c => txn 8 s ^^^ BitVec.ofNat 16 c) s
theorem val_append (s : Wd) (a b : List Nat) : val s (a ++ b) = val (val s a) b := by unfold val; rw [List.foldl_append]
theorem byte_shift (c : Nat) (h : c < 256) : txn 8 (BitVec.ofNat 16 c) = BitVec.ofNat 16 (256 * c) := by
  have e : ((List.range 256).all fun c => txn 8 (BitVec.ofNat 16 c) == BitVec.ofNat 16 (256 * c)) = true := by kernel_rfl
  rw [List.all_eq_true] at e
  exact eq_of_beq (e c (List.mem_range.2 h))
theorem val_shift (s t : Wd) (l : List Nat) : val (s ^^^ t) l = val s l ^^^ txn (8 * l.length) t := by
  induction l generalizing s t with
  | nil => rfl
  | cons c l ih =>
    rw [val, List.foldl_cons, txn_xor, show txn 8 s ^^^ txn 8 t ^^^ BitVec.ofNat 16 c = (txn 8 s ^^^ BitVec.ofNat 16 c) ^^^ txn 8 t by ac_rfl, ← val, ih, ← txn_add, List.length_cons, show 8 * l.length + 8 = 8 * (l.length + 1) by omega]
    rfl
theorem upd_val (l : List Nat) (h : ∀ x ∈ l, x < 256) (s : Wd) : upd (txn 16 s) l = txn 16 (val s l) := by
  induction l generalizing s with
  | nil => rfl
  | cons c l ih =>
    have e : up (txn 16 s) c = txn 16 (txn 8 s ^^^ BitVec.ofNat 16 c) := by
      rw [up, txn_xor, txn_xor, ← txn_add, ← txn_add, ← byte_shift c (h c (by simp)), ← txn_add]
    rw [upd, List.foldl_cons, e, ← upd, ih (fun x hx => h x (by simp [hx]))]
    rfl
theorem upd_val0 (l : List Nat) (h : ∀ x ∈ l, x < 256) : upd 0#16 l = txn 16 (val 0#16 l) := by
  have := upd_val l h 0#16
  rwa [txn_zero] at this
theorem synL_val (l : List Nat) (h : ∀ x ∈ l, x < 256) (hl : 2 ≤ l.length) : synL l = val 0#16 l := by
  obtain ⟨n, hn⟩ : ∃ n, l.length = n + 2 := ⟨l.length - 2, by omega⟩
  have hs := split_two l n hn
  have hx : l.getD n 0 < 256 := by
    rw [List.getD_eq_getElem?_getD, List.getElem?_eq_getElem (show n < l.length by omega)]
    exact h _ (List.getElem_mem _)
  have hy : l.getD (n + 1) 0 < 256 := by
    rw [List.getD_eq_getElem?_getD, List.getElem?_eq_getElem (show n + 1 < l.length by omega)]
    exact h _ (List.getElem_mem _)
  have ht : ∀ x ∈ l.take n, x < 256 := fun x hx => h x (List.mem_of_mem_take hx)
  generalize l.getD n 0 = x at *
  generalize l.getD (n + 1) 0 = y at *
  rw [hs, synL_append _ _ _ hy, val_append, upd_val0 _ ht, ← word_join x y hy, ← byte_shift x hx]
  show txn 16 (val 0#16 (l.take n)) ^^^ (txn 8 (BitVec.ofNat 16 x) ^^^ BitVec.ofNat 16 y) = txn 8 (txn 8 (val 0#16 (l.take n)) ^^^ BitVec.ofNat 16 x) ^^^ BitVec.ofNat 16 y
  rw [txn_xor, ← txn_add, BitVec.xor_assoc]
/-- A bit is inverted, counted from the last one. -/
def flL (l : List Nat) (i : Nat) : List Nat := l.set (l.length - 1 - i / 8) (l.getD (l.length - 1 - i / 8) 0 ^^^ 2 ^ (i % 8))
theorem flL_len (l : List Nat) (i : Nat) : (flL l i).length = l.length := by simp [flL]
theorem pow_small (k : Nat) (h : k < 8) : 2 ^ k < 256 := Nat.pow_lt_pow_right (n := 8) (by decide) h
theorem flL_lt (l : List Nat) (i : Nat) (h : ∀ x ∈ l, x < 256) : ∀ x ∈ flL l i, x < 256 := by
  intro x hx
  rcases List.mem_or_eq_of_mem_set hx with hx | hx
  · exact h x hx
  · rw [hx]
    refine Nat.xor_lt_two_pow (n := 8) ?_ (pow_small _ (Nat.mod_lt _ (by decide)))
    rw [List.getD_eq_getElem?_getD]
    by_cases hl : l.length - 1 - i / 8 < l.length
    · rw [List.getElem?_eq_getElem hl]; exact h _ (List.getElem_mem _)
    · rw [List.getElem?_eq_none (by omega)]; decide
theorem pw_byte (k : Nat) (h : k < 8) : BitVec.ofNat 16 (2 ^ k) = pw k := by
  have : ∀ j : Fin 8, BitVec.ofNat 16 (2 ^ j.val) = pw j.val := by decide
  exact this ⟨k, h⟩
theorem val_flip (l : List Nat) (i : Nat) (hi : i < 8 * l.length) : val 0#16 (flL l i) = val 0#16 l ^^^ pw i := by
  obtain ⟨j, hj⟩ : ∃ j, j = l.length - 1 - i / 8 := ⟨_, rfl⟩
  have hjl : j < l.length := by omega
  have e1 : l = l.take j ++ (l[j] :: l.drop (j + 1)) := by rw [← List.drop_eq_getElem_cons hjl, List.take_append_drop]
  have hg : l.getD j 0 = l[j] := by simp [List.getD_eq_getElem?_getD, List.getElem?_eq_getElem hjl]
  have e2 : flL l i = l.take j ++ ((l[j] ^^^ 2 ^ (i % 8)) :: l.drop (j + 1)) := by
    rw [flL, ← hj, hg, List.set_eq_take_append_cons_drop, if_pos hjl]
  have hlen : (l.drop (j + 1)).length = i / 8 := by simp; omega
  rw [e2]
  conv => rhs; rw [e1]
  rw [val_append, val_append]
  generalize val 0#16 (l.take j) = s
  show val (txn 8 s ^^^ BitVec.ofNat 16 (l[j] ^^^ 2 ^ (i % 8))) (l.drop (j + 1)) = val (txn 8 s ^^^ BitVec.ofNat 16 l[j]) (l.drop (j + 1)) ^^^ pw i
  rw [BitVec.ofNat_xor, ← BitVec.xor_assoc, val_shift, hlen, pw_byte _ (Nat.mod_lt _ (by decide)), pw, ← txn_add, show 8 * (i / 8) + i % 8 = i by omega]
  rfl
end Go.Proofs.Ytelpdihaonoedaa
