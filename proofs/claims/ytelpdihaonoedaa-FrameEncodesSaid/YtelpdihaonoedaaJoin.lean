/- What is true of check sums: joined, protected strings. -/
import Derived.Test.YtelpdihaonoedaaChk
namespace Go.Proofs.Ytelpdihaonoedaa
open Go.RowKit
set_option maxRecDepth 20000

theorem bytesOf_inj {a b : ByteArray} (h : bytesOf a = bytesOf b) : a = b := by
  obtain ⟨⟨a⟩⟩ := a
  obtain ⟨⟨b⟩⟩ := b
  simp only [bytesOf] at h
  have : a = b := by
    have inj : ∀ (l m : List UInt8), l.map UInt8.toNat = m.map UInt8.toNat → l = m := by
      intro l
      induction l with
      | nil => intro m h; cases m with
        | nil => rfl
        | cons _ _ => simp at h
      | cons x l ih => intro m h; cases m with
        | nil => simp at h
        | cons y m =>
          simp only [List.map_cons, List.cons.injEq] at h
          rw [UInt8.toNat_inj.1 h.1, ih m h.2]
    exact inj _ _ h
  rw [this]
theorem bytesOf_append (a b : ByteArray) : bytesOf (a ++ b) = bytesOf a ++ bytesOf b := by simp [bytesOf]
theorem bytesOf_lt (d : ByteArray) : ∀ x ∈ bytesOf d, x < 256 := by
  intro x hx
  simp only [bytesOf, List.mem_map] at hx
  obtain ⟨u, _, rfl⟩ := hx
  exact u.toNat_lt
theorem nat_join (x y : Nat) (hy : y < 256) : 256 * x ^^^ y = 256 * x + y := by
  apply Nat.eq_of_testBit_eq
  intro i
  rw [Nat.testBit_xor, show 256 * x + y = 2 ^ 8 * x + y from rfl, Nat.testBit_two_pow_mul_add x hy, show 256 * x = 2 ^ 8 * x from rfl, Nat.testBit_two_pow_mul]
  by_cases h : i < 8
  · simp [h, show ¬ 8 ≤ i by omega]
  · rw [if_neg h]
    have : y.testBit i = false := Nat.testBit_lt_two_pow (Nat.lt_of_lt_of_le hy (show 2 ^ 8 ≤ 2 ^ i from Nat.pow_le_pow_right (by decide) (by omega)))
    simp [this, show 8 ≤ i by omega]
theorem word_join (x y : Nat) (hy : y < 256) : BitVec.ofNat 16 (256 * x) ^^^ BitVec.ofNat 16 y = BitVec.ofNat 16 (256 * x + y) := by
  rw [← nat_join x y hy, BitVec.ofNat_xor]
theorem word_self (s : Wd) : BitVec.ofNat 16 (256 * (s.toNat / 256) + s.toNat % 256) = s := by
  rw [Nat.div_add_mod]
  simp
theorem synL_append (l : List Nat) (x y : Nat) (hy : y < 256) : synL (l ++ [x, y]) = upd 0#16 l ^^^ BitVec.ofNat 16 (256 * x + y) := by
  have e1 : (l ++ [x, y]).take ((l ++ [x, y]).length - 2) = l := by simp
  have e2 : (l ++ [x, y]).getD ((l ++ [x, y]).length - 2) 0 = x := by simp [List.getD_eq_getElem?_getD]
  have e3 : (l ++ [x, y]).getD ((l ++ [x, y]).length - 1) 0 = y := by
    simp [List.getD_eq_getElem?_getD]
  rw [synL, e1, e2, e3, BitVec.xor_assoc, word_join x y hy]
def protL (l : List Nat) : List Nat := l ++ [(upd 0#16 l).toNat / 256, (upd 0#16 l).toNat % 256]
theorem bytesOf_prot (d : ByteArray) : bytesOf (protB d) = protL (bytesOf d) := by
  have h := (updB 0#16 d).isLt
  rw [protB, bytesOf_append, protL]
  show bytesOf d ++ [((updB 0#16 d).toNat / 256) % 256, ((updB 0#16 d).toNat % 256) % 256] = bytesOf d ++ [(updB 0#16 d).toNat / 256, (updB 0#16 d).toNat % 256]
  rw [Nat.mod_eq_of_lt (show (updB 0#16 d).toNat / 256 < 256 by omega), Nat.mod_mod]
theorem synL_prot (l : List Nat) : synL (protL l) = 0#16 := by
  rw [protL, synL_append _ _ _ (Nat.mod_lt _ (by decide)), word_self, BitVec.xor_self]
theorem prot_size (d : ByteArray) : (protB d).size = d.size + 2 := by
  rw [← bytesOf_len, bytesOf_prot, protL, List.length_append, bytesOf_len]; rfl
theorem split_two (l : List Nat) (n : Nat) (h : l.length = n + 2) : l = l.take n ++ [l.getD n 0, l.getD (n + 1) 0] := by
  have h1 : l.take (n + 2) = l := List.take_of_length_le (by omega)
  conv => lhs; rw [← h1]
  rw [List.take_succ_eq_append_getElem (by omega), List.take_succ_eq_append_getElem (by omega), List.append_assoc]
  simp [List.getD_eq_getElem?_getD, List.getElem?_eq_getElem (show n < l.length by omega), List.getElem?_eq_getElem (show n + 1 < l.length by omega)]
/-- A string is the protected string of its beginning exactly if its syndrome is 0. -/
theorem prot_iff (d : ByteArray) (n : Nat) (h : d.size = n + 2) : protB (d.extract 0 n) = d ↔ synL (bytesOf d) = 0#16 := by
  have hl : (bytesOf d).length = n + 2 := by rw [bytesOf_len, h]
  have hs := split_two (bytesOf d) n hl
  have hx : (bytesOf d).getD n 0 < 256 := by
    rw [List.getD_eq_getElem?_getD, List.getElem?_eq_getElem (show n < (bytesOf d).length by omega)]
    exact bytesOf_lt d _ (List.getElem_mem _)
  have hy : (bytesOf d).getD (n + 1) 0 < 256 := by
    rw [List.getD_eq_getElem?_getD, List.getElem?_eq_getElem (show n + 1 < (bytesOf d).length by omega)]
    exact bytesOf_lt d _ (List.getElem_mem _)
  generalize (bytesOf d).getD n 0 = x at *
  generalize (bytesOf d).getD (n + 1) 0 = y at *
  have hlt := (upd 0#16 ((bytesOf d).take n)).isLt
  constructor
  · intro e
    have e2 : bytesOf (protB (d.extract 0 n)) = bytesOf d := by rw [e]
    rw [← e2, bytesOf_prot, synL_prot]
  · intro e
    apply bytesOf_inj
    rw [bytesOf_prot, bytesOf_extract, protL]
    rw [hs, synL_append _ _ _ hy] at e
    have e3 : upd 0#16 ((bytesOf d).take n) = BitVec.ofNat 16 (256 * x + y) := by
      have := congrArg (· ^^^ BitVec.ofNat 16 (256 * x + y)) e
      simpa [BitVec.xor_assoc] using this
    have e4 : (upd 0#16 ((bytesOf d).take n)).toNat = 256 * x + y := by rw [e3, BitVec.toNat_ofNat]; omega
    rw [e4, show (256 * x + y) / 256 = x by omega, show (256 * x + y) % 256 = y by omega, ← hs]
theorem chkV_prot (d : ByteArray) : chkV (protB d) = d := by
  rw [chkV, if_neg (by rw [prot_size]; omega), if_pos (by rw [bytesOf_prot, synL_prot])]
  apply bytesOf_inj
  rw [bytesOf_extract, bytesOf_prot, prot_size, protL, Nat.add_sub_cancel, ← bytesOf_len, List.take_left']
  rfl
theorem chkE_prot (d : ByteArray) : chkE (protB d) = 0 := by
  rw [chkE, if_neg (by rw [prot_size]; omega), if_pos (by rw [bytesOf_prot, synL_prot])]
theorem updB_append (s : Wd) (a b : ByteArray) : updB s (a ++ b) = updB (updB s a) b := by
  rw [updB, bytesOf_append, upd_append]; rfl
theorem cmb_sum (s : Wd) (b : ByteArray) : cmb s (updB 0#16 b) (b.size : Int) = updB s b := by
  have e : powZ 8 (b.size : Int) = pw (8 * b.size) := by rw [powZ, if_neg (by omega)]; rfl
  rw [cmb, e, mul_pw]
  have := upd_shift s 0#16 (bytesOf b)
  rw [BitVec.xor_zero, bytesOf_len] at this
  exact this.symm
end Go.Proofs.Ytelpdihaonoedaa
