/- Words of 16 bits in the walk; shift, Times. -/
import Derived.Test.YtelpdihaonoedaaRows
import Derived.Test.YtelpdihaonoedaaBase
import Derived.Test.YtelpdihaonoedaaAlg
namespace Go.Proofs.Ytelpdihaonoedaa
open Go.RowKit

theorem ofInt_toNat (x : Wd) : BitVec.ofInt 16 (x.toNat : Int) = x := by simp
theorem wrap_toNat (x : Wd) : IntKind.u16.wrap (x.toNat : Int) = (x.toNat : Int) := by
  have := x.isLt
  rw [IntKind.wrap_u16]
  omega
theorem bits_xor (x y : Wd) : bits .xor .u16 (x.toNat : Int) (y.toNat : Int) = ((x ^^^ y).toNat : Int) := by
  show IntKind.u16.wrap ((BitVec.ofInt 16 (x.toNat : Int) ^^^ BitVec.ofInt 16 (y.toNat : Int)).toNat : Int) = _
  rw [ofInt_toNat, ofInt_toNat, wrap_toNat]
theorem bits_and (x y : Wd) : bits .and .u16 (x.toNat : Int) (y.toNat : Int) = ((x &&& y).toNat : Int) := by
  show IntKind.u16.wrap ((BitVec.ofInt 16 (x.toNat : Int) &&& BitVec.ofInt 16 (y.toNat : Int)).toNat : Int) = _
  rw [ofInt_toNat, ofInt_toNat, wrap_toNat]
theorem shl_toNat (x : Wd) (s : Nat) : ((x.toNat : Int) * 2 ^ s) % 65536 = ((x <<< s).toNat : Int) := by
  rw [BitVec.toNat_shiftLeft, Nat.shiftLeft_eq, Int.natCast_emod, Int.natCast_mul, Int.natCast_pow]
  rfl
theorem shr_toNat (x : Wd) (s : Nat) : (x.toNat : Int) / 2 ^ s = ((x >>> s).toNat : Int) := by
  rw [BitVec.toNat_ushiftRight, Nat.shiftRight_eq_div_pow, Int.natCast_ediv, Int.natCast_pow]
  rfl
theorem msb_div (a : Wd) : a.msb = decide ((a.toNat : Int) / 32768 = 1) := by
  have := a.isLt
  rw [BitVec.msb_eq_decide]
  congr 1
  apply propext
  omega
theorem wrap_dbl (a : Wd) : IntKind.u16.wrap ((a.toNat : Int) * (2 : Int)) = ((a <<< 1).toNat : Int) := by
  rw [IntKind.wrap_u16, ← shl_toNat a 1, show ((2 : Int) ^ 1) = 2 from rfl]
theorem dbl_toNat (a : Wd) (h : ¬ (a.toNat : Int) / 32768 = 1) : (a.toNat : Int) * (2 : Int) = ((a <<< 1).toNat : Int) := by
  have := a.isLt
  rw [← shl_toNat a 1, show ((2 : Int) ^ 1) = 2 from rfl]
  omega
theorem tx_hi (a : Wd) (h : (a.toNat : Int) / 32768 = 1) : bits .xor .u16 (IntKind.u16.wrap ((a.toNat : Int) * (2 : Int))) 4129 = ((tx a).toNat : Int) := by
  have hm := msb_div a
  rw [show tx a = (a <<< 1) ^^^ 0x1021#16 by simp [tx, hm, h], ← bits_xor, wrap_dbl]
  rfl
theorem tx_lo (a : Wd) (h : ¬ (a.toNat : Int) / 32768 = 1) : (a.toNat : Int) * (2 : Int) = ((tx a).toNat : Int) := by
  have hm := msb_div a
  rw [dbl_toNat a h, show tx a = (a <<< 1) by simp [tx, hm, h]]

theorem shift_any (a : Wd) (w : World) : Calls Try.prog 134 #[.int .u16 (a.toNat : Int)] w fun e w' => e = .returned (.int .u16 ((tx a).toNat : Int)) ∧ w' = w := by
  by_cases h : (a.toNat : Int) / 32768 = 1
  · have HT := Lib.hid (tx_hi a h)
    go_enter Try.func134, Try.ntmps134
    go_wp2_with fail
    go_ret
    refine ⟨?_, rfl⟩
    simp only [Array.getD]
    exact congrArg _ (congrArg _ HT.out)
  · have HT := Lib.hid (tx_lo a h)
    go_enter Try.func134, Try.ntmps134
    go_wp2_with fail
    go_ret
    refine ⟨?_, rfl⟩
    simp only [Array.getD]
    exact congrArg _ (congrArg _ HT.out)
theorem times_any (a : Wd) (w : World) : Calls Try.prog 132 #[.int .u16 (a.toNat : Int)] w fun e w' => e = .returned (.int .u16 ((tx a).toNat : Int)) ∧ w' = w := by
  have hl := a.isLt
  by_cases h : 32768 ≤ (a.toNat : Int)
  · have HT := Lib.hid (tx_hi a (by omega))
    clear hl
    go_enter Try.func132, Try.ntmps132
    go_wp2_with fail
    go_ret
    refine ⟨?_, rfl⟩
    simp only [Array.getD]
    exact congrArg _ (congrArg _ HT.out)
  · have HT := Lib.hid (tx_lo a (by omega))
    clear hl
    go_enter Try.func132, Try.ntmps132
    go_wp2_with fail
    go_ret
    refine ⟨?_, rfl⟩
    simp only [Array.getD]
    exact congrArg _ (congrArg _ HT.out)
/-- The test of a bit. -/
theorem bit_test (b : Wd) (k : Nat) : (bits .and .u16 ((b.toNat : Int) / 2 ^ k) 1 == 1) = b.getLsbD k := by
  rw [shr_toNat, show (1 : Int) = ((1#16 : Wd).toNat : Int) from rfl, bits_and]
  rw [Bool.eq_iff_iff, beq_iff_eq]
  rw [show (((b >>> k &&& 1#16).toNat : Int) = ((1#16 : Wd).toNat : Int)) ↔ (b >>> k &&& 1#16).toNat = 1 from by rw [Int.natCast_inj]; rfl]
  rw [BitVec.toNat_and, BitVec.toNat_ushiftRight, show (1#16 : Wd).toNat = 1 from rfl, Nat.and_one_is_mod, BitVec.getLsbD, Nat.testBit]
  simp [Nat.one_and_eq_mod_two]
theorem horner0 (a b : Wd) (k : Nat) (h : Wd) (hk : 1 ≤ k) (e : mul a b = msum a b k ^^^ txn k h) : mul a b = msum a b (k - 1) ^^^ txn (k - 1) (tx h ^^^ (if b.getLsbD (k - 1) then a else 0#16)) := by
  obtain ⟨i, rfl⟩ : ∃ i, k = i + 1 := ⟨k - 1, by omega⟩
  exact horner a b i h e
end Go.Proofs.Ytelpdihaonoedaa
