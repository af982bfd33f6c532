/- Words of 16 bits in the walk; shift, Times. -/
import Derived.Test.YthkklnphchajdaaRows
import Derived.Test.YthkklnphchajdaaBase
import Derived.Test.YthkklnphchajdaaAlg
namespace Go.Proofs.Ythkklnphchajdaa
open Go.RowKit

theorem ofInt_toNat (x : Wd) : BitVec.ofInt 16 (x.toNat : Int) = x := by simp
theorem wrap_toNat (x : Wd) : IntKind.u16.wrap (x.toNat : Int) = (x.toNat : Int) := by
  have := x.isLt
  rw [IntKind.wrap_u16]
  omega
theorem bits_xor (x y : Wd) : bits .xor .u16 (x.toNat : Int) (y.toNat : Int) = ((x ^^^ y).toNat : Int) := by
  show IntKind.u16.wrap ((BitVec.ofInt 16 (x.toNat : Int) ^^^ BitVec.ofInt 16 (y.toNat : Int)).toNat : Int) = _
  rw [ofInt_toNat, ofInt_toNat, wrap_toNat]
theorem bits_and (x y : Wd) : bits .and .u16 (x.toNat : Int) (y.toNat : Int) = ((x &&& y).toNat : Int) := by
  show IntKind.u16.wrap ((BitVec.ofInt 16 (x.toNat : Int) &&& BitVec.ofInt 16 (y.toNat : Int)).toNat : Int) = _
  rw [ofInt_toNat, ofInt_toNat, wrap_toNat]
theorem shl_toNat (x : Wd) (s : Nat) : ((x.toNat : Int) * 2 ^ s) % 65536 = ((x <<< s).toNat : Int) := by
  rw [BitVec.toNat_shiftLeft, Nat.shiftLeft_eq, Int.natCast_emod, Int.natCast_mul, Int.natCast_pow]
  rfl
theorem shr_toNat (x : Wd) (s : Nat) : (x.toNat : Int) / 2 ^ s = ((x >>> s).toNat : Int) := by
  rw [BitVec.toNat_ushiftRight, Nat.shiftRight_eq_div_pow, Int.natCast_ediv, Int.natCast_pow]
  rfl
theorem msb_div (a : Wd) : a.msb = decide ((a.toNat : Int) / 32768 = 1) := by
  have := a.isLt
  rw [BitVec.msb_eq_decide]
  congr 1
  apply propext
  omega
theorem wrap_dbl (a : Wd) : IntKind.u16.wrap ((a.toNat : Int) * (2 : Int)) = ((a <<< 1).toNat : Int) := by
  rw [IntKind.wrap_u16, ← shl_toNat a 1, show ((2 : Int) ^ 1) = 2 from rfl]
theorem dbl_toNat (a : Wd) (h : ¬ (a.toNat : Int) / 32768 = 1) : (a.toNat : Int) * (2 : Int) = ((a <<< 1).toNat : Int) := by
  have := a.isLt
  rw [← shl_toNat a 1, show ((2 : Int) ^ 1) = 2 from rfl]
  omega
theorem tx_hi (a : Wd) (h : (a.toNat : Int) / 32768 = 1) : bits .xor .u16 (IntKind.u16.wrap ((a.toNat : Int) * (2 : Int))) 4129 = ((tx a).toNat : Int) := by
  have hm := msb_div a
  rw [show tx a = (a <<< 1) ^^^ 0x1021#16 by simp [tx, hm, h], ← bits_xor, wrap_dbl]
  rfl
theorem tx_lo (a : Wd) (h : ¬ (a.toNat : Int) / 32768 = 1) : (a.toNat : Int) * (2 : Int) = ((tx a).toNat : Int) := by
  have hm := msb_div a
  rw [dbl_toNat a h, show tx a = (a <<< 1) by simp [tx, hm, h]]

theorem shift_any (a : Wd) (w : World) : Calls Try.prog 31 #[.int .u16 (a.toNat : Int)] w fun e w' => e = .returned (.int .u16 ((tx a).toNat : Int)) ∧ w' = w := by
  by_cases h : (a.toNat : Int) / 32768 = 1
  · have HT := Lib.hid (tx_hi a h)
    go_enter Try.func31, Try.ntmps31
    go_wp2_with fail
    go_ret
    refine ⟨?_, rfl⟩
    simp only [Array.getD]
    exact congrArg _ (congrArg _ HT.out)
  · have HT := Lib.hid (tx_lo a h)
    go_enter Try.func31, Try.ntmps31
    go_wp2_with fail
    go_ret
    refine ⟨?_, rfl⟩
    simp only [Array.getD]
    exact congrArg _ (congrArg _ HT.out)
theorem times_any (a : Wd) (w : World) : Calls Try.prog 29 #[.int .u16 (a.toNat : Int)] w fun e w' => e = .returned (.int .u16 ((tx a).toNat : Int)) ∧ w' = w := by
  have hl := a.isLt
  by_cases h : 32768 ≤ (a.toNat : Int)
  · have HT := Lib.hid (tx_hi a (by omega))
    clear hl
    go_enter Try.func29, Try.ntmps29
    go_wp2_with fail
    go_ret
    refine ⟨?_, rfl⟩
    simp only [Array.getD]
    exact congrArg _ (congrArg _ HT.out)
  · have HT := Lib.hid (tx_lo a (by omega))
    clear hl
    go_enter Try.func29, Try.ntmps29
    go_wp2_with fail
    go_ret
    refine ⟨?_, rfl⟩
    simp only [Array.getD]
    exact congrArg _ (congrArg _ HT.out)
/-- The test of a bit. -/
theorem bit_test (b : Wd) (k : Nat) : (bits .and .u16 ((b.toNat : Int) / 2 ^ k) 1 == 1) = b.getLsbD k := by
  rw [shr_toNat, show (1 : Int) = ((1#16 : Wd).toNat : Int) from rfl, bits_and]
  rw [Bool.eq_iff_iff, beq_iff_eq]
  rw [show (((b >>> k &&& 1#16).toNat : Int) = ((1#16 : Wd).toNat : Int)) ↔ (b >>> k &&& 1#16).toNat = 1 from by rw [Int.natCast_inj]; rfl]
  rw [BitVec.toNat_and, BitVec.toNat_ushiftRight, show (1#16 : Wd).toNat = 1 from rfl, Nat.and_one_is_mod, BitVec.getLsbD, Nat.testBit]
  simp [Nat.one_and_eq_mod_two]
set_option maxHeartbeats 1000000 in
theorem mul_any (a b : Wd) (w : World) : Calls Try.prog 18 #[.int .u16 (a.toNat : Int), .int .u16 (b.toNat : Int)] w fun e w' => e = .returned (.int .u16 ((mul a b).toNat : Int)) ∧ w' = w := by
  go_enter Try.func18, Try.ntmps18
  go_wp2_with fail
  go_loopw [0, 5, 7] (fun x p i wr => ∃ k : Nat, k ≤ 16 ∧ i = .int .i64 k ∧ x = .int .u16 ((txn k a).toNat : Int) ∧ p = .int .u16 ((msum a b k).toNat : Int) ∧ wr = w) (fun _ _ i _ => 16 - (intOf i).toNat)
  case atStart => exact ⟨0, Nat.zero_le _, rfl, rfl, rfl, rfl⟩
  case round =>
    obtain ⟨k, hk, rfl, rfl, rfl, rfl⟩ := hrel
    by_cases hlt : k < 16
    · have HB := bit_test b k
      cases hb : b.getLsbD k
      · rw [hb] at HB
        have HP := Lib.hid (show msum a b (k + 1) = msum a b k by rw [msum, hb]; simp)
        clear hb
        go_wp2_with fail
        refine (shift_any _ _).mono ?_
        rintro e w' ⟨rfl, rfl⟩
        go_wp2_with fail
        go_roundw
        case rel => exact ⟨k + 1, by omega, by go_num, rfl, by rw [HP.out], trivial⟩
        case measure => simp [intOf]; omega
      · rw [hb] at HB
        have HP := Lib.hid (show msum a b (k + 1) = msum a b k ^^^ txn k a by rw [msum, hb]; simp)
        have HX := Lib.hid (bits_xor (msum a b k) (txn k a))
        clear hb
        go_wp2_with fail
        refine (shift_any _ _).mono ?_
        rintro e w' ⟨rfl, rfl⟩
        go_wp2_with fail
        go_roundw
        case rel => exact ⟨k + 1, by omega, by go_num, rfl, by rw [HP.out, ← HX.out], trivial⟩
        case measure => simp [intOf]; omega
    · obtain rfl : k = 16 := by omega
      go_wp2_with fail
      go_ret
      exact ⟨rfl, rfl⟩
theorem horner0 (a b : Wd) (k : Nat) (h : Wd) (hk : 1 ≤ k) (e : mul a b = msum a b k ^^^ txn k h) : mul a b = msum a b (k - 1) ^^^ txn (k - 1) (tx h ^^^ (if b.getLsbD (k - 1) then a else 0#16)) := by
  obtain ⟨i, rfl⟩ : ∃ i, k = i + 1 := ⟨k - 1, by omega⟩
  exact horner a b i h e
set_option maxHeartbeats 1000000 in
theorem mulR_any (a b : Wd) (w : World) : Calls Try.prog 19 #[.int .u16 (a.toNat : Int), .int .u16 (b.toNat : Int)] w fun e w' => e = .returned (.int .u16 ((mul a b).toNat : Int)) ∧ w' = w := by
  go_enter Try.func19, Try.ntmps19
  go_wp2_with fail
  go_loopw [5, 6] (fun p i wr => ∃ k : Nat, k ≤ 16 ∧ i = .int .i64 ((k : Int) - 1) ∧ (∃ h : Wd, p = .int .u16 (h.toNat : Int) ∧ mul a b = msum a b k ^^^ txn k h) ∧ wr = w) (fun _ i _ => (intOf i + 1).toNat)
  case atStart => exact ⟨16, Nat.le_refl _, rfl, ⟨0#16, rfl, by rw [txn_zero, BitVec.xor_zero]; rfl⟩, rfl⟩
  case round =>
    obtain ⟨k, hk, rfl, ⟨h, rfl, HM⟩, rfl⟩ := hrel
    by_cases hlt : 1 ≤ k
    · have HM' := Lib.hid (horner0 a b k h hlt HM)
      have HB := bit_test b (k - 1)
      have HK := Lib.hid (show ((k : Int) - 1).toNat = k - 1 by omega)
      clear HM
      cases hb : b.getLsbD (k - 1)
      · rw [hb] at HB HM'
        go_wp2_with fail
        refine (times_any _ _).mono ?_
        rintro e w' ⟨rfl, rfl⟩
        go_wp2_with fail
        go_roundw
        case rel => exact ⟨k - 1, by omega, by go_num, ⟨_, rfl, by have := HM'.out; simpa using this⟩, trivial⟩
        case measure => simp [intOf]; omega
      · rw [hb] at HB HM'
        have HX := Lib.hid (bits_xor (tx h) a)
        go_wp2_with fail
        refine (times_any _ _).mono ?_
        rintro e w' ⟨rfl, rfl⟩
        go_wp2_with fail
        go_roundw
        case rel => exact ⟨k - 1, by omega, by go_num, ⟨tx h ^^^ a, by rw [← HX.out], by have := HM'.out; simpa using this⟩, trivial⟩
        case measure => simp [intOf]; omega
    · obtain rfl : k = 0 := by omega
      go_wp2_with fail
      go_ret
      rw [HM]
      exact ⟨by simp [msum, txn], rfl⟩
end Go.Proofs.Ythkklnphchajdaa
