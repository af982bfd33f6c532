/- Powers: raise, Power, the document's Power. -/
import Derived.Test.YthkklnphchajdaaWord
import Derived.Test.YthkklnphchajdaaShelf
namespace Go.Proofs.Ythkklnphchajdaa
open Go.RowKit

theorem and_one (x : Int) (h1 : -9223372036854775808 ≤ x) (h2 : x ≤ 9223372036854775807) : (bits .and .i64 x 1 == 1) = decide (x % 2 = 1) := by
  have e : bits .and .i64 x 1 = x % 2 := by
    show IntKind.i64.wrap ((BitVec.ofInt 64 x &&& BitVec.ofInt 64 1).toNat : Int) = _
    have k : (BitVec.ofInt 64 x &&& BitVec.ofInt 64 1).toNat = (x % 2).toNat := by
      rw [BitVec.toNat_and]
      simp only [BitVec.toNat_ofInt]
      rw [show ((1 : Int) % ((2 ^ 64 : Nat) : Int)).toNat = 1 from by decide, Nat.and_one_is_mod]
      omega
    rw [k]
    have : x % 2 = 0 ∨ x % 2 = 1 := by omega
    rcases this with h | h <;> rw [h] <;> decide
  rw [e]; rfl
theorem shr_bounds (n : Int) (k : Nat) (h1 : -9223372036854775808 ≤ n) (h2 : n ≤ 9223372036854775807) : -9223372036854775808 ≤ n / 2 ^ k ∧ n / 2 ^ k ≤ 9223372036854775807 := by
  have hp : (0 : Int) < 2 ^ k := Int.pow_pos (by decide)
  have hp1 : (1 : Int) ≤ 2 ^ k := hp
  constructor
  · rw [Int.le_ediv_iff_mul_le hp]
    have : (-9223372036854775808 : Int) * 2 ^ k ≤ -9223372036854775808 * 1 := Int.mul_le_mul_of_nonpos_left (by decide) hp1
    omega
  · rcases Int.le_total 0 n with hn | hn
    · exact Int.le_trans (Int.ediv_le_self _ hn) h2
    · exact Int.le_trans (Int.ediv_nonpos_of_nonpos_of_neg hn hp |> fun h => h) (by decide)
theorem div_bit (m k : Nat) : ((m : Int) / 2 ^ k % 2 = 1) ↔ (m / 2 ^ k % 2 = 1) := by
  rw [show ((2 : Int) ^ k) = ((2 ^ k : Nat) : Int) by rw [Int.natCast_pow]; rfl, ← Int.natCast_ediv]
  omega
/-- What raise returns. -/
def powZ (q : Nat) (n : Int) : Wd := if n < 0 then 0#16 else pw (q * n.toNat)
theorem aux_bound : ∀ f x, x < 2 ^ f → x < 2 ^ Lib.bitLenAux f x ∧ Lib.bitLenAux f x ≤ f := by
  intro f
  induction f with
  | zero => intro x h; exact ⟨h, Nat.le_refl _⟩
  | succ f ih =>
    intro x h
    rw [Lib.bitLenAux]
    by_cases h0 : x = 0
    · simp [h0]
    · rw [if_neg h0]
      obtain ⟨a, b⟩ := ih (x / 2) (by omega)
      rw [Nat.add_comm 1, Nat.pow_succ]
      exact ⟨by omega, by omega⟩
theorem bitLen_bound (n : Nat) (h : n < 2 ^ 64) : n < 2 ^ Lib.bitLen n ∧ Lib.bitLen n ≤ 64 := aux_bound 64 n h
theorem pw_dbl (q k : Nat) : mul (pw (q * 2 ^ k)) (pw (q * 2 ^ k)) = pw (q * 2 ^ (k + 1)) := by
  rw [mul_pw_pw, Nat.pow_succ, ← Nat.mul_assoc, Nat.mul_two]
theorem pw_bit (q n k : Nat) (h : n / 2 ^ k % 2 = 1) : mul (pw (q * (n % 2 ^ k))) (pw (q * 2 ^ k)) = pw (q * (n % 2 ^ (k + 1))) := by
  rw [mul_pw_pw, Nat.mod_pow_succ, h, Nat.mul_one, Nat.mul_add]
theorem pw_nobit (q n k : Nat) (h : n / 2 ^ k % 2 ≠ 1) : n % 2 ^ k = n % 2 ^ (k + 1) := by
  rw [Nat.mod_pow_succ, show n / 2 ^ k % 2 = 0 by omega, Nat.mul_zero, Nat.add_zero]
set_option maxHeartbeats 1000000 in
theorem raise_any (q : Nat) (n : Int) (w : World) (h1 : -9223372036854775808 ≤ n) (h2 : n ≤ 9223372036854775807) :
    Calls Try.prog 30 #[.int .u16 ((pw q).toNat : Int), .int .i64 n] w fun e w' => e = .returned (.int .u16 ((powZ q n).toNat : Int)) ∧ w' = w := by
  by_cases hn : n < 0
  · have HP := Lib.hid (show powZ q n = 0#16 by simp [powZ, hn])
    go_enter Try.func30, Try.ntmps30
    go_wp2_with fail
    go_ret
    rw [HP.out]
    exact ⟨rfl, rfl⟩
  · obtain ⟨m, rfl⟩ := Int.eq_ofNat_of_zero_le (show 0 ≤ n by omega)
    have HP := Lib.hid (show powZ q m = pw (q * m) by rw [powZ, if_neg hn]; rfl)
    have HL := Lib.hid (bitLen_bound m (by omega))
    go_enter Try.func30, Try.ntmps30
    go_wp2_with fail
    refine (Try.bits_Len m w (by omega) (by omega)).mono ?_
    rintro e w' ⟨rfl, rfl⟩
    go_wp2_with fail
    go_loopw [0, 5, 12] (fun x p i wr => ∃ k : Nat, k ≤ Lib.bitLen m ∧ i = .int .i64 k ∧ x = .int .u16 ((pw (q * 2 ^ k)).toNat : Int) ∧ p = .int .u16 ((pw (q * (m % 2 ^ k))).toNat : Int) ∧ wr = w') (fun _ _ i _ => Lib.bitLen m - (intOf i).toNat)
    case atStart => exact ⟨0, Nat.zero_le _, rfl, by simp, by simp [Nat.mod_one, pw, txn], rfl⟩
    case round =>
      obtain ⟨k, hk, rfl, rfl, rfl, rfl⟩ := hrel
      by_cases hlt : k < Lib.bitLen m
      · have hk64 := HL.out.2
        have HB := and_one ((m : Int) / 2 ^ k) (shr_bounds m k h1 h2).1 (shr_bounds m k h1 h2).2
        have HQ := Lib.hid (pw_dbl q k)
        by_cases hb : m / 2 ^ k % 2 = 1
        · rw [decide_eq_true ((div_bit m k).2 hb)] at HB
          have HX := Lib.hid (pw_bit q m k hb)
          clear hb
          go_wp2_with fail
          refine (mul_any _ _ _).mono ?_
          rintro e w1 ⟨rfl, rfl⟩
          go_wp2_with fail
          refine (mul_any _ _ _).mono ?_
          rintro e w1 ⟨rfl, rfl⟩
          go_wp2_with fail
          go_roundw
          case rel => exact ⟨k + 1, by omega, by go_num, by rw [HQ.out], by rw [HX.out], trivial⟩
          case measure => simp [intOf]; omega
        · rw [decide_eq_false (fun h => hb ((div_bit m k).1 h))] at HB
          have HX := Lib.hid (pw_nobit q m k hb)
          clear hb
          go_wp2_with fail
          refine (mul_any _ _ _).mono ?_
          rintro e w1 ⟨rfl, rfl⟩
          go_wp2_with fail
          go_roundw
          case rel => exact ⟨k + 1, by omega, by go_num, by rw [HQ.out], by rw [← HX.out], trivial⟩
          case measure => simp [intOf]; omega
      · obtain rfl : k = Lib.bitLen m := by omega
        have HM := Lib.hid (Nat.mod_eq_of_lt HL.out.1)
        go_wp2_with fail
        go_ret
        rw [HP.out, HM.out]
        exact ⟨rfl, rfl⟩
theorem power_any (n : Int) (w : World) (h1 : -9223372036854775808 ≤ n) (h2 : n ≤ 9223372036854775807) :
    Calls Try.prog 20 #[.int .i64 n] w fun e w' => e = .returned (.int .u16 ((powZ 1 n).toNat : Int)) ∧ w' = w := by
  go_enter Try.func20, Try.ntmps20
  go_wp2_with fail
  refine (raise_any 1 n _ h1 h2).mono ?_
  rintro e w' ⟨rfl, rfl⟩
  go_wp2_with fail
  go_ret
  exact ⟨rfl, rfl⟩
set_option maxHeartbeats 1000000 in
theorem powerR_any (n : Int) (w : World) (h1 : -9223372036854775808 ≤ n) (h2 : n ≤ 9223372036854775807) :
    Calls Try.prog 21 #[.int .i64 n] w fun e w' => e = .returned (.int .u16 ((powZ 1 n).toNat : Int)) ∧ w' = w := by
  by_cases hn : n < 0
  · have HP := Lib.hid (show powZ 1 n = 0#16 by simp [powZ, hn])
    go_enter Try.func21, Try.ntmps21
    go_wp2_with fail
    go_ret
    rw [HP.out]
    exact ⟨rfl, rfl⟩
  · obtain ⟨m, rfl⟩ := Int.eq_ofNat_of_zero_le (show 0 ≤ n by omega)
    have HP := Lib.hid (show powZ 1 m = pw m by rw [powZ, if_neg hn, Nat.one_mul]; rfl)
    go_enter Try.func21, Try.ntmps21
    go_wp2_with fail
    go_loopw [0, 3, 4] (fun i p x wr => ∃ k : Nat, k ≤ m ∧ i = .int .i64 k ∧ (∃ s r : Nat, x = .int .u16 ((pw s).toNat : Int) ∧ p = .int .u16 ((pw r).toNat : Int) ∧ r + s * k = m) ∧ wr = w) (fun i _ _ _ => (intOf i).toNat)
    case atStart => exact ⟨m, Nat.le_refl _, rfl, ⟨1, 0, rfl, rfl, by omega⟩, rfl⟩
    case round =>
      obtain ⟨k, hk, rfl, ⟨s, r, rfl, rfl, hm⟩, rfl⟩ := hrel
      by_cases hlt : 0 < k
      · have HQ := Lib.hid (mul_pw_pw s s)
        have HX := Lib.hid (mul_pw_pw r s)
        have HM := Lib.hid hm
        clear hm
        by_cases hb : k % 2 = 1
        · have HR := Lib.hid (show r + s + (s + s) * (k / 2) = m by
            rw [← HM.out]; conv => rhs; rw [show k = 1 + 2 * (k / 2) by omega]
            rw [Nat.mul_add, ← Nat.mul_assoc, Nat.mul_one, Nat.mul_two, Nat.add_assoc])
          go_wp2_with fail
          refine (mulR_any _ _ _).mono ?_
          rintro e w1 ⟨rfl, rfl⟩
          go_wp2_with fail
          refine (mulR_any _ _ _).mono ?_
          rintro e w1 ⟨rfl, rfl⟩
          go_wp2_with fail
          go_roundw
          case rel => exact ⟨k / 2, by omega, by go_num, ⟨s + s, r + s, by rw [HQ.out], by rw [HX.out], HR.out⟩, trivial⟩
          case measure => simp [intOf]; omega
        · have HR := Lib.hid (show r + (s + s) * (k / 2) = m by
            rw [← HM.out]; conv => rhs; rw [show k = 2 * (k / 2) by omega]
            rw [← Nat.mul_assoc, Nat.mul_two])
          go_wp2_with fail
          refine (mulR_any _ _ _).mono ?_
          rintro e w1 ⟨rfl, rfl⟩
          go_wp2_with fail
          go_roundw
          case rel => exact ⟨k / 2, by omega, by go_num, ⟨s + s, r, by rw [HQ.out], rfl, HR.out⟩, trivial⟩
          case measure => simp [intOf]; omega
      · obtain rfl : k = 0 := by omega
        obtain rfl : r = m := by omega
        go_wp2_with fail
        go_ret
        rw [HP.out]
        exact ⟨rfl, rfl⟩
end Go.Proofs.Ythkklnphchajdaa
