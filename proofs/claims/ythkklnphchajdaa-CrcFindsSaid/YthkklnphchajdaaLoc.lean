/- Locate; Combine, and the document's Combine. -/
import Derived.Test.YthkklnphchajdaaPow
namespace Go.Proofs.Ythkklnphchajdaa
open Go.RowKit

/-- What Locate returns. -/
structure Loc (s : Wd) (b : Int) (i : Nat) (ok : Bool) : Prop where
  yes : ok = true → pw i = s ∧ (i : Int) < b ∧ i < 32767 ∧ ∀ j, j < i → pw j ≠ s
  no : ok = false → i = 0 ∧ ∀ j : Nat, (j : Int) < b → j < 32767 → pw j ≠ s
def LocRes (s : Wd) (b : Int) (e : Ending) : Prop := ∃ (i : Nat) (ok : Bool), e = .returned (.tuple #[.int .i64 (i : Nat), .bool ok]) ∧ Loc s b i ok
theorem word_ne {a b : Wd} (h : a ≠ b) : ((a.toNat : Int) == (b.toNat : Int)) = false := by
  rw [beq_eq_false_iff_ne]
  intro e
  exact h (BitVec.eq_of_toNat_eq (by omega))
theorem word_beq (a b : Wd) : ((a.toNat : Int) == (b.toNat : Int)) = (a == b) := by
  by_cases h : a = b
  · subst h; simp
  · rw [word_ne h, beq_eq_false_iff_ne.2 h]
set_option maxHeartbeats 1000000 in
theorem locate_any (s : Wd) (b : Int) (w : World) (h1 : -9223372036854775808 ≤ b) (h2 : b ≤ 9223372036854775807) :
    Calls Try.prog 26 #[.int .u16 (s.toNat : Int), .int .i64 b] w fun e w' => LocRes s b e ∧ w' = w := by
  obtain ⟨M, hM, hM1, hM2, hM3⟩ : ∃ M : Int, M = min b 32767 ∧ M ≤ 32767 ∧ M ≤ b ∧ (M = b ∨ M = 32767) := ⟨_, rfl, by omega, by omega, by omega⟩
  have HM := Lib.hid hM
  have HM3 := Lib.hid hM3
  clear hM hM3
  go_enter Try.func26, Try.ntmps26
  go_wp2_with fail
  rw [← HM.out]
  go_loopw [6, 7, 10] (fun x _ i wr => ∃ k : Nat, i = .int .i64 k ∧ x = .int .u16 ((pw k).toNat : Int) ∧ ((k : Int) ≤ M ∨ k = 0) ∧ (∀ j, j < k → pw j ≠ s) ∧ wr = w) (fun _ _ i _ => (M - intOf i).toNat)
  case atStart => exact ⟨0, rfl, rfl, .inr rfl, fun j hj => by omega, rfl⟩
  case round =>
    obtain ⟨k, rfl, rfl, hk, hd, rfl⟩ := hrel
    have HD := Lib.hid hd
    have HK := Lib.hid hk
    clear hd hk
    by_cases hlt : (k : Int) < M
    · by_cases he : pw k = s
      · have hb := word_beq (pw k) s
        rw [show (pw k == s) = true by simp [he]] at hb
        have HE := Lib.hid he
        clear he
        go_wp2_with fail
        go_ret2
        exact ⟨⟨k, true, rfl, ⟨fun _ => ⟨HE.out, by omega, by omega, HD.out⟩, fun h => by cases h⟩⟩, rfl⟩
      · have hb := word_ne he
        have HE := Lib.hid he
        clear he
        go_wp2_with fail
        refine (shift_any _ _).mono ?_
        rintro e w1 ⟨rfl, rfl⟩
        go_wp2_with fail
        go_roundw
        case rel => exact ⟨k + 1, by go_num, rfl, .inl (by omega), fun j hj => by
          by_cases hjk : j = k
          · rw [hjk]; exact HE.out
          · exact HD.out j (by omega), trivial⟩
        case measure => simp [intOf]; omega
    · go_wp2_with fail
      go_ret2
      refine ⟨⟨0, false, rfl, ⟨fun h => (by cases h), fun _ => ⟨rfl, fun j hj hj2 => HD.out j ?_⟩⟩⟩, rfl⟩
      have := HM3.out
      have := HK.out
      omega

theorem cmb_word (a b p : Wd) : bits .xor .u16 ((mul a p).toNat : Int) (b.toNat : Int) = ((mul a p ^^^ b).toNat : Int) := bits_xor _ _
theorem pw8 : pw 8 = 256#16 := by decide
/-- What Combine returns. -/
def cmb (a b : Wd) (n : Int) : Wd := mul a (powZ 8 n) ^^^ b
theorem combine_any (a b : Wd) (n : Int) (w : World) (h1 : -9223372036854775808 ≤ n) (h2 : n ≤ 9223372036854775807) :
    Calls Try.prog 16 #[.int .u16 (a.toNat : Int), .int .u16 (b.toNat : Int), .int .i64 n] w fun e w' => e = .returned (.int .u16 ((cmb a b n).toNat : Int)) ∧ w' = w := by
  have HR := Lib.hid (raise_any 8 n w h1 h2)
  have HC := Lib.hid (cmb_word a b (powZ 8 n))
  go_enter Try.func16, Try.ntmps16
  go_wp2_with fail
  refine HR.out.mono ?_
  rintro e w' ⟨rfl, rfl⟩
  go_wp2_with fail
  refine (mul_any _ _ _).mono ?_
  rintro e w1 ⟨rfl, rfl⟩
  go_wp2_with fail
  go_ret
  refine ⟨?_, rfl⟩
  simp only [Array.getD]
  exact congrArg _ (congrArg _ HC.out)
theorem mul_zero (a : Wd) : mul a 0#16 = 0#16 := by rw [mul_comm]; have := mul_xor_left 0#16 0#16 a; rw [BitVec.xor_self, BitVec.xor_self] at this; exact this
theorem cmb_neg (a b : Wd) (n : Int) (h : n < 0) : cmb a b n = b := by simp [cmb, powZ, h, mul_zero]
theorem cmb_mod (a b : Wd) (m : Nat) : cmb a b m = mul a (powZ 1 ((8 * (m % 32767) : Nat) : Int)) ^^^ b := by
  have e : pw (8 * m) = pw (1 * (8 * (m % 32767))) := by
    rw [Nat.one_mul, ← pw_mod (8 * m), ← pw_mod (8 * (m % 32767))]
    congr 1
    omega
  rw [cmb, powZ, if_neg (by omega), powZ, if_neg (by omega)]
  rw [show ((m : Int)).toNat = m from rfl, e]
  rfl
theorem combineR_any (a b : Wd) (n : Int) (w : World) (h1 : -9223372036854775808 ≤ n) (h2 : n ≤ 9223372036854775807) :
    Calls Try.prog 17 #[.int .u16 (a.toNat : Int), .int .u16 (b.toNat : Int), .int .i64 n] w fun e w' => e = .returned (.int .u16 ((cmb a b n).toNat : Int)) ∧ w' = w := by
  by_cases hn : n < 0
  · have HC := Lib.hid (cmb_neg a b n hn)
    go_enter Try.func17, Try.ntmps17
    go_wp2_with fail
    go_ret
    rw [HC.out]
    exact ⟨rfl, rfl⟩
  · obtain ⟨m, rfl⟩ := Int.eq_ofNat_of_zero_le (show 0 ≤ n by omega)
    have HR := Lib.hid (powerR_any ((8 * (m % 32767) : Nat) : Int) w (by omega) (by omega))
    have HC := Lib.hid (cmb_mod a b m)
    have HX := Lib.hid (cmb_word a b (powZ 1 ((8 * (m % 32767) : Nat) : Int)))
    have HN := Lib.hid (show (8 : Int) * ((m : Int) % 32767) = ((8 * (m % 32767) : Nat) : Int) by omega)
    generalize powZ 1 ((8 * (m % 32767) : Nat) : Int) = p at HR HC HX
    generalize 8 * (m % 32767) = k at HR HN
    go_enter Try.func17, Try.ntmps17
    go_wp2_with fail
    rw [HN.out]
    refine HR.out.mono ?_
    rintro e w' ⟨rfl, rfl⟩
    go_wp2_with fail
    refine (mulR_any _ _ _).mono ?_
    rintro e w1 ⟨rfl, rfl⟩
    go_wp2_with fail
    go_ret
    rw [HC.out]
    refine ⟨?_, rfl⟩
    simp only [Array.getD]
    exact congrArg _ (congrArg _ HX.out)
end Go.Proofs.Ythkklnphchajdaa
