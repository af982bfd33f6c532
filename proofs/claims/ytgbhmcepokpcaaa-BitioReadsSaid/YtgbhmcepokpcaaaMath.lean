/- Plain facts on bits, numbers and strings. -/
import Derived.Test.YtgbhmcepokpcaaaAwake
namespace Go.Proofs.Ytgbhmcepokpcaaa
open Go.RowKit

theorem ibits_snoc (k : Nat) (n : Int) : ibits (k + 1) n = ibits k (n / 2) ++ [decide (n % 2 = 1)] := by
  simp only [ibits, List.range_succ, List.map_append, List.map_cons, List.map_nil]
  congr 1
  · refine List.map_congr_left fun i hi => ?_
    have hi' : i < k := List.mem_range.1 hi
    have e : k + 1 - 1 - i = (k - 1 - i) + 1 := by omega
    rw [e, Int.pow_succ, Int.mul_comm, ← Int.ediv_ediv_of_nonneg (by decide)]
  · simp

theorem emod_step (n : Int) (k : Nat) : 2 * (n / 2 % 2 ^ k) + n % 2 = n % 2 ^ (k + 1) := by
  have hp : (0 : Int) < 2 ^ k := Int.pow_pos (by decide)
  have h1 := Int.emod_add_mul_ediv (n / 2) (2 ^ k)
  have h2 := Int.emod_nonneg (n / 2) (Int.ne_of_gt hp)
  have h3 := Int.emod_lt_of_pos (n / 2) hp
  have e : (2 : Int) ^ (k + 1) = 2 * 2 ^ k := by rw [Int.pow_succ, Int.mul_comm]
  generalize n / 2 % 2 ^ k = r at *
  generalize n / 2 / 2 ^ k = q at *
  rw [e]
  have h5 : n = (2 * r + n % 2) + (2 * 2 ^ k) * q := by
    have : 2 * (2 ^ k * q) = 2 * 2 ^ k * q := by rw [Int.mul_assoc]
    omega
  generalize (2 : Int) ^ k = P at *
  have h4 : (n % 2 = 0 ∨ n % 2 = 1) := by omega
  have h6 : ((2 * r + n % 2) + (2 * P) * q) % (2 * P) = (2 * r + n % 2) % (2 * P) := Int.add_mul_emod_self_left _ _ _
  have h7 : (2 * r + n % 2) % (2 * P) = 2 * r + n % 2 := Int.emod_eq_of_lt (by omega) (by omega)
  rw [h5] 
  rw [← h5, ← h7, ← h6, ← h5]

theorem bval_ibits (k : Nat) : ∀ n : Int, (bval (ibits k n) : Int) = n % 2 ^ k := by
  induction k with
  | zero => intro n; simp [ibits, bval]
  | succ k ih =>
    intro n
    rw [ibits_snoc, bval_snoc, ← emod_step]
    have := ih (n / 2)
    push_cast
    rw [this]
    have h4 : (n % 2 = 0 ∨ n % 2 = 1) := by omega
    rcases h4 with h | h <;> simp [h]

theorem ibits_congr (k : Nat) (n m : Int) (h : n % 2 ^ k = m % 2 ^ k) : ibits k n = ibits k m := by
  induction k generalizing n m with
  | zero => simp [ibits]
  | succ k ih =>
    rw [← emod_step, ← emod_step] at h
    have hp : (0 : Int) < 2 ^ k := Int.pow_pos (by decide)
    have a1 : (n % 2 = 0 ∨ n % 2 = 1) := by omega
    have a2 : (m % 2 = 0 ∨ m % 2 = 1) := by omega
    have h1 : n % 2 = m % 2 := by omega
    have h2 : n / 2 % 2 ^ k = m / 2 % 2 ^ k := by omega
    rw [ibits_snoc, ibits_snoc, ih _ _ h2, h1]

theorem sbit_str {l : List Nat} {bs : List Bool} (h : Packs l bs) (i : Nat) : sbit (strOf l) i = bs.getD i false := by
  rw [← h.bit i]
  unfold sbit strOf
  have hb := h.byte (i / 8)
  simp only [List.getD_eq_getElem?_getD, List.getElem?_map]
  rw [List.getD_eq_getElem?_getD] at hb
  cases hl : l[i / 8]? with
  | none => simp
  | some x =>
    rw [hl] at hb
    simp only [Option.getD_some] at hb
    simp [Nat.mod_eq_of_lt hb]

theorem rbits_str {l : List Nat} {bs : List Bool} (h : Packs l bs) (a j : Nat) (hj : a + j ≤ bs.length) : rbits (strOf l) a j = (bs.drop a).take j := by
  refine List.ext_getElem? fun i => ?_
  unfold rbits
  by_cases hi : i < j
  · rw [List.getElem?_map, List.getElem?_range hi, Option.map_some, sbit_str h, List.getElem?_take, if_pos hi, List.getElem?_drop, List.getD_eq_getElem?_getD, List.getElem?_eq_getElem (by omega)]
    rfl
  · rw [List.getElem?_eq_none (by simp; omega), List.getElem?_eq_none (by simp; omega)]

theorem sval_emod (k : Nat) (n : Int) (hk : 1 ≤ k) (h1 : -(2 ^ (k - 1)) ≤ n) (h2 : n < 2 ^ (k - 1)) (q : Nat) (hq : (q : Int) = n % 2 ^ k) : sval k q = n := by
  obtain ⟨j, rfl⟩ : ∃ j, k = j + 1 := ⟨k - 1, by omega⟩
  have e : (2 : Int) ^ (j + 1) = 2 * 2 ^ j := by rw [Int.pow_succ, Int.mul_comm]
  have hp : (0 : Int) < 2 ^ j := Int.pow_pos (by decide)
  have ec : ((2 ^ j : Nat) : Int) = 2 ^ j := by push_cast; rfl
  simp only [Nat.add_sub_cancel] at h1 h2
  unfold sval
  simp only [Nat.add_sub_cancel]
  rw [e] at hq ⊢
  generalize (2 : Int) ^ j = P at *
  generalize (2 : Nat) ^ j = N at *
  by_cases hn : 0 ≤ n
  · rw [Int.emod_eq_of_lt hn (by omega)] at hq
    rw [if_pos (by omega)]
    omega
  · have : n % (2 * P) = n + 2 * P := by
      rw [← Int.add_emod_right, Int.emod_eq_of_lt (by omega) (by omega)]
    rw [this] at hq
    rw [if_neg (by omega)]
    omega

/-- A number that fits into a signed field. -/
theorem sErr_fits (k : Nat) (n : Int) (h1 : 2 ≤ k) (h2 : k ≤ 63) (hl : -(2 ^ (k - 1)) ≤ n) (hh : n < 2 ^ (k - 1)) : sErr k n = 0 := by
  unfold sErr
  rw [if_pos (by omega), Int.toNat_natCast]
  have hp : (0 : Int) < 2 ^ (k - 1) := Int.pow_pos (by decide)
  generalize (2 : Int) ^ (k - 1) = P at *
  rw [if_pos]
  by_cases hn : 0 ≤ n
  · exact .inl (Int.ediv_eq_zero_of_lt hn hh)
  · exact .inr ((Int.ediv_eq_iff_of_pos hp).2 (by omega))
theorem sErr_wide (k : Nat) (n : Int) (h1 : 2 ≤ k) (h2 : k ≤ 63) (h : n < -(2 ^ (k - 1)) ∨ 2 ^ (k - 1) ≤ n) : sErr k n = 2 := by
  unfold sErr
  rw [if_pos (by omega), Int.toNat_natCast]
  have hp : (0 : Int) < 2 ^ (k - 1) := Int.pow_pos (by decide)
  generalize (2 : Int) ^ (k - 1) = P at *
  rw [if_neg]
  rintro (e | e)
  · rw [Int.ediv_eq_iff_of_pos hp] at e; omega
  · rw [Int.ediv_eq_iff_of_pos hp] at e; omega
end Go.Proofs.Ytgbhmcepokpcaaa
