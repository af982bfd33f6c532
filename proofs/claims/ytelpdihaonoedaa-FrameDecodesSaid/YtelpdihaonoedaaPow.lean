/- Powers: raise, Power, the document's Power. -/
import Derived.Test.YtelpdihaonoedaaWord
import Derived.Test.YtelpdihaonoedaaEach
import Derived.Test.YtelpdihaonoedaaShelf
namespace Go.Proofs.Ytelpdihaonoedaa
open Go.RowKit
set_option linter.unusedVariables false

theorem div_bit (m k : Nat) : ((m : Int) / 2 ^ k % 2 = 1) ↔ (m / 2 ^ k % 2 = 1) := by
  rw [show ((2 : Int) ^ k) = ((2 ^ k : Nat) : Int) by rw [Int.natCast_pow]; rfl, ← Int.natCast_ediv]
  omega
/-- What raise returns. -/
def powZ (q : Nat) (n : Int) : Wd := if n < 0 then 0#16 else pw (q * n.toNat)
theorem aux_bound : ∀ f x, x < 2 ^ f → x < 2 ^ Lib.bitLenAux f x ∧ Lib.bitLenAux f x ≤ f := by
  intro f
  induction f with
  | zero => intro x h; exact ⟨h, Nat.le_refl _⟩
  | succ f ih =>
    intro x h
    rw [Lib.bitLenAux]
    by_cases h0 : x = 0
    · simp [h0]
    · rw [if_neg h0]
      obtain ⟨a, b⟩ := ih (x / 2) (by omega)
      rw [Nat.add_comm 1, Nat.pow_succ]
      exact ⟨by omega, by omega⟩
theorem bitLen_bound (n : Nat) (h : n < 2 ^ 64) : n < 2 ^ Lib.bitLen n ∧ Lib.bitLen n ≤ 64 := aux_bound 64 n h
theorem pw_dbl (q k : Nat) : mul (pw (q * 2 ^ k)) (pw (q * 2 ^ k)) = pw (q * 2 ^ (k + 1)) := by
  rw [mul_pw_pw, Nat.pow_succ, ← Nat.mul_assoc, Nat.mul_two]
theorem pw_bit (q n k : Nat) (h : n / 2 ^ k % 2 = 1) : mul (pw (q * (n % 2 ^ k))) (pw (q * 2 ^ k)) = pw (q * (n % 2 ^ (k + 1))) := by
  rw [mul_pw_pw, Nat.mod_pow_succ, h, Nat.mul_one, Nat.mul_add]
theorem pw_nobit (q n k : Nat) (h : n / 2 ^ k % 2 ≠ 1) : n % 2 ^ k = n % 2 ^ (k + 1) := by
  rw [Nat.mod_pow_succ, show n / 2 ^ k % 2 = 0 by omega, Nat.mul_zero, Nat.add_zero]
end Go.Proofs.Ytelpdihaonoedaa
