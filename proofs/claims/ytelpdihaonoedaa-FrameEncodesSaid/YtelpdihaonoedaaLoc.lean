/- Locate; Combine, and the document's Combine. -/
import Derived.Test.YtelpdihaonoedaaPow
namespace Go.Proofs.Ytelpdihaonoedaa
open Go.RowKit

/-- What Locate returns. -/
structure Loc (s : Wd) (b : Int) (i : Nat) (ok : Bool) : Prop where
  yes : ok = true → pw i = s ∧ (i : Int) < b ∧ i < 32767 ∧ ∀ j, j < i → pw j ≠ s
  no : ok = false → i = 0 ∧ ∀ j : Nat, (j : Int) < b → j < 32767 → pw j ≠ s
def LocRes (s : Wd) (b : Int) (e : Ending) : Prop := ∃ (i : Nat) (ok : Bool), e = .returned (.tuple #[.int .i64 (i : Nat), .bool ok]) ∧ Loc s b i ok
theorem word_ne {a b : Wd} (h : a ≠ b) : ((a.toNat : Int) == (b.toNat : Int)) = false := by
  rw [beq_eq_false_iff_ne]
  intro e
  exact h (BitVec.eq_of_toNat_eq (by omega))
theorem word_beq (a b : Wd) : ((a.toNat : Int) == (b.toNat : Int)) = (a == b) := by
  by_cases h : a = b
  · subst h; simp
  · rw [word_ne h, beq_eq_false_iff_ne.2 h]
theorem cmb_word (a b p : Wd) : bits .xor .u16 ((mul a p).toNat : Int) (b.toNat : Int) = ((mul a p ^^^ b).toNat : Int) := bits_xor _ _
theorem pw8 : pw 8 = 256#16 := by decide
/-- What Combine returns. -/
def cmb (a b : Wd) (n : Int) : Wd := mul a (powZ 8 n) ^^^ b
theorem mul_zero (a : Wd) : mul a 0#16 = 0#16 := by rw [mul_comm]; have := mul_xor_left 0#16 0#16 a; rw [BitVec.xor_self, BitVec.xor_self] at this; exact this
theorem cmb_neg (a b : Wd) (n : Int) (h : n < 0) : cmb a b n = b := by simp [cmb, powZ, h, mul_zero]
theorem cmb_mod (a b : Wd) (m : Nat) : cmb a b m = mul a (powZ 1 ((8 * (m % 32767) : Nat) : Int)) ^^^ b := by
  have e : pw (8 * m) = pw (1 * (8 * (m % 32767))) := by
    rw [Nat.one_mul, ← pw_mod (8 * m), ← pw_mod (8 * (m % 32767))]
    congr 1
    omega
  rw [cmb, powZ, if_neg (by omega), powZ, if_neg (by omega)]
  rw [show ((m : Int)).toNat = m from rfl, e]
  rfl
end Go.Proofs.Ytelpdihaonoedaa
