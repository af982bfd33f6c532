/- What a clock shows: floor, dials as closures, checks. -/
import Derived.Test.YtmkmefcafpgphaaBase
import Derived.Test.YtmkmefcafpgphaaRows
import Derived.BigQuiet
namespace Go.Proofs.Ytmkmefcafpgphaa
set_option linter.unusedVariables false
open Go.RowKit

abbrev MT : Int := 1099511627776
/-- from least to most -/
def inR (n a b : Int) : Bool := decide (a ≤ n) && decide (n ≤ b)
theorem inR_t {n a b : Int} : inR n a b = true ↔ a ≤ n ∧ n ≤ b := by simp [inR]
def okC (o d : Int) : Bool := inR o (-1099511627776) 1099511627776 && inR d (-100000) 100000
theorem okC_t {o d : Int} : okC o d = true ↔ (-1099511627776 ≤ o ∧ o ≤ 1099511627776) ∧ -100000 ≤ d ∧ d ≤ 100000 := by simp [okC, inR_t]
def isT (t : Int) : Bool := inR t 0 MT
theorem isT_t {t : Int} : isT t = true ↔ 0 ≤ t ∧ t ≤ MT := inR_t
def erC (o d : Int) : Int := if okC o d then 0 else 1
/-- rounded down -/
def fl (a : Int) : Int := a / 1000000000
def sh (o d t : Int) : Int := o + t + fl (t * d)
theorem mul_lo {d t : Int} (hd : -100000 ≤ d) (ht : 0 ≤ t) (hm : t ≤ MT) : -109951162777600000 ≤ t * d := by
  have h1 : t * (-100000) ≤ t * d := Int.mul_le_mul_of_nonneg_left hd ht
  simp only [MT] at hm
  omega
theorem mul_hi {d t : Int} (hd : d ≤ 100000) (ht : 0 ≤ t) (hm : t ≤ MT) : t * d ≤ 109951162777600000 := by
  have h1 : t * d ≤ t * 100000 := Int.mul_le_mul_of_nonneg_left hd ht
  simp only [MT] at hm
  omega
theorem fl_neg {a : Int} (h : a < 0) : a.tdiv 1000000000 = (if a.tmod 1000000000 < 0 then fl a + 1 else fl a) ∧ (a.tmod 1000000000 < 0 ∨ a.tmod 1000000000 = 0) := by
  unfold fl
  rw [Int.tdiv_eq_ediv, Int.tmod_eq_emod]
  by_cases hd : (1000000000 : Int) ∣ a
  · have e := Int.emod_eq_zero_of_dvd hd
    simp [hd, e]
  · have e : a % 1000000000 ≠ 0 := fun h => hd (Int.dvd_of_emod_eq_zero h)
    have e2 : 0 ≤ a % 1000000000 := Int.emod_nonneg a (by decide)
    have e3 : a % 1000000000 < 1000000000 := Int.emod_lt_of_pos a (by decide)
    have hn : ¬ (0 ≤ a ∨ (1000000000 : Int) ∣ a) := by rintro (h' | h'); omega; exact hd h'
    simp only [hn, if_false]
    have hs : Int.sign 1000000000 = 1 := rfl
    have hs2 : ((Int.natAbs 1000000000 : Nat) : Int) = 1000000000 := rfl
    rw [hs, hs2]
    refine ⟨?_, Or.inl (by omega)⟩
    rw [if_pos (by omega)]
theorem fl_pos {a : Int} (h : 0 ≤ a) : 0 ≤ a % 1000000000 := Int.emod_nonneg a (by decide)

set_option maxHeartbeats 400000 in
theorem within_any (n a b : Int) (w : World) : Calls Try.prog 66 #[.int .i64 n, .int .i64 a, .int .i64 b] w fun e w' => e = .returned (.bool (inR n a b)) ∧ w' = w := by
  by_cases h1 : a ≤ n
  · have HR := Lib.hid (show inR n a b = decide (n ≤ b) by simp [inR, h1])
    go_enter Try.func66, Try.ntmps66
    go_wp2_with fail
    go_ret
    rw [HR.out]
    exact ⟨rfl, rfl⟩
  · have HR := Lib.hid (show inR n a b = false by simp [inR, h1])
    have h3 : n < a := by omega
    clear h1
    go_enter Try.func66, Try.ntmps66
    go_wp2_with fail
    go_ret
    rw [HR.out]
    exact ⟨rfl, rfl⟩
theorem isTime_any (n : Int) (w : World) : Calls Try.prog 61 #[.int .i64 n] w fun e w' => e = .returned (.bool (isT n)) ∧ w' = w := by
  go_enter Try.func61, Try.ntmps61
  go_wp2_with fail
  refine (within_any n 0 1099511627776 _).mono ?_
  rintro e w' ⟨rfl, rfl⟩
  go_wp2_with fail
  go_ret
  exact ⟨rfl, rfl⟩
set_option maxHeartbeats 400000 in
theorem time_any (n : Int) (w : World) : Calls Try.prog 46 #[.int .i64 n] w fun e w' => e = .returned (.bool (isT n)) ∧ w' = w := by
  by_cases h1 : 0 ≤ n
  · have HR := Lib.hid (show isT n = decide (n ≤ 1099511627776) by simp [isT, inR, h1, MT])
    go_enter Try.func46, Try.ntmps46
    go_wp2_with fail
    go_ret
    rw [HR.out]
    exact ⟨rfl, rfl⟩
  · have HR := Lib.hid (show isT n = false by simp [isT, inR, h1])
    have h3 : n < 0 := by omega
    clear h1
    go_enter Try.func46, Try.ntmps46
    go_wp2_with fail
    go_ret
    rw [HR.out]
    exact ⟨rfl, rfl⟩
set_option maxHeartbeats 400000 in
theorem floor_any (a : Int) (w : World) (h1 : -109951162777600000 ≤ a) (h2 : a ≤ 109951162777600000) :
    Calls Try.prog 74 #[.int .i64 a, .int .i64 1000000000] w fun e w' => e = .returned (.int .i64 (fl a)) ∧ w' = w := by
  by_cases h : 0 ≤ a
  · have hm := fl_pos h
    have HR := Lib.hid (show a / 1000000000 = fl a from rfl)
    go_enter Try.func74, Try.ntmps74
    go_wp2_with fail
    go_ret
    rw [HR.out]
    exact ⟨rfl, rfl⟩
  · obtain ⟨hq, hm⟩ := fl_neg (show a < 0 by omega)
    have hf : -109951163 ≤ fl a ∧ fl a ≤ 0 := by unfold fl; omega
    obtain ⟨hf1, hf2⟩ := hf
    have hn : a < 0 := by omega
    rcases hm with hm | hm
    · rw [if_pos hm] at hq
      have hb1 : -109951163 ≤ a.tdiv 1000000000 := by omega
      have hb2 : a.tdiv 1000000000 ≤ 1 := by omega
      have HQ := Lib.hid (show a.tdiv 1000000000 - 1 = fl a by omega)
      clear hq hf1 hf2
      go_enter Try.func74, Try.ntmps74
      go_wp2_with fail
      go_ret
      rw [← HQ.out]
      exact ⟨rfl, rfl⟩
    · rw [hm, if_neg (by omega)] at hq
      have hb1 : -109951163 ≤ a.tdiv 1000000000 := by omega
      have hm0 : 0 ≤ a.tmod 1000000000 := by omega
      have HQ := Lib.hid hq
      clear hq hf1 hf2 hm
      go_enter Try.func74, Try.ntmps74
      go_wp2_with fail
      go_ret
      rw [← HQ.out]
      exact ⟨rfl, rfl⟩
end Go.Proofs.Ytmkmefcafpgphaa
