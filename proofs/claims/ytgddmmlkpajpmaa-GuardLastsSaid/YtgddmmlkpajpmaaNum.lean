/- The numbers: growths, lengths, steps, spreads, slots between corrections, as functions of numbers. -/
import Derived.Test.YtgddmmlkpajpmaaFlo
namespace Go.Proofs.Ytgddmmlkpajpmaa
set_option linter.unusedVariables false
open Go.RowKit

def isD (d : Int) : Bool := inR d 0 100000
theorem isD_t {d : Int} : isD d = true ↔ 0 ≤ d ∧ d ≤ 100000 := inR_t
def isK (n : Int) : Bool := inR n 0 4096
theorem isK_t {n : Int} : isK n = true ↔ 0 ≤ n ∧ n ≤ 4096 := inR_t
def isP (a : Int) : Bool := inR a 0 32
theorem isP_t {a : Int} : isP a = true ↔ 0 ≤ a ∧ a ≤ 32 := inR_t
def grF (t d : Int) : Int := 2 * t * d / 1000000000 + 2
def leF (n d : Int) : Int := ((n * 10000 + 1) * 1000000000 + (1000000000 - d) - 1) / (1000000000 - d)
def stF (n d : Int) : Int := 1 + grF (leF n d) d
def grV (t d : Int) : Int := if isT t && isD d then grF t d else 0
def grE (t d : Int) : Int := if isT t && isD d then 0 else 2
def leV (n d : Int) : Int := if isK n && isD d then leF n d else 0
def leE (n d : Int) : Int := if isK n && isD d then 0 else 2
def stV (n d : Int) : Int := if isK n && isD d then stF n d else 0
def spV (a b n d : Int) : Int := if isP a && isP b && isK n && isD d then (a + b) * stF n d else 0
def spE (a b n d : Int) : Int := if isP a && isP b && isK n && isD d then 0 else 2

theorem mul_bd {t d : Int} {D : Int} (ht : 0 ≤ t) (h0 : 0 ≤ d) (h1 : d ≤ D) : 0 ≤ t * d ∧ t * d ≤ t * D :=
  ⟨Int.mul_nonneg ht h0, Int.mul_le_mul_of_nonneg_left h1 ht⟩
theorem le_le {n d r : Int} (hd : d ≤ 100000) : leF n d ≤ r ↔ (n * 10000 + 1) * 1000000000 ≤ r * (1000000000 - d) := by
  have hL : 0 < 1000000000 - d := by omega
  unfold leF
  rw [← Int.lt_add_one_iff, Int.ediv_lt_iff_lt_mul hL, Int.add_mul r 1]
  generalize r * (1000000000 - d) = q
  omega
theorem leF_bd {n d : Int} (n0 : 0 ≤ n) (n1 : n ≤ 4096) (d0 : 0 ≤ d) (d1 : d ≤ 100000) : 1 ≤ leF n d ∧ leF n d ≤ 40970000 := by
  constructor
  · by_cases h : leF n d ≤ 0
    · rw [le_le d1] at h
      omega
    · omega
  · rw [le_le d1]
    omega
theorem leF_mono {n m d D : Int} (h : n ≤ m) (hd : d ≤ D) (n0 : 0 ≤ n) (D1 : D ≤ 100000) : leF n d ≤ leF m D := by
  rw [le_le (by omega)]
  have h1 : leF m D ≤ leF m D := Int.le_refl _
  rw [le_le D1] at h1
  have h2 : 0 ≤ leF m D := by
    by_cases h3 : leF m D ≤ -1
    · rw [le_le D1] at h3
      omega
    · omega
  have h3 : leF m D * (1000000000 - D) ≤ leF m D * (1000000000 - d) := Int.mul_le_mul_of_nonneg_left (by omega) h2
  omega
theorem grF_bd {t d : Int} (t0 : 0 ≤ t) (t1 : t ≤ 1099511627776) (d0 : 0 ≤ d) (d1 : d ≤ 100000) : 2 ≤ grF t d ∧ grF t d ≤ 219902400 := by
  obtain ⟨h1, h2⟩ := mul_bd t0 d0 d1
  unfold grF
  rw [Int.mul_assoc]
  omega
theorem grF_mono {t u d D : Int} (t0 : 0 ≤ t) (h : t ≤ u) (d0 : 0 ≤ d) (hd : d ≤ D) : grF t d ≤ grF u D := by
  have h1 : t * d ≤ u * d := Int.mul_le_mul_of_nonneg_right h d0
  have h2 : u * d ≤ u * D := Int.mul_le_mul_of_nonneg_left hd (by omega)
  unfold grF
  rw [Int.mul_assoc, Int.mul_assoc]
  omega
theorem stF_bd {n d : Int} (n0 : 0 ≤ n) (n1 : n ≤ 4096) (d0 : 0 ≤ d) (d1 : d ≤ 100000) : 3 ≤ stF n d ∧ stF n d ≤ 219902401 := by
  obtain ⟨h1, h2⟩ := leF_bd n0 n1 d0 d1
  obtain ⟨h3, h4⟩ := grF_bd (by omega : 0 ≤ leF n d) (by omega) d0 d1
  unfold stF
  omega
theorem stF_mono {n m d D : Int} (h : n ≤ m) (d0 : 0 ≤ d) (hd : d ≤ D) (n0 : 0 ≤ n) (m1 : m ≤ 4096) (D1 : D ≤ 100000) : stF n d ≤ stF m D := by
  obtain ⟨h1, h2⟩ := leF_bd n0 (by omega) d0 (by omega : d ≤ 100000)
  have := grF_mono (by omega : 0 ≤ leF n d) (leF_mono h hd n0 D1) d0 hd
  unfold stF
  omega
theorem stF_0 {d : Int} (d0 : 0 ≤ d) (d1 : d ≤ 100000) : stF 0 d = 3 := by
  have h : leF 0 d ≤ 2 := by rw [le_le d1]; omega
  obtain ⟨h1, -⟩ := leF_bd (n := 0) (by omega) (by omega) d0 d1
  have h2 : leF 0 d = 1 ∨ leF 0 d = 2 := by omega
  unfold stF grF
  rcases h2 with e | e <;> rw [e] <;> omega
theorem sp_mono {s S n m d D : Int} (s0 : 0 ≤ s) (hs : s ≤ S) (h : n ≤ m) (d0 : 0 ≤ d) (hd : d ≤ D) (n0 : 0 ≤ n) (m1 : m ≤ 4096) (D1 : D ≤ 100000) : s * stF n d ≤ S * stF m D := by
  have h1 := stF_mono h d0 hd n0 m1 D1
  have h2 := (stF_bd n0 (by omega) d0 (by omega : d ≤ 100000)).1
  exact Int.le_trans (Int.mul_le_mul_of_nonneg_left h1 s0) (Int.mul_le_mul_of_nonneg_right hs (by omega))
theorem sp_bd {s n d : Int} (s0 : 0 ≤ s) (s1 : s ≤ 64) (n0 : 0 ≤ n) (n1 : n ≤ 4096) (d0 : 0 ≤ d) (d1 : d ≤ 100000) : 0 ≤ s * stF n d ∧ s * stF n d ≤ 14073753664 := by
  obtain ⟨h1, h2⟩ := stF_bd n0 n1 d0 d1
  have h3 : s * stF n d ≤ 64 * stF n d := Int.mul_le_mul_of_nonneg_right s1 (by omega)
  exact ⟨Int.mul_nonneg s0 (by omega), by omega⟩
/-- The slots between corrections for a sum of depths. -/
structure Sl (s d k : Int) : Prop where
  lo : 0 ≤ k
  hi : k ≤ 4096
  fits : s * stF k d ≤ 1100
  after : ∀ j, k < j → j ≤ 4096 → 1100 < s * stF j d
theorem Sl.unique {s d k j : Int} (h : Sl s d k) (i : Sl s d j) : k = j := by
  by_cases h1 : k < j
  · have := h.after j h1 i.hi
    have := i.fits
    omega
  · by_cases h2 : j < k
    · have := i.after k h2 h.hi
      have := h.fits
      omega
    · omega
noncomputable def slF (s d : Int) : Int := Classical.epsilon (Sl s d)
theorem Sl.eq {s d k : Int} (h : Sl s d k) : slF s d = k := (Classical.epsilon_spec (p := Sl s d) ⟨k, h⟩).unique h
noncomputable def slV (a b d : Int) : Int := if isP a && isP b && isD d then slF (a + b) d else 0
def slE (a b d : Int) : Int := if isP a && isP b && isD d then 0 else 2
theorem sl_step {s d : Int} (s0 : 0 ≤ s) (s1 : s ≤ 64) (d0 : 0 ≤ d) (d1 : d ≤ 100000) (n : Nat) : n ≤ 4096 → s * stF n d ≤ 1100 ∨ ∃ k, Sl s d k := by
  induction n with
  | zero =>
    intro _
    left
    rw [show ((0 : Nat) : Int) = 0 from rfl, stF_0 d0 d1]
    omega
  | succ n ih =>
    intro hn
    rcases ih (by omega) with h | h
    · by_cases hx : s * stF ((n + 1 : Nat) : Int) d ≤ 1100
      · exact .inl hx
      · refine .inr ⟨n, by omega, by omega, h, fun j h1 h2 => ?_⟩
        have := sp_mono (S := s) s0 (Int.le_refl _) (show ((n + 1 : Nat) : Int) ≤ j by omega) d0 (Int.le_refl d) (by omega) h2 d1
        omega
    · exact .inr h
theorem sl_ex {s d : Int} (s0 : 0 ≤ s) (s1 : s ≤ 64) (d0 : 0 ≤ d) (d1 : d ≤ 100000) : Sl s d (slF s d) := by
  have : ∃ k, Sl s d k := by
    rcases sl_step s0 s1 d0 d1 4096 (Nat.le_refl _) with h | h
    · exact ⟨4096, by omega, by omega, h, fun j h1 h2 => by omega⟩
    · exact h
  obtain ⟨k, hk⟩ := this
  rw [hk.eq]
  exact hk
theorem sl_mono {s S d D : Int} (s0 : 0 ≤ s) (hs : s ≤ S) (S1 : S ≤ 64) (d0 : 0 ≤ d) (hd : d ≤ D) (D1 : D ≤ 100000) : slF S D ≤ slF s d := by
  have h1 := sl_ex s0 (by omega) d0 (by omega : d ≤ 100000)
  have h2 := sl_ex (s := S) (by omega) S1 (by omega : 0 ≤ D) D1
  by_cases h : slF S D ≤ slF s d
  · exact h
  · have h3 := h1.after _ (by omega) h2.hi
    have h4 := sp_mono s0 hs (Int.le_refl (slF S D)) d0 hd h2.lo h2.hi D1
    have := h2.fits
    omega
end Go.Proofs.Ytgddmmlkpajpmaa
