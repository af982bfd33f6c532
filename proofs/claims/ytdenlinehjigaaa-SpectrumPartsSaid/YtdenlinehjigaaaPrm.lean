/- A transmitter is on in an interval exactly if it is on at some time of it. -/
import Derived.Test.YtdenlinehjigaaaUnf
namespace Go.Proofs.Ytdenlinehjigaaa
open Go.RowKit
set_option linter.unusedVariables false

theorem rem_of {per f x k : Int} (h : x = per * k + f) (f0 : 0 ≤ f) (f1 : f < per) : x % per = f := by
  rw [h, Int.add_comm, Int.add_mul_emod_self_left, Int.emod_eq_of_lt f0 f1]
theorem step_le {per k j : Int} (h0 : 0 ≤ per) (h : k < j) : per * k + per ≤ per * j := by
  have := Int.mul_le_mul_of_nonneg_left (show k + 1 ≤ j by omega) h0
  rwa [Int.mul_add, Int.mul_one] at this
theorem meB_iff {per fr to a b : Int} (ht : Tm per fr to) : meB per fr to a b = true ↔ ∃ x, a ≤ x ∧ x < b ∧ fr ≤ x % per ∧ x % per < to := by
  obtain ⟨p1, p2, f0, ft, tp⟩ := ht
  have q0 : 0 ≤ a % per := Int.emod_nonneg a (by omega)
  have q1 : a % per < per := Int.emod_lt_of_pos a (by omega)
  have qa := Int.mul_ediv_add_emod a per
  unfold meB onFi
  rw [Bool.and_eq_true, decide_eq_true_eq, decide_eq_true_eq]
  constructor
  · rintro ⟨h1, h2⟩
    split at h2
    · have e := rem_of (show a + fr - a % per = per * (a / per) + fr by omega) f0 (by omega)
      exact ⟨a + fr - a % per, by omega, h2, by omega, by omega⟩
    · split at h2
      · have e := rem_of (show a + per - a % per + fr = per * (a / per + 1) + fr by rw [Int.mul_add, Int.mul_one]; omega) f0 (by omega)
        exact ⟨a + per - a % per + fr, by omega, h2, by omega, by omega⟩
      · exact ⟨a, by omega, h2, by omega, by omega⟩
  · rintro ⟨x, x0, x1, x2, x3⟩
    have xq := Int.mul_ediv_add_emod x per
    have y1 : x % per < per := Int.emod_lt_of_pos x (by omega)
    refine ⟨by omega, ?_⟩
    rcases Int.lt_trichotomy (x / per) (a / per) with h | h | h
    · have := step_le (show 0 ≤ per by omega) h
      omega
    · rw [h] at xq
      split
      · omega
      · split <;> omega
    · have := step_le (show 0 ≤ per by omega) h
      split
      · omega
      · split <;> omega
theorem on_parts {s : Src} {f m t : Int} (h0 : 0 ≤ f) (h1 : f ≤ m) (h2 : m ≤ t) (h3 : t < 1099511627776) : onB s f t = (onB s f m || onB s m t) ∧ onB s f f = false := by
  unfold onB
  cases h : srB s
  · simp
  have ht := (srB_t h).1
  rw [ivB_of ⟨h0, by omega, by omega⟩, ivB_of ⟨h0, by omega, by omega⟩, ivB_of ⟨by omega, by omega, by omega⟩, ivB_of ⟨h0, by omega, by omega⟩]
  simp only [Bool.true_and]
  refine ⟨?_, ?_⟩
  · rw [Bool.eq_iff_iff, Bool.or_eq_true, meB_iff ht, meB_iff ht, meB_iff ht]
    constructor
    · rintro ⟨x, x0, x1, x2⟩
      by_cases hx : x < m
      · exact .inl ⟨x, x0, hx, x2⟩
      · exact .inr ⟨x, by omega, x1, x2⟩
    · rintro (⟨x, x0, x1, x2⟩ | ⟨x, x0, x1, x2⟩)
      · exact ⟨x, x0, by omega, x2⟩
      · exact ⟨x, by omega, x1, x2⟩
  · rw [Bool.eq_false_iff]
    intro hx
    obtain ⟨x, x0, x1, _⟩ := (meB_iff ht).1 hx
    omega
theorem on_one {s : Src} {f : Int} (h : srB s = true) (h0 : 0 ≤ f) (h3 : f < 1099511627776) : onB s f (f + 1) = (decide (s.fr ≤ f % s.per) && decide (f % s.per < s.to)) := by
  have ht := (srB_t h).1
  unfold onB
  rw [h, ivB_of ⟨h0, by omega, by omega⟩]
  simp only [Bool.true_and]
  rw [Bool.eq_iff_iff, meB_iff ht, Bool.and_eq_true, decide_eq_true_eq, decide_eq_true_eq]
  constructor
  · rintro ⟨x, x0, x1, x2⟩
    obtain rfl : x = f := by omega
    exact x2
  · exact fun h => ⟨f, by omega, by omega, h⟩
theorem on_turn {s : Src} {f : Int} (h : srB s = true) (h0 : 0 ≤ f) (h3 : f + s.per ≤ 1099511627776) : onB s f (f + s.per) = decide (s.fr < s.to) := by
  have ht := (srB_t h).1
  unfold onB
  obtain ⟨p1, p2, f0, ft, tp⟩ := ht
  rw [h, ivB_of ⟨h0, by omega, by omega⟩]
  rw [Bool.true_and, Bool.true_and]
  unfold meB onFi
  have q0 : 0 ≤ f % s.per := Int.emod_nonneg f (by omega)
  have q1 : f % s.per < s.per := Int.emod_lt_of_pos f (by omega)
  generalize f % s.per = p at *
  by_cases hs : s.fr < s.to
  · rw [decide_eq_true hs, Bool.true_and]
    refine decide_eq_true ?_
    split
    · omega
    · split <;> omega
  · rw [decide_eq_false hs]
    rfl
theorem on_some {s : Src} {f t : Int} (h : ¬ s.fr < s.to) : onB s f t = false := by simp [onB, meB, h]
theorem ck_one (s : Src) : ckS 1 0 [s] [] = srB s := by simp [ckS]
end Go.Proofs.Ytdenlinehjigaaa
