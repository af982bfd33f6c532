/- The law of monotony, whole. -/
import Derived.Test.YtkbdjpdpcbeciaaDoorLawF
namespace Go.Proofs.YtkbdjpdpcbeciaaDoor
open Go.RowKit

theorem mono_law (s t o more wo : Int) (hwo : 0 ≤ wo ∧ wo ≤ 255) (ao : Option Addr) (len cap : Nat) (zs : List Int) (w : World) (hd : Dec w) (hz : IntsIn w ao len zs) :
    Calls Tryd.prog 7 #[.agg #[.int .i64 s, .int .i64 t, .int .i64 o, .slice ao len cap], .int .i64 more, .int .u8 wo] w fun e w' => e = .returned (.bool true) ∧ Below w.heap.size w w' := by
  by_cases hl : 64 < len
  · exact mono_big s t o more wo ao len cap w hd hl
  have hl := Nat.not_lt.1 hl
  have hzl := hz.1
  by_cases he : rcE s t o zs = 0
  case neg => exact mono_err s t o more wo ao len cap zs w hd hl hz (rcE s t o zs) he (fun ao' cap' w h => by have := received_any s t o ao' len cap' zs w h; rwa [rc_err s t o zs he] at this)
  obtain ⟨hP, hR, _, hl', ha, hb⟩ := rc_ok s t o zs he
  obtain ⟨s0, s1⟩ := isP_t.1 hP
  have s1' : s ≤ 68719476736 := s1
  have t0 : 0 ≤ t := by have := (isR_t.1 hR).1.1; omega
  have R1 : ∀ (ao' : Option Addr) (cap' : Nat) (w : World), IntsIn w ao' len zs → Calls Tryd.prog 21 #[.int .i64 s, .int .i64 t, .int .i64 o, .slice ao' len cap'] w fun e w' => e = .returned (.tuple #[.bool (decide (t * (o + sumZ zs) ≤ 1000 * s)), .int .i64 0]) ∧ w' = w := fun ao' cap' w h => by
    have := received_any s t o ao' len cap' zs w h
    rwa [he, hb] at this
  have R2 : 0 ≤ more → more ≤ 68719476736 - s → ∀ (ao' : Option Addr) (cap' : Nat) (w : World), IntsIn w ao' len zs → Calls Tryd.prog 21 #[.int .i64 (s + more), .int .i64 t, .int .i64 o, .slice ao' len cap'] w fun e w' => e = .returned (.tuple #[.bool (decide (t * (o + sumZ zs) ≤ 1000 * (s + more))), .int .i64 0]) ∧ w' = w := fun m0 m1 ao' cap' w h => by
    have := received_any (s + more) t o ao' len cap' zs w h
    obtain ⟨h1, h2⟩ := rc_of (s + more) t o zs (isP_t.2 ⟨by omega, by show s + more ≤ 68719476736; omega⟩) hR hl' ha
    rwa [h1, h2] at this
  have R3 : ∀ k, k < len → ∀ (ao' : Option Addr) (cap' : Nat) (w : World), IntsIn w ao' (len - 1) (zs.take k ++ zs.drop (k + 1)) → Calls Tryd.prog 21 #[.int .i64 s, .int .i64 t, .int .i64 o, .slice ao' (len - 1) cap'] w fun e w' => e = .returned (.tuple #[.bool (decide (t * (o + sumZ (zs.take k ++ zs.drop (k + 1))) ≤ 1000 * s)), .int .i64 0]) ∧ w' = w := fun k hk ao' cap' w h => by
    have := received_any s t o ao' (len - 1) cap' (zs.take k ++ zs.drop (k + 1)) w h
    obtain ⟨h1, h2⟩ := rc_of s t o (zs.take k ++ zs.drop (k + 1)) hP hR (by simp; omega) (without_sum zs k (by omega) ha).2.1
    rwa [h1, h2] at this
  have hk : 0 < len → ∃ k : Nat, k < len ∧ wo.tmod (len : Int) = (k : Int) := fun h => by
    have h1 := Int.tmod_nonneg (len : Int) hwo.1
    have h2 := Int.tmod_lt_of_pos wo (show (0 : Int) < (len : Int) by omega)
    exact ⟨(wo.tmod (len : Int)).toNat, by omega, by omega⟩
  have hless : ∀ k, k < len → t * (o + sumZ (zs.take k ++ zs.drop (k + 1))) ≤ t * (o + sumZ zs) := fun k hk =>
    Int.mul_le_mul_of_nonneg_left (by have := (without_sum zs k (by omega) ha).1; omega) t0
  generalize sumZ zs = S at *
  by_cases hin : 0 ≤ more ∧ more ≤ 68719476736 - s
  · obtain ⟨m0, m1⟩ := hin
    have R2 := R2 m0 m1
    rcases Nat.eq_zero_or_pos len with h0 | h0
    · by_cases c1 : t * (o + S) ≤ 1000 * s
      · rw [decide_eq_true c1] at R1
        rw [decide_eq_true (show t * (o + S) ≤ 1000 * (s + more) by omega)] at R2
        exact mono_ittz s t o more wo ao len cap zs w hd hl hz h0 s0 s1' m0 m1 R1 R2
      · rw [decide_eq_false c1] at R1
        by_cases c2 : t * (o + S) ≤ 1000 * (s + more)
        · rw [decide_eq_true c2] at R2
          exact mono_iftz s t o more wo ao len cap zs w hd hl hz h0 s0 s1' m0 m1 R1 R2
        · rw [decide_eq_false c2] at R2
          exact mono_iffz s t o more wo ao len cap zs w hd hl hz h0 s0 s1' m0 m1 R1 R2
    · obtain ⟨k, hk1, hk2⟩ := hk h0
      have R3 := R3 k hk1
      have hle := hless k hk1
      by_cases c1 : t * (o + S) ≤ 1000 * s
      · rw [decide_eq_true c1] at R1
        rw [decide_eq_true (show t * (o + S) ≤ 1000 * (s + more) by omega)] at R2
        rw [decide_eq_true (Int.le_trans hle c1)] at R3
        exact mono_ittt s t o more wo ao len cap zs w hd hl hz h0 k hk1 hk2 hwo s0 s1' m0 m1 R1 R2 R3
      · rw [decide_eq_false c1] at R1
        by_cases c3 : t * (o + sumZ (zs.take k ++ zs.drop (k + 1))) ≤ 1000 * s
        · rw [decide_eq_true c3] at R3
          by_cases c2 : t * (o + S) ≤ 1000 * (s + more)
          · rw [decide_eq_true c2] at R2
            exact mono_iftt s t o more wo ao len cap zs w hd hl hz h0 k hk1 hk2 hwo s0 s1' m0 m1 R1 R2 R3
          · rw [decide_eq_false c2] at R2
            exact mono_ifft s t o more wo ao len cap zs w hd hl hz h0 k hk1 hk2 hwo s0 s1' m0 m1 R1 R2 R3
        · rw [decide_eq_false c3] at R3
          by_cases c2 : t * (o + S) ≤ 1000 * (s + more)
          · rw [decide_eq_true c2] at R2
            exact mono_iftf s t o more wo ao len cap zs w hd hl hz h0 k hk1 hk2 hwo s0 s1' m0 m1 R1 R2 R3
          · rw [decide_eq_false c2] at R2
            exact mono_ifff s t o more wo ao len cap zs w hd hl hz h0 k hk1 hk2 hwo s0 s1' m0 m1 R1 R2 R3
  · have m0 : more < 0 ∨ 68719476736 - s < more := by omega
    rcases Nat.eq_zero_or_pos len with h0 | h0
    · by_cases c1 : t * (o + S) ≤ 1000 * s
      · rw [decide_eq_true c1] at R1
        exact mono_xttz s t o more wo ao len cap zs w hd hl hz h0 s0 s1' m0 R1 R1
      · rw [decide_eq_false c1] at R1
        exact mono_xffz s t o more wo ao len cap zs w hd hl hz h0 s0 s1' m0 R1 R1
    · obtain ⟨k, hk1, hk2⟩ := hk h0
      have R3 := R3 k hk1
      have hle := hless k hk1
      by_cases c1 : t * (o + S) ≤ 1000 * s
      · rw [decide_eq_true c1] at R1
        rw [decide_eq_true (Int.le_trans hle c1)] at R3
        exact mono_xttt s t o more wo ao len cap zs w hd hl hz h0 k hk1 hk2 hwo s0 s1' m0 R1 R1 R3
      · rw [decide_eq_false c1] at R1
        by_cases c3 : t * (o + sumZ (zs.take k ++ zs.drop (k + 1))) ≤ 1000 * s
        · rw [decide_eq_true c3] at R3
          exact mono_xfft s t o more wo ao len cap zs w hd hl hz h0 k hk1 hk2 hwo s0 s1' m0 R1 R1 R3
        · rw [decide_eq_false c3] at R3
          exact mono_xfff s t o more wo ao len cap zs w hd hl hz h0 k hk1 hk2 hwo s0 s1' m0 R1 R1 R3
end Go.Proofs.YtkbdjpdpcbeciaaDoor
