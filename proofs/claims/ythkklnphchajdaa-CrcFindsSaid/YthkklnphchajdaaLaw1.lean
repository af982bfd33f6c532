/- The laws of polynomials and of Locate. -/
import Derived.Test.YthkklnphchajdaaAwake
namespace Go.Proofs.Ythkklnphchajdaa
open Go.RowKit

theorem Fr.belowNone {B : Nat} {w w' : World} (h : Fr no w w') (hB : B ≤ w.heap.size) : Below B w w' := h.below (fun _ h => h.elim) hB
theorem word_of (a : Int) (h0 : 0 ≤ a) (h1 : a ≤ 65535) : ∃ x : Wd, a = (x.toNat : Int) := ⟨BitVec.ofNat 16 a.toNat, by rw [BitVec.toNat_ofNat]; omega⟩

set_option maxHeartbeats 2000000 in
theorem poly_law (a b : Wd) (n : Int) (w : World) (h1 : -9223372036854775808 ≤ n) (h2 : n ≤ 9223372036854775807) :
    Calls Try.prog 4 #[.int .u16 (a.toNat : Int), .int .u16 (b.toNat : Int), .int .i64 n] w fun e w' => e = .returned (.bool true) ∧ Below w.heap.size w w' := by
  go_enter Try.func4, Try.ntmps4
  go_wp2_with fail
  refine (awake_any _).mono ?_
  rintro e w1 ⟨rfl, f1⟩
  have HF1 := Lib.hid f1
  clear f1
  go_wp2_with fail
  refine (mul_any _ _ _).mono ?_
  rintro e w' ⟨rfl, rfl⟩
  go_wp2_with fail
  refine (mulR_any _ _ _).mono ?_
  rintro e w' ⟨rfl, rfl⟩
  go_wp2_with fail
  refine (power_any _ _ h1 h2).mono ?_
  rintro e w' ⟨rfl, rfl⟩
  go_wp2_with fail
  refine (powerR_any _ _ h1 h2).mono ?_
  rintro e w' ⟨rfl, rfl⟩
  go_wp2_with fail
  go_ret
  exact ⟨rfl, HF1.out.belowNone (Nat.le_refl _)⟩

theorem powZ_nat (k : Nat) : powZ 1 (k : Int) = pw k := by rw [powZ, if_neg (by omega), Nat.one_mul]; rfl
theorem loc_at (k : Nat) (hk : k < 32767) (e : Ending) (h : LocRes (pw k) ((k : Int) + 1) e) : e = .returned (.tuple #[.int .i64 (k : Nat), .bool true]) := by
  obtain ⟨i, ok, he, hl⟩ := h
  cases ok
  · exact absurd rfl ((hl.no rfl).2 k (by omega) hk)
  · obtain ⟨h0, h1, h2, _⟩ := hl.yes rfl
    rw [pw_inj h2 hk h0] at he
    exact he
theorem loc_early (k : Nat) (hk : k < 32767) (e : Ending) (h : LocRes (pw k) (k : Int) e) : e = .returned (.tuple #[.int .i64 0, .bool false]) := by
  obtain ⟨i, ok, he, hl⟩ := h
  cases ok
  · rw [(hl.no rfl).1] at he
    exact he
  · obtain ⟨h0, h1, h2, _⟩ := hl.yes rfl
    have := pw_inj h2 hk h0
    omega

set_option maxHeartbeats 4000000 in
/-- Behind the first call of Locate. -/
theorem locates_law (s : Wd) (b : Int) (n : Nat) (w : World) (h1 : -9223372036854775808 ≤ b) (h2 : b ≤ 9223372036854775807) (hn : n ≤ 65535) :
    Calls Try.prog 10 #[.int .u16 (s.toNat : Int), .int .i64 b, .int .u16 (n : Int)] w fun e w' => e = .returned (.bool true) ∧ Below w.heap.size w w' := by
  obtain ⟨k, hk⟩ : ∃ k : Nat, k = n % 32767 := ⟨_, rfl⟩
  have hk1 : k < 32767 := by omega
  have hkn : (n : Int) % 32767 = (k : Int) := by omega
  have HA := Lib.hid (loc_at k hk1)
  have HE := Lib.hid (loc_early k hk1)
  have HK := Lib.hid (powZ_nat k)
  have HN := Lib.hid (powZ_nat n)
  have HM := Lib.hid (show pw n = pw k by rw [hk, pw_mod])
  have HKN := Lib.hid (show k ≤ n by rw [hk]; exact Nat.mod_le _ _)
  have hkI : (k : Int) ≤ 32766 := by omega
  have hnI : (n : Int) ≤ 65535 := by omega
  clear hk hk1 hn
  go_enter Try.func10, Try.ntmps10
  go_wp2_with fail
  refine (awake_any _).mono ?_
  rintro e w1 ⟨rfl, f1⟩
  have HF1 := Lib.hid f1
  clear f1
  go_wp2_with fail
  refine (locate_any s b _ h1 h2).mono ?_
  rintro e w' ⟨⟨i, ok, rfl, hl⟩, rfl⟩
  have HL := Lib.hid hl
  clear hl
  cases ok
  · obtain ⟨hi0, hi1⟩ := HL.out.no rfl
    subst hi0
    by_cases hnb : (n : Int) < b
    · have hne := word_ne (show pw n ≠ s by rw [HM.out]; have := HKN.out; exact hi1 k (by omega) (by omega))
      have HI := Lib.hid HN.out
      clear hi1
      go_wp2_with fail
      refine (power_any _ _ (by omega) (by omega)).mono ?_
      rintro e w' ⟨rfl, rfl⟩
      rw [HI.out]
      go_wp2_with fail
      refine (power_any _ _ (by omega) (by omega)).mono ?_
      rintro e w' ⟨rfl, rfl⟩
      rw [HK.out]
      go_wp2_with fail
      refine (locate_any _ _ _ (by omega) (by omega)).mono ?_
      rintro e w' ⟨hl, rfl⟩
      rw [HA.out e hl]
      clear hl
      go_wp2_with fail
      refine (power_any _ _ (by omega) (by omega)).mono ?_
      rintro e w' ⟨rfl, rfl⟩
      rw [HK.out]
      go_wp2_with fail
      refine (locate_any _ _ _ (by omega) (by omega)).mono ?_
      rintro e w' ⟨hl, rfl⟩
      rw [HE.out e hl]
      clear hl
      go_wp2_with fail
      go_ret
      exact ⟨rfl, HF1.out.belowNone (Nat.le_refl _)⟩
    · clear hi1
      go_wp2_with fail
      refine (power_any _ _ (by omega) (by omega)).mono ?_
      rintro e w' ⟨rfl, rfl⟩
      rw [HK.out]
      go_wp2_with fail
      refine (locate_any _ _ _ (by omega) (by omega)).mono ?_
      rintro e w' ⟨hl, rfl⟩
      rw [HA.out e hl]
      clear hl
      go_wp2_with fail
      refine (power_any _ _ (by omega) (by omega)).mono ?_
      rintro e w' ⟨rfl, rfl⟩
      rw [HK.out]
      go_wp2_with fail
      refine (locate_any _ _ _ (by omega) (by omega)).mono ?_
      rintro e w' ⟨hl, rfl⟩
      rw [HE.out e hl]
      clear hl
      go_wp2_with fail
      go_ret
      exact ⟨rfl, HF1.out.belowNone (Nat.le_refl _)⟩
  · obtain ⟨hi0, hi1, hi2, hi9⟩ := HL.out.yes rfl
    clear hi9
    have HI := Lib.hid ((powZ_nat i).trans hi0)
    have hi3 : (i : Int) < 32767 := by omega
    have hi4 : (0 : Int) ≤ i := by omega
    clear hi0 hi2 HL
    generalize (i : Int) = z at *
    go_wp2_with fail
    refine (power_any _ _ (by omega) (by omega)).mono ?_
    rintro e w' ⟨rfl, rfl⟩
    rw [HI.out]
    go_wp2_with fail
    refine (power_any _ _ (by omega) (by omega)).mono ?_
    rintro e w' ⟨rfl, rfl⟩
    rw [HK.out]
    go_wp2_with fail
    refine (locate_any _ _ _ (by omega) (by omega)).mono ?_
    rintro e w' ⟨hl, rfl⟩
    rw [HA.out e hl]
    clear hl
    go_wp2_with fail
    refine (power_any _ _ (by omega) (by omega)).mono ?_
    rintro e w' ⟨rfl, rfl⟩
    rw [HK.out]
    go_wp2_with fail
    refine (locate_any _ _ _ (by omega) (by omega)).mono ?_
    rintro e w' ⟨hl, rfl⟩
    rw [HE.out e hl]
    clear hl
    go_wp2_with fail
    go_ret
    exact ⟨rfl, HF1.out.belowNone (Nat.le_refl _)⟩
end Go.Proofs.Ythkklnphchajdaa
