/- BitioWidths. -/
import Derived.Test.YtgbhmcepokpcaaaAwake
import Derived.Lib.ItoaNum
namespace Go.Proofs.Ytgbhmcepokpcaaa
open Go.RowKit

theorem width_spec (most : Int) (h0 : 0 ≤ most) (h1 : most ≤ 9223372036854775807) :
    1 ≤ width most ∧ width most ≤ 63 ∧ most < 2 ^ width most ∧ (width most = 1 → most ≤ 1) ∧ (width most ≠ 1 → (2 : Int) ^ (width most - 1) ≤ most) := by
  obtain ⟨n, rfl⟩ := Int.eq_ofNat_of_zero_le h0
  have h63 := width_le64 (n : Int) h1
  have hw : width (n : Int) = max 1 (Lib.bitLen n) := by unfold width; rw [if_neg (by omega), Int.toNat_natCast]
  by_cases hz : n = 0
  · subst hz
    rw [show width ((0 : Nat) : Int) = 1 from by decide]
    refine ⟨by omega, by omega, by decide, fun _ => by decide, fun h => absurd rfl h⟩
  · have hb := Lib.bitLenAux_bounds 64 n (by omega) hz
    have e : Lib.bitLenAux 64 n = Lib.bitLen n := rfl
    rw [e] at hb
    obtain ⟨b1, b2, b3⟩ := hb
    have hw2 : width (n : Int) = Lib.bitLen n := by omega
    rw [hw2] at h63 ⊢
    generalize Lib.bitLen n = q at *
    refine ⟨b1, h63, ?_, fun h => ?_, fun h => ?_⟩
    · exact_mod_cast b3
    · subst h; omega
    · exact_mod_cast b2

theorem uErr_fits (k : Nat) (n : Int) (h1 : 1 ≤ k) (h2 : k ≤ 63) (hn : 0 ≤ n) (h : n < 2 ^ k) : uErr k n = 0 := by
  unfold uErr
  rw [if_pos (by omega), Int.toNat_natCast, Int.ediv_eq_zero_of_lt hn h, if_pos rfl]
theorem uErr_wide (k : Nat) (n : Int) (h1 : 1 ≤ k) (h2 : k ≤ 63) (h : (2 : Int) ^ k ≤ n) : uErr k n = 2 := by
  unfold uErr
  rw [if_pos (by omega), Int.toNat_natCast, if_neg]
  have hp : (0 : Int) < 2 ^ k := Int.pow_pos (by decide)
  have : 1 ≤ n / 2 ^ k := by rw [Int.le_ediv_iff_mul_le hp]; omega
  omega

theorem wU_fits (k : Nat) (n : Int) (h1 : 1 ≤ k) (h2 : k ≤ 63) (hn : 0 ≤ n) (h : n < 2 ^ k) : wUnsigned k n ⟨[], 0⟩ = ⟨ibits k n, 0⟩ := by
  simp only [wUnsigned, wField, uErr_fits k n h1 h2 hn h]
  rw [if_neg (by decide), if_neg (by decide), if_neg (by simp; omega)]
  simp
theorem wU_wide (k : Nat) (n : Int) (h1 : 1 ≤ k) (h2 : k ≤ 63) (h : (2 : Int) ^ k ≤ n) : wUnsigned k n ⟨[], 0⟩ = ⟨[], 2⟩ := by
  simp only [wUnsigned, wField, uErr_wide k n h1 h2 h]
  rw [if_neg (by decide), if_pos (by decide)]

set_option maxHeartbeats 2000000 in
theorem widths_any (most : Int) (w : World) (h1 : most ≤ 9223372036854775807) : Calls Try.prog 8 #[.int .i64 most] w fun e w' => e = .returned (.bool true) ∧ Below w.heap.size w w' := by
  by_cases hneg : most < 0
  · have HF := Lib.hid (show width most = 0 by simp [width, hneg])
    go_enter Try.func8, Try.ntmps8
    go_wp2_with fail
    refine (awake_any w).mono ?_
    rintro e w1 ⟨rfl, b1⟩
    have B1 := Lib.hid b1
    clear b1
    go_wp2_with fail
    refine (width_any most _ h1).mono ?_
    rw [HF.out]
    rintro e w' ⟨rfl, hw⟩
    rw [hw]
    clear hw w'
    go_wp2_with fail
    go_ret
    exact ⟨rfl, B1.out⟩
  · obtain ⟨s1, s2, s3, s4, s5⟩ := width_spec most (by omega) h1
    have HU := Lib.hid (wU_fits (width most) most s1 s2 (by omega) s3)
    have HV : width most ≠ 1 → Hid (wUnsigned (width most - 1 : Nat) most ⟨[], 0⟩ = ⟨[], 2⟩) := fun h => Lib.hid (wU_wide _ most (by omega) (by omega) (s5 h))
    have HL := Lib.hid (ibits_len (width most) most)
    have S4 := Lib.hid s4
    have HV' := Lib.hid HV
    have HW := Lib.hid (fun wx => width_any most wx h1)
    clear s3 s4 s5 HV
    generalize width most = n at *
    go_enter Try.func8, Try.ntmps8
    go_wp2_with fail
    refine (awake_any w).mono ?_
    rintro e w1 ⟨rfl, b1⟩
    have B1 := Lib.hid b1
    have hsz1 := b1.size
    clear b1
    go_wp2_with fail
    refine (HW.out w1).mono ?_
    rintro e w' ⟨rfl, hw⟩
    rw [hw]
    clear hw w'
    go_wp2_with fail
    refine (newWriter_any w1).mono ?_
    rintro e w2 ⟨rfl, hw2⟩
    have hs2 : w2.heap.size = w1.heap.size + 1 := by rw [hw2]; simp
    have h2 := newWriter_st w.heap.size w1 (by omega)
    rw [← hw2] at h2
    have b2 : Below w.heap.size w w2 := by rw [hw2]; exact B1.out.alloc (by omega) _
    have H2 := Lib.hid h2
    have B2 := Lib.hid b2
    have HS2 := Lib.hid hs2
    clear hw2 h2 b2 hs2
    go_wp2_with fail
    refine (newWriter_any w2).mono ?_
    rintro e w3 ⟨rfl, hw3⟩
    have hs3 : w3.heap.size = w2.heap.size + 1 := by rw [hw3]; simp
    have h3 := newWriter_st w.heap.size w2 (by have := HS2.out; omega)
    rw [← hw3] at h3
    have b3 : Below w.heap.size w w3 := by rw [hw3]; exact B2.out.alloc (by have := HS2.out; omega) _
    have g3 : WrS w.heap.size w3 w1.heap.size (.slice none 0 0) ⟨[], 0⟩ := by rw [hw3]; exact H2.out.alloc _
    have H3 := Lib.hid h3
    have G3 := Lib.hid g3
    have B3 := Lib.hid b3
    have HS3 := Lib.hid hs3
    clear hw3 h3 b3 g3 hs3
    go_wp2_with fail
    refine (unsigned_any _ _ _ _ n most _ (by omega) h1 G3.out).mono ?_
    rw [HU.out]
    rintro e w4 ⟨rfl, v4, h4, a4⟩
    have g4 : WrS w.heap.size w4 w2.heap.size (.slice none 0 0) ⟨[], 0⟩ := H3.out.kept a4.fr (by
      rintro (hk | hk)
      · have := HS2.out; omega
      · simp [Value.ownBlock] at hk) (by simp [Value.ownBlock])
    have G4 := Lib.hid g4
    have B4 := Lib.hid (B3.out.trans (a4.below G3.out))
    have H4 := Lib.hid h4
    clear g4 a4 h4
    go_wp2_with fail
    refine (bytes_any _ _ _ _ _ H4.out).mono ?_
    rintro e w5 ⟨rfl, k5, hw5⟩
    have H5 := Lib.hid (show WrS w.heap.size w5 w1.heap.size v4 ⟨ibits n most, 0⟩ by subst hw5; exact ⟨H4.out.blk, H4.out.hB, H4.out.own, H4.out.ne, H4.out.nil, H4.out.le⟩)
    have G5 := Lib.hid (show WrS w.heap.size w5 w2.heap.size (.slice none 0 0) ⟨[], 0⟩ by subst hw5; exact ⟨G4.out.blk, G4.out.hB, G4.out.own, G4.out.ne, G4.out.nil, G4.out.le⟩)
    have B5 := Lib.hid (show Below w.heap.size w w5 by subst hw5; exact ⟨B4.out.os, B4.out.tape, B4.out.output, B4.out.size, B4.out.block⟩)
    clear hw5
    generalize wBytes ⟨ibits n most, 0⟩ = s5
    go_wp2_with fail
    refine (bits_any _ _ _ _ _ H5.out).mono ?_
    rintro e w' ⟨rfl, hw⟩
    rw [hw, HL.out]
    clear hw w'
    by_cases hn1 : n = 1
    · have hm1 := S4.out hn1
      have HN := Lib.hid hn1
      have hb1 : ((n : Int) == 1) = true := by rw [hn1]; decide
      clear hn1
      go_wp2_with fail
      go_ret
      exact ⟨rfl, B5.out⟩
    · have HV := HV'.out hn1
      have hb1 : ((n : Int) == 1) = false := by rw [beq_eq_false_iff_ne]; omega
      have hc : ((n - 1 : Nat) : Int) = (n : Int) - 1 := by omega
      rw [hc] at HV
      clear hn1 hc
      go_wp2_with fail
      refine (unsigned_any _ _ _ _ ((n : Int) - 1) most _ (by omega) h1 G5.out).mono ?_
      rw [HV.out]
      rintro e w6 ⟨rfl, v6, h6, a6⟩
      have B6 := Lib.hid (B5.out.trans (a6.below G5.out))
      have H6 := Lib.hid h6
      clear a6 h6
      go_wp2_with fail
      refine (bytes_any _ _ _ _ _ H6.out).mono ?_
      rintro e w7 ⟨rfl, k7, hw7⟩
      have H7 := Lib.hid (show WrS w.heap.size w7 w2.heap.size v6 ⟨[], 2⟩ by subst hw7; exact ⟨H6.out.blk, H6.out.hB, H6.out.own, H6.out.ne, H6.out.nil, H6.out.le⟩)
      have B7 := Lib.hid (show Below w.heap.size w w7 by subst hw7; exact ⟨B6.out.os, B6.out.tape, B6.out.output, B6.out.size, B6.out.block⟩)
      clear hw7
      generalize wBytes ⟨[], 2⟩ = s7
      go_wp2_with fail
      refine (bits_any _ _ _ _ _ H7.out).mono ?_
      rintro e w' ⟨rfl, hw⟩
      rw [hw]
      clear hw w'
      go_wp2_with fail
      go_ret
      exact ⟨rfl, B7.out⟩
end Go.Proofs.Ytgbhmcepokpcaaa
