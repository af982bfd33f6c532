/- BitioSigned. -/
import Derived.Test.YtgbhmcepokpcaaaMath
import Derived.Test.YtgbhmcepokpcaaaWidths
namespace Go.Proofs.Ytgbhmcepokpcaaa
open Go.RowKit

theorem wS_fits (k : Nat) (n : Int) (h1 : 2 ≤ k) (h2 : k ≤ 63) (hl : -(2 ^ (k - 1)) ≤ n) (hh : n < 2 ^ (k - 1)) : wSigned k n ⟨[], 0⟩ = ⟨ibits k n, 0⟩ := by
  simp only [wSigned, wField, sErr_fits k n h1 h2 hl hh]
  rw [if_neg (by decide), if_neg (by decide), if_neg (by simp; omega)]
  simp
theorem wS_wide (k : Nat) (n : Int) (h1 : 2 ≤ k) (h2 : k ≤ 63) (h : n < -(2 ^ (k - 1)) ∨ 2 ^ (k - 1) ≤ n) : wSigned k n ⟨[], 0⟩ = ⟨[], 2⟩ := by
  simp only [wSigned, wField, sErr_wide k n h1 h2 h]
  rw [if_neg (by decide), if_pos (by decide)]
theorem wBytes_err (bs : List Bool) (e : Int) (h : e ≠ 0) : wBytes ⟨bs, e⟩ = ByteArray.empty := by simp [wBytes, h]

theorem rS_back (k : Nat) (n : Int) (h1 : 2 ≤ k) (h2 : k ≤ 62) (hl : -(2 ^ (k - 1)) ≤ n) (hh : n < 2 ^ (k - 1)) : (rSigned k (rNew (wBytes ⟨ibits k n, 0⟩))).1 = n := by
  have hp := packs_packB (ibits k n)
  have hlen := hp.len
  rw [ibits_len] at hlen
  have hw : wBytes ⟨ibits k n, 0⟩ = strOf (packB (ibits k n)) := by simp [wBytes]
  have hs : (strOf (packB (ibits k n))).size ≤ 8 := by rw [strOf_size]; omega
  have hn : rNew (strOf (packB (ibits k n))) = ⟨strOf (packB (ibits k n)), 0, 0⟩ := by unfold rNew; rw [if_neg (by omega)]
  have hb : (rBegin (between 2 63 (k : Int)) k ⟨strOf (packB (ibits k n)), 0, 0⟩).1 = true := by
    have : between 2 63 (k : Int) = true := by simp [between]; omega
    unfold rBegin
    rw [if_neg (by simp), if_neg (by simp [this]), if_neg]
    simp only [strOf_size]
    omega
  rw [hw, hn]
  unfold rSigned
  rw [if_pos hb]
  simp only [Int.toNat_natCast]
  rw [rbits_str hp 0 k (by rw [ibits_len]; omega)]
  rw [List.drop_zero, List.take_of_length_le (by rw [ibits_len]; exact Nat.le_refl _)]
  exact sval_emod k n (by omega) hl hh _ (bval_ibits k n)

set_option maxHeartbeats 2000000 in
theorem signed_law (m : Nat) (n : Int) (w : World) (hm : m ≤ 255) (n1 : -9223372036854775808 ≤ n) (n2 : n ≤ 9223372036854775807) :
    Calls Try.prog 9 #[.int .u8 m, .int .i64 n] w fun e w' => e = .returned (.bool true) ∧ Below w.heap.size w w' := by
  obtain ⟨k, hk⟩ : ∃ k : Nat, 2 + (m : Int) % 61 = k := ⟨2 + m % 61, by omega⟩
  have k1 : 2 ≤ k := by omega
  have k2 : k ≤ 62 := by omega
  obtain ⟨P, hP⟩ : ∃ P : Int, (2 : Int) ^ (k - 1) = P := ⟨_, rfl⟩
  obtain ⟨Q, hQ⟩ : ∃ Q : Int, (2 : Int) ^ k = Q := ⟨_, rfl⟩
  have p1 : 1 ≤ P := by rw [← hP]; exact Int.pow_pos (by decide)
  have p2 : P ≤ 2305843009213693952 := by
    have h61 : 2 ^ (k - 1) ≤ 2305843009213693952 := Nat.pow_le_pow_right (n := 2) (by decide) (show k - 1 ≤ 61 by omega)
    have e : (2 : Int) ^ (k - 1) = ((2 ^ (k - 1) : Nat) : Int) := by rw [Int.natCast_pow]; rfl
    rw [← hP, e]
    generalize 2 ^ (k - 1) = q at h61
    omega
  have q12 : Q = 2 * P := by
    rw [← hP, ← hQ]
    obtain ⟨j, rfl⟩ : ∃ j, k = j + 1 := ⟨k - 1, by omega⟩
    rw [Int.pow_succ, Int.mul_comm]; rfl
  have q1 : Q ≤ 2 * P := by omega
  have q2 : 2 * P ≤ Q := by omega
  clear q12
  have HP := Lib.hid hP
  have HQ := Lib.hid hQ
  go_enter Try.func9, Try.ntmps9
  go_wp2_with fail
  refine (awake_any w).mono ?_
  rintro e w1 ⟨rfl, b1⟩
  have B1 := Lib.hid b1
  have hsz1 := b1.size
  clear b1
  go_wp2_with fail
  refine (newWriter_any w1).mono ?_
  rintro e w2 ⟨rfl, hw2⟩
  have hs2 : w2.heap.size = w1.heap.size + 1 := by rw [hw2]; simp
  have h2 := newWriter_st w.heap.size w1 (by omega)
  rw [← hw2] at h2
  have b2 : Below w.heap.size w w2 := by rw [hw2]; exact B1.out.alloc (by omega) _
  have H2 := Lib.hid h2
  have B2 := Lib.hid b2
  have HS2 := Lib.hid hs2
  clear hw2 h2 b2 hs2
  go_wp2_with fail
  refine (newWriter_any w2).mono ?_
  rintro e w3 ⟨rfl, hw3⟩
  have h3 := newWriter_st w.heap.size w2 (by have := HS2.out; omega)
  rw [← hw3] at h3
  have b3 : Below w.heap.size w w3 := by rw [hw3]; exact B2.out.alloc (by have := HS2.out; omega) _
  have g3 : WrS w.heap.size w3 w1.heap.size (.slice none 0 0) ⟨[], 0⟩ := by rw [hw3]; exact H2.out.alloc _
  have H3 := Lib.hid h3
  have G3 := Lib.hid g3
  have B3 := Lib.hid b3
  clear hw3 h3 b3 g3
  go_wp2_with fail
  refine (signed_any _ _ _ _ k n _ n1 n2 G3.out).mono ?_
  rintro e w4 ⟨rfl, v4, h4, a4⟩
  have g4 : WrS w.heap.size w4 w2.heap.size (.slice none 0 0) ⟨[], 0⟩ := H3.out.kept a4.fr (by
    rintro (hk | hk)
    · have := HS2.out; omega
    · simp [Value.ownBlock] at hk) (by simp [Value.ownBlock])
  have G4 := Lib.hid g4
  have B4 := Lib.hid (B3.out.trans (a4.below G3.out))
  by_cases hf1 : -P ≤ n
  · by_cases hf2 : n < P
    · have hfl : -((2 : Int) ^ (k - 1)) ≤ n := by rw [hP]; exact hf1
      have hfh : n < (2 : Int) ^ (k - 1) := by rw [hP]; exact hf2
      rw [wS_fits k n k1 (by omega) hfl hfh] at h4
      have H4 := Lib.hid h4
      have HB := Lib.hid (rS_back k n k1 k2 hfl hfh)
      clear g4 a4 h4 hfl hfh
      go_wp2_with fail
      refine (bytes_any _ _ _ _ _ H4.out).mono ?_
      rintro e w5 ⟨rfl, k5, hw5⟩
      have G5 := Lib.hid (show WrS w.heap.size w5 w2.heap.size (.slice none 0 0) ⟨[], 0⟩ by subst hw5; exact ⟨G4.out.blk, G4.out.hB, G4.out.own, G4.out.ne, G4.out.nil, G4.out.le⟩)
      have B5 := Lib.hid (show Below w.heap.size w w5 by subst hw5; exact ⟨B4.out.os, B4.out.tape, B4.out.output, B4.out.size, B4.out.block⟩)
      have hsz5 : (wBytes ⟨ibits k n, 0⟩).size ≤ 9223372036854775807 := by
        have hl := (packs_packB (ibits k n)).len
        rw [ibits_len] at hl
        simp only [wBytes, ne_eq, not_true, if_false, strOf_size, hl]; omega
      have HZ5 := Lib.hid hsz5
      clear hw5 hsz5
      obtain ⟨u, hu⟩ : ∃ u : Int, u = if n < 0 then n + Q else n := ⟨_, rfl⟩
      have hu1 : 0 ≤ u := by rw [hu]; split <;> omega
      have hu2 : u < Q := by rw [hu]; split <;> omega
      have hue : ibits k u = ibits k n := by
        refine ibits_congr k u n ?_
        rw [hu, hQ]
        split
        · rw [Int.add_emod_right]
        · rfl
      have hwu := wU_fits k u (by omega) (by omega) hu1 (by rw [hQ]; exact hu2)
      rw [hue] at hwu
      have HWU := Lib.hid hwu
      clear hue hwu hu1
      have tail : ∀ (u0 : Int), u0 = u → -9223372036854775808 ≤ u0 → u0 ≤ 9223372036854775807 → True := fun _ _ _ _ => trivial
      clear tail
      generalize hsg : wBytes ⟨ibits k n, 0⟩ = s5 at HB HZ5 ⊢
      have HSG := Lib.hid hsg
      clear hsg
      by_cases hneg : n < 0
      · rw [if_pos hneg] at hu
        subst hu
        go_wp2_with fail
        refine (unsigned_any _ _ _ _ k (n + Q) _ (by omega) (by omega) G5.out).mono ?_
        rw [HWU.out]
        rintro e w6 ⟨rfl, v6, h6, a6⟩
        have B6 := Lib.hid (B5.out.trans (a6.below G5.out))
        have H6 := Lib.hid h6
        clear a6 h6
        go_wp2_with fail
        refine (bytes_any _ _ _ _ _ H6.out).mono ?_
        rw [HSG.out]
        rintro e w7 ⟨rfl, k7, hw7⟩
        have B7 := Lib.hid (show Below w.heap.size w w7 by subst hw7; exact ⟨B6.out.os, B6.out.tape, B6.out.output, B6.out.size, B6.out.block⟩)
        clear hw7
        go_wp2_with fail
        refine (newReader_any s5 _ HZ5.out).mono ?_
        rintro e w8 ⟨rfl, h8, a8⟩
        have H8 := Lib.hid h8
        have B8 := Lib.hid (B7.out.trans (a8.belowNone B7.out.size))
        have HS7 := Lib.hid B7.out.size
        clear h8 a8
        go_wp2_with fail
        refine (rSigned_any _ _ k _ H8.out).mono ?_
        rw [HB.out]
        rintro e w9 ⟨rfl, h9, a9⟩
        have B9 := Lib.hid (B8.out.trans (a9.belowOnly B8.out.size HS7.out))
        clear h9 a9
        go_wp2_with fail
        go_ret
        exact ⟨rfl, B9.out⟩
      · rw [if_neg hneg] at hu
        subst hu
        go_wp2_with fail
        refine (unsigned_any _ _ _ _ k u _ (by omega) (by omega) G5.out).mono ?_
        rw [HWU.out]
        rintro e w6 ⟨rfl, v6, h6, a6⟩
        have B6 := Lib.hid (B5.out.trans (a6.below G5.out))
        have H6 := Lib.hid h6
        clear a6 h6
        go_wp2_with fail
        refine (bytes_any _ _ _ _ _ H6.out).mono ?_
        rw [HSG.out]
        rintro e w7 ⟨rfl, k7, hw7⟩
        have B7 := Lib.hid (show Below w.heap.size w w7 by subst hw7; exact ⟨B6.out.os, B6.out.tape, B6.out.output, B6.out.size, B6.out.block⟩)
        clear hw7
        go_wp2_with fail
        refine (newReader_any s5 _ HZ5.out).mono ?_
        rintro e w8 ⟨rfl, h8, a8⟩
        have H8 := Lib.hid h8
        have B8 := Lib.hid (B7.out.trans (a8.belowNone B7.out.size))
        have HS7 := Lib.hid B7.out.size
        clear h8 a8
        go_wp2_with fail
        refine (rSigned_any _ _ k _ H8.out).mono ?_
        rw [HB.out]
        rintro e w9 ⟨rfl, h9, a9⟩
        have B9 := Lib.hid (B8.out.trans (a9.belowOnly B8.out.size HS7.out))
        clear h9 a9
        go_wp2_with fail
        go_ret
        exact ⟨rfl, B9.out⟩
    · rw [wS_wide k n k1 (by omega) (.inr (by rw [hP]; omega))] at h4
      have H4 := Lib.hid h4
      clear g4 a4 h4
      go_wp2_with fail
      refine (bytes_any _ _ _ _ _ H4.out).mono ?_
      rw [wBytes_err [] 2 (by decide)]
      rintro e w5 ⟨rfl, k5, hw5⟩
      have B5 := Lib.hid (show Below w.heap.size w w5 by subst hw5; exact ⟨B4.out.os, B4.out.tape, B4.out.output, B4.out.size, B4.out.block⟩)
      clear hw5
      go_wp2_with fail
      go_ret
      exact ⟨rfl, B5.out⟩
  · rw [wS_wide k n k1 (by omega) (.inl (by rw [hP]; omega))] at h4
    have H4 := Lib.hid h4
    clear g4 a4 h4
    go_wp2_with fail
    refine (bytes_any _ _ _ _ _ H4.out).mono ?_
    rw [wBytes_err [] 2 (by decide)]
    rintro e w5 ⟨rfl, k5, hw5⟩
    have B5 := Lib.hid (show Below w.heap.size w w5 by subst hw5; exact ⟨B4.out.os, B4.out.tape, B4.out.output, B4.out.size, B4.out.block⟩)
    clear hw5
    go_wp2_with fail
    go_ret
    exact ⟨rfl, B5.out⟩
end Go.Proofs.Ytgbhmcepokpcaaa
