/- 'awake': the chapter's example. -/
import Derived.Test.YtgbhmcepokpcaaaRead3
namespace Go.Proofs.Ytgbhmcepokpcaaa
open Go.RowKit

def exBits : List Bool := [true, false, true, true, true, true, true, true, false, true, false, true, false, false, false, false, false, true]
theorem ex1 : wUnsigned 3 5 ⟨[], 0⟩ = ⟨[true, false, true], 0⟩ := by kernel_rfl
theorem ex2 : wSigned 4 (-1) ⟨[true, false, true], 0⟩ = ⟨[true, false, true, true, true, true, true], 0⟩ := by kernel_rfl
theorem ex3 : wFlag true ⟨[true, false, true, true, true, true, true], 0⟩ = ⟨[true, false, true, true, true, true, true, true], 0⟩ := by kernel_rfl
theorem ex4 : wText 3 ⟨#[65]⟩ ⟨[true, false, true, true, true, true, true, true], 0⟩ = ⟨exBits, 0⟩ := by kernel_rfl
theorem ex5 : wBytes ⟨exBits, 0⟩ = ⟨#[191, 80, 64]⟩ := by kernel_rfl
def exS : ByteArray := ⟨#[191, 80, 64]⟩
theorem er1 : rNew exS = ⟨exS, 0, 0⟩ := by kernel_rfl
theorem er2 : rUnsigned 3 ⟨exS, 0, 0⟩ = (5, ⟨exS, 3, 0⟩) := by kernel_rfl
theorem er3 : rSigned 4 ⟨exS, 3, 0⟩ = (-1, ⟨exS, 7, 0⟩) := by kernel_rfl
theorem er4 : rFlag ⟨exS, 7, 0⟩ = (true, ⟨exS, 8, 0⟩) := by kernel_rfl
theorem er5 : rText 3 ⟨exS, 8, 0⟩ = (⟨#[65]⟩, ⟨exS, 18, 0⟩) := by kernel_rfl
theorem er6 : rClose ⟨exS, 18, 0⟩ = 0 := by kernel_rfl
theorem er7 : width 3 = 2 := by kernel_rfl

theorem Adv.below {base : Nat} {w w' : World} {B : Nat} {v v' : Value} {st : WSt} (h : Adv w w' B v v') (hw : WrS base w B v st) : Below base w w' := by
  refine h.fr.below (fun k hk => ?_) (Nat.le_of_lt (Nat.lt_of_le_of_lt hw.hB (lt_of_blk hw.blk)))
  rcases hk with hk | hk
  · rw [hk]; exact hw.hB
  · by_cases he : st.e = 0
    · obtain ⟨l, _, ho⟩ := hw.own he
      exact (ho.lt k hk).1
    · rw [hw.nil he] at hk; simp [Value.ownBlock] at hk

theorem Fr.belowNone {B : Nat} {w w' : World} (h : Fr (fun _ => False) w w') (hB : B ≤ w.heap.size) : Below B w w' := h.below (fun _ h => h.elim) hB
theorem Fr.belowOnly {B R : Nat} {w w' : World} (h : Fr (only R) w w') (hB : B ≤ w.heap.size) (hR : B ≤ R) : Below B w w' := h.below (fun k hk => by rw [show k = R from hk]; exact hR) hB

set_option maxHeartbeats 2000000 in
theorem awake_any (w : World) : Calls Try.prog 11 #[] w fun e w' => e = .returned (.bool true) ∧ Below w.heap.size w w' := by
  go_enter Try.func11, Try.ntmps11
  go_wp2_with fail
  refine (newWriter_any w).mono ?_
  rintro e w1 ⟨rfl, hw1⟩
  have h1 := newWriter_st w.heap.size w (Nat.le_refl _)
  have b1 : Below w.heap.size w w1 := by rw [hw1]; exact (Below.refl _ _).alloc (Nat.le_refl _) _
  rw [← hw1] at h1
  clear hw1
  have H1 := Lib.hid h1
  have B1 := Lib.hid b1
  clear h1 b1
  go_wp2_with fail
  refine (unsigned_any _ _ _ _ 3 5 _ (by decide) (by decide) H1.out).mono ?_
  rw [ex1]
  rintro e w2 ⟨rfl, v2, h2, a2⟩
  have H2 := Lib.hid h2
  have B2 := Lib.hid (B1.out.trans (a2.below H1.out))
  clear h2 a2
  go_wp2_with fail
  refine (signed_any _ _ _ _ 4 (-1) _ (by decide) (by decide) H2.out).mono ?_
  rw [ex2]
  rintro e w3 ⟨rfl, v3, h3, a3⟩
  have H3 := Lib.hid h3
  have B3 := Lib.hid (B2.out.trans (a3.below H2.out))
  clear h3 a3
  go_wp2_with fail
  refine (flag_any _ _ _ _ true _ H3.out).mono ?_
  rw [ex3]
  rintro e w4 ⟨rfl, v4, h4, a4⟩
  have H4 := Lib.hid h4
  have B4 := Lib.hid (B3.out.trans (a4.below H3.out))
  clear h4 a4
  go_wp2_with fail
  refine (text_any _ _ _ _ 3 ⟨#[65]⟩ _ (by decide) (by decide) H4.out).mono ?_
  rw [ex4]
  rintro e w5 ⟨rfl, v5, h5, a5⟩
  have H5 := Lib.hid h5
  have B5 := Lib.hid (B4.out.trans (a5.below H4.out))
  clear h5 a5
  go_wp2_with fail
  refine (bytes_any _ _ _ _ _ H5.out).mono ?_
  rw [ex5]
  rintro e w6 ⟨rfl, n6, hw6⟩
  have h6 : WrS w.heap.size w6 w.heap.size v5 ⟨exBits, 0⟩ := by subst hw6; exact ⟨H5.out.blk, H5.out.hB, H5.out.own, H5.out.ne, H5.out.nil, H5.out.le⟩
  have b6 : Below w.heap.size w w6 := by subst hw6; exact ⟨B5.out.os, B5.out.tape, B5.out.output, B5.out.size, B5.out.block⟩
  have H6 := Lib.hid h6
  have B6 := Lib.hid b6
  clear h6 b6 hw6
  go_wp2_with fail
  refine (newReader_any exS _ (by decide)).mono ?_
  rw [er1]
  rintro e w7 ⟨rfl, h7, a7⟩
  have HW := Lib.hid (H6.out.kept a7 (fun h => h) (fun _ _ h => h))
  have HR : Hid (w.heap.size ≤ w6.heap.size) := Lib.hid B6.out.size
  have H7 := Lib.hid h7
  have B7 := Lib.hid (B6.out.trans (a7.belowNone B6.out.size))
  clear h7 a7
  go_wp2_with fail
  refine (bits_any _ _ _ _ _ HW.out).mono ?_
  rintro e w' ⟨rfl, hw⟩
  rw [hw]
  clear hw w'
  go_wp2_with fail
  refine (rUnsigned_any _ _ 3 _ H7.out).mono ?_
  rw [er2]
  rintro e w8 ⟨rfl, h8, a8⟩
  have H8 := Lib.hid h8
  have B8 := Lib.hid (B7.out.trans (a8.belowOnly B7.out.size HR.out))
  clear h8 a8
  go_wp2_with fail
  refine (rSigned_any _ _ 4 _ H8.out).mono ?_
  rw [er3]
  rintro e w9 ⟨rfl, h9, a9⟩
  have H9 := Lib.hid h9
  have B9 := Lib.hid (B8.out.trans (a9.belowOnly B8.out.size HR.out))
  clear h9 a9
  go_wp2_with fail
  refine (rFlag_any _ _ _ H9.out).mono ?_
  rw [er4]
  rintro e w10 ⟨rfl, h10, a10⟩
  have H10 := Lib.hid h10
  have B10 := Lib.hid (B9.out.trans (a10.belowOnly B9.out.size HR.out))
  clear h10 a10
  go_wp2_with fail
  refine (rText_any _ _ 3 _ (by decide) H10.out).mono ?_
  rw [er5]
  rintro e w11 ⟨rfl, h11, a11⟩
  have H11 := Lib.hid h11
  have B11 := Lib.hid (B10.out.trans (a11.belowOnly B10.out.size HR.out))
  clear h11 a11
  go_wp2_with fail
  refine (left_any _ _ _ H11.out).mono ?_
  rintro e w12 ⟨rfl, hw12⟩
  have H12 := Lib.hid (show RdS w12 w6.heap.size ⟨exS, 18, 0⟩ by rw [hw12]; exact H11.out.drew)
  have B12 := Lib.hid (show Below w.heap.size w w12 by rw [hw12]; exact B11.out.drew)
  clear hw12
  go_wp2_with fail
  refine (rClose_any _ _ _ H12.out).mono ?_
  rw [er6]
  rintro e w13 ⟨rfl, a13⟩
  have B13 := Lib.hid (B12.out.trans (a13.belowNone B12.out.size))
  clear a13
  go_wp2_with fail
  refine (width_any 3 _ (by decide)).mono ?_
  rw [er7]
  rintro e w' ⟨rfl, hw⟩
  rw [hw]
  clear hw w'
  go_wp2_with fail
  go_ret
  exact ⟨rfl, B13.out⟩
end Go.Proofs.Ytgbhmcepokpcaaa
