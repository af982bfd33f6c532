/- BitioFull. -/
import Derived.Test.YtgbhmcepokpcaaaMath
import Derived.Test.YtgbhmcepokpcaaaWidths
namespace Go.Proofs.Ytgbhmcepokpcaaa
open Go.RowKit

theorem wText_step (T : ByteArray) (bs : List Bool) (hT : T.size = 4000) (h : bs.length + 32012 ≤ 524288) : ∃ bs' : List Bool, wText 4000 T ⟨bs, 0⟩ = ⟨bs', 0⟩ ∧ bs'.length = bs.length + 32012 := by
  have hw : width 4000 = 12 := by decide
  have hl : (ibits 12 4000 ++ sbits T 4000).length = 32012 := by rw [List.length_append, ibits_len, sbits_len T 4000 (by omega)]
  refine ⟨bs ++ (ibits 12 4000 ++ sbits T 4000), ?_, by rw [List.length_append, hl]⟩
  have he : tErr 4000 4000 = 0 := by decide
  unfold wText wField
  rw [hw, hT, show ((4000 : Nat) : Int) = 4000 from rfl, he, if_neg (by simp), if_neg (by simp), if_neg (by simp only; omega)]
theorem uErr_one (k : Nat) (h1 : 1 ≤ k) (h2 : k ≤ 63) : uErr k 1 = 0 := by
  refine uErr_fits k 1 h1 h2 (by decide) ?_
  obtain ⟨j, rfl⟩ : ∃ j, k = j + 1 := ⟨k - 1, by omega⟩
  have hp : (0 : Int) < 2 ^ j := Int.pow_pos (by decide)
  rw [Int.pow_succ]; omega
theorem wU_step (k : Nat) (bs : List Bool) (h1 : 1 ≤ k) (h2 : k ≤ 63) (h : bs.length + k ≤ 524288) : ∃ bs' : List Bool, wUnsigned k 1 ⟨bs, 0⟩ = ⟨bs', 0⟩ ∧ bs'.length = bs.length + k := by
  refine ⟨bs ++ ibits k 1, ?_, by rw [List.length_append, ibits_len]⟩
  unfold wUnsigned wField
  rw [uErr_one k h1 h2, if_neg (by simp), if_neg (by simp), if_neg (by simp only; omega)]
  simp
theorem wU_over (k : Nat) (bs : List Bool) (h1 : 1 ≤ k) (h2 : k ≤ 63) (h : ¬ bs.length + k ≤ 524288) : wUnsigned k 1 ⟨bs, 0⟩ = ⟨bs, 8⟩ := by
  unfold wUnsigned wField
  rw [uErr_one k h1 h2, if_neg (by simp), if_neg (by simp), if_pos (by simp only; omega)]

theorem conv_zeros {w : World} {v : Value} (N : Nat) (hown : w.ownsRow 0 5 1 v N (List.replicate N (.int .u8 0))) : ∃ T : ByteArray, T.size = N ∧ (convert 49 9 v).run Try.prog w = .ok (.string T) w := by
  refine ⟨strOf (List.replicate N 0), by rw [strOf_size, List.length_replicate], ?_⟩
  have e : bytesV (List.replicate N 0) = List.replicate N (.int .u8 0) := by simp [bytesV]
  refine convert_bytes (base := 0) (by rw [List.length_replicate, e]; exact hown) (fun j => ?_)
  rw [List.getD_eq_getElem?_getD, List.getElem?_replicate]
  split <;> simp

set_option maxHeartbeats 2000000 in
set_option maxRecDepth 100000 in
theorem full_law (m : Nat) (w : World) (hm : m ≤ 255) :
    Calls Try.prog 10 #[.int .u8 m] w fun e w' => e = .returned (.bool true) ∧ Below w.heap.size w w' := by
  obtain ⟨i0, hi, hz0, hz1, hz2⟩ := info_parts Try.info5
  obtain ⟨n, hn62⟩ : ∃ n : Nat, 1 + (m : Int) % 62 = n := ⟨1 + m % 62, by omega⟩
  have n1 : 1 ≤ n := by omega
  have n2 : n ≤ 62 := by omega
  go_enter Try.func10, Try.ntmps10
  go_wp2_with fail
  refine (awake_any w).mono ?_
  rintro e w1 ⟨rfl, b1⟩
  have B1 := Lib.hid b1
  have hsz1 := b1.size
  clear b1
  go_wp2_with fail
  refine (newWriter_any w1).mono ?_
  rintro e w2 ⟨rfl, hw2⟩
  have h2 := newWriter_st w.heap.size w1 (by omega)
  rw [← hw2] at h2
  have b2 : Below w.heap.size w w2 := by rw [hw2]; exact B1.out.alloc (by omega) _
  have hs2 : w2.heap.size = w1.heap.size + 1 := by rw [hw2]; simp
  have HS2 := Lib.hid hs2
  have H2 := Lib.hid h2
  have B2 := Lib.hid b2
  clear hw2 h2 b2 hs2
  go_wp2_with (at_make; refine wpList_make_full _ rfl (.const (.int .i64 4000)) (.const (.int .i64 4000)) 49 rfl 0 5 i0 (.int .u8 0) 1 Try.underlying49 hi hz0 hz1 .i64 .i64 _ _ 4000 rfl rfl rfl rfl ?c1 ?c2 ?c3 ?_)
  case c1 => rw [hz2]; decide
  case c2 => unfold maxLen; decide
  case c3 => exact Nat.zero_le _
  intro w3 hown hgrow
  rw [toList_madeCells_one] at hown
  obtain ⟨T, hT, hcv⟩ := conv_zeros 4000 hown
  have h3 : WrS w.heap.size w3 w1.heap.size (.slice none 0 0) ⟨[], 0⟩ := H2.out.kept (S := fun _ => False) ((Fr.refl _ w2).grown hgrow (by simp)) (fun h => h) (fun _ _ h => h)
  have b3 : Below w.heap.size w w3 := B2.out.grown hgrow (by have := HS2.out; omega) (by simp)
  have HT := Lib.hid hT
  have H3 := Lib.hid h3
  have B3 := Lib.hid b3
  clear hown hgrow hT h3 b3 hi hz0 hz1 hz2
  go_wp2_with fail
  go_loopw [4, 18] (fun b i wr => ∃ (k : Nat) (bs : List Bool) (v : Value), k ≤ 16 ∧ i = .int .i64 k ∧ b = .int .i64 (32012 * k) ∧ bs.length = 32012 * k ∧ WrS w.heap.size wr w1.heap.size v ⟨bs, 0⟩ ∧ Below w.heap.size w wr) (fun _ i _ => 16 - (intOf i).toNat)
  case atStart => exact ⟨0, [], _, by omega, by congr 1, by congr 1, by simp, H3.out, B3.out⟩
  case round =>
    obtain ⟨k, bs, v, hk, rfl, rfl, hbs, hw, hb⟩ := hrel
    have HBS := Lib.hid hbs
    have HW := Lib.hid hw
    have HB := Lib.hid hb
    clear hbs hw hb
    by_cases hlt : k < 16
    · obtain ⟨bs', e', l'⟩ := wText_step T bs HT.out (by have := HBS.out; omega)
      have HL := Lib.hid l'
      have HE := Lib.hid e'
      clear l' e'
      go_wp2_with fail
      refine (text_any _ _ _ _ 4000 T _ (by decide) (by have := HT.out; omega) HW.out).mono ?_
      rw [HE.out]
      rintro e w4 ⟨rfl, v4, h4, a4⟩
      have B4 := Lib.hid (HB.out.trans (a4.below HW.out))
      have H4 := Lib.hid h4
      clear h4 a4
      go_wp2_with fail
      go_roundw
      case rel => exact ⟨k + 1, bs', v4, by omega, by go_num, by go_num, by have := HBS.out; have := HL.out; omega, H4.out, B4.out⟩
      case measure => simp [intOf]; omega
    · have e16 : k = 16 := by omega
      subst e16
      rw [show ((16 : Nat) : Int) = 16 from rfl]
      go_wp2_with fail
      go_loopw [4] (fun b wr => ∃ (t : Nat) (bs : List Bool) (v : Value), (t : Int) ≤ 524252 ∧ Hid (t % 60 = 32) ∧ b = .int .i64 t ∧ Hid (bs.length = t) ∧ WrS w.heap.size wr w1.heap.size v ⟨bs, 0⟩ ∧ Below w.heap.size w wr) (fun b _ => 524288 - (intOf b).toNat)
      case atStart => exact ⟨512192, bs, v, by omega, Lib.hid (by omega), by congr 1, Lib.hid (by have := HBS.out; omega), HW.out, HB.out⟩
      case round =>
        obtain ⟨t, bs2, v2, ht, HT60, rfl, HBS2, hw2, hb2⟩ := hrel
        have HW2 := Lib.hid hw2
        have HB2 := Lib.hid hb2
        clear hw2 hb2
        by_cases hlt2 : (t : Int) + 60 ≤ 524288
        · obtain ⟨bs', e', l'⟩ := wU_step 60 bs2 (by omega) (by omega) (by have := HBS2.out; omega)
          have HL := Lib.hid l'
          have HE := Lib.hid e'
          clear l' e'
          go_wp2_with fail
          refine (unsigned_any _ _ _ _ (60 : Nat) 1 _ (by omega) (by omega) HW2.out).mono ?_
          rw [HE.out]
          rintro e w4 ⟨rfl, v4, h4, a4⟩
          have B4 := Lib.hid (HB2.out.trans (a4.below HW2.out))
          have H4 := Lib.hid h4
          clear h4 a4
          go_wp2_with fail
          go_roundw
          case rel => exact ⟨t + 60, bs', v4, by have := HT60.out; omega, Lib.hid (by have := HT60.out; omega), by go_num, Lib.hid (by have := HBS2.out; have := HL.out; omega), H4.out, B4.out⟩
          case measure => simp [intOf]; omega
        · have e201 : t = 524252 := by have := HT60.out; omega
          subst e201
          have HLN := Lib.hid (show bs2.length = 524252 by have := HBS2.out; omega)
          by_cases hn : n ≤ 36
          · obtain ⟨bs', e', l'⟩ := wU_step n bs2 (by omega) (by omega) (by have := HLN.out; omega)
            have HL := Lib.hid (show (bs'.length : Int) = 524252 + n by have := HLN.out; omega)
            have hsz : (wBytes ⟨bs', 0⟩).size = (524252 + n + 7) / 8 := by
              have hl := (packs_packB bs').len
              have := HLN.out
              simp only [wBytes, ne_eq, not_true, if_false, strOf_size, hl]; omega
            have HSZ := Lib.hid hsz
            have HE := Lib.hid e'
            clear l' e' hsz
            go_wp2_with fail
            refine (unsigned_any _ _ _ _ n 1 _ (by omega) (by omega) HW2.out).mono ?_
            rw [HE.out]
            rintro e w4 ⟨rfl, v4, h4, a4⟩
            have B4 := Lib.hid (HB2.out.trans (a4.below HW2.out))
            have H4 := Lib.hid h4
            clear h4 a4
            go_wp2_with fail
            refine (bytes_any _ _ _ _ _ H4.out).mono ?_
            rintro e w5 ⟨rfl, k5, hw5⟩
            have H5 := Lib.hid (show WrS w.heap.size w5 w1.heap.size v4 ⟨bs', 0⟩ by subst hw5; exact ⟨H4.out.blk, H4.out.hB, H4.out.own, H4.out.ne, H4.out.nil, H4.out.le⟩)
            have B5 := Lib.hid (show Below w.heap.size w w5 by subst hw5; exact ⟨B4.out.os, B4.out.tape, B4.out.output, B4.out.size, B4.out.block⟩)
            clear hw5
            generalize wBytes ⟨bs', 0⟩ = s5 at *
            have hs5 : s5.size ≤ 65536 := by have := HSZ.out; omega
            go_wp2_with fail
            have hcat : (s5 ++ (⟨#[0]⟩ : ByteArray)).size = s5.size + 1 := by rw [ByteArray.size_append]; rfl
            have HCAT := Lib.hid hcat
            clear hcat
            generalize s5 ++ (⟨#[0]⟩ : ByteArray) = s6 at *
            refine (newReader_any s6 _ (by have := HCAT.out; omega)).mono ?_
            rintro e w6 ⟨rfl, h6, a6⟩
            have H6 := Lib.hid (H5.out.kept a6 (fun h => h) (fun _ _ h => h))
            have R6 := Lib.hid h6
            have B6 := Lib.hid (B5.out.trans (a6.belowNone B5.out.size))
            clear h6 a6
            go_wp2_with fail
            refine (bits_any _ _ _ _ _ H6.out).mono ?_
            rintro e w' ⟨rfl, hw⟩
            rw [hw, show (((⟨bs', 0⟩ : WSt).bs.length : Nat) : Int) = 524252 + n from HL.out]
            clear hw w'
            by_cases hlast : s5.size < 65536
            · go_wp2_with fail
              go_ret
              exact ⟨rfl, B6.out⟩
            · have hnew : rNew s6 = ⟨ByteArray.empty, 0, 8⟩ := by unfold rNew; rw [if_pos (by have := HCAT.out; omega)]
              rw [hnew] at R6
              clear hnew
              go_wp2_with fail
              refine (err_any _ _ _ R6.out).mono ?_
              rintro e w' ⟨rfl, hw⟩
              rw [hw]
              clear hw w'
              go_wp2_with fail
              refine (left_any _ _ _ R6.out).mono ?_
              rintro e w7 ⟨rfl, hw7⟩
              have B7 := Lib.hid (show Below w.heap.size w w7 by rw [hw7]; exact B6.out.drew)
              clear hw7
              go_wp2_with fail
              go_ret
              exact ⟨rfl, B7.out⟩
          · have HE := Lib.hid (wU_over n bs2 (by omega) (by omega) (by have := HLN.out; omega))
            go_wp2_with fail
            refine (unsigned_any _ _ _ _ n 1 _ (by omega) (by omega) HW2.out).mono ?_
            rw [HE.out]
            rintro e w4 ⟨rfl, v4, h4, a4⟩
            have B4 := Lib.hid (HB2.out.trans (a4.below HW2.out))
            have H4 := Lib.hid h4
            clear h4 a4
            go_wp2_with fail
            refine (bytes_any _ _ _ _ _ H4.out).mono ?_
            rw [show wBytes ⟨bs2, 8⟩ = ByteArray.empty by simp [wBytes]]
            rintro e w5 ⟨rfl, k5, hw5⟩
            have H5 := Lib.hid (show WrS w.heap.size w5 w1.heap.size v4 ⟨bs2, 8⟩ by subst hw5; exact ⟨H4.out.blk, H4.out.hB, H4.out.own, H4.out.ne, H4.out.nil, H4.out.le⟩)
            have B5 := Lib.hid (show Below w.heap.size w w5 by subst hw5; exact ⟨B4.out.os, B4.out.tape, B4.out.output, B4.out.size, B4.out.block⟩)
            clear hw5
            go_wp2_with fail
            refine (bits_any _ _ _ _ _ H5.out).mono ?_
            rintro e w' ⟨rfl, hw⟩
            rw [hw, show (((⟨bs2, 8⟩ : WSt).bs.length : Nat) : Int) = 524252 by have := HLN.out; simp only; omega]
            clear hw w'
            go_wp2_with fail
            go_ret
            exact ⟨rfl, B5.out⟩
end Go.Proofs.Ytgbhmcepokpcaaa
