/- The document's own reader: Text, alive. -/
import Derived.Test.YtgbhmcepokpcaaaRefR3
namespace Go.Proofs.Ytgbhmcepokpcaaa
open Go.RowKit

theorem rText_bad (most : Int) (st : RSt) (he : st.e = 0) (hv : ¬ (1 ≤ most ∧ most ≤ 4095)) : rText most st = (ByteArray.empty, ⟨ByteArray.empty, 0, 1⟩) := by
  have : between 1 4095 most = false := by simp [between]; omega
  simp [rText, rBegin, he, this]

set_option maxHeartbeats 1000000 in
theorem rTextR_bad (B : Nat) (st : RSt) (most : Int) (w : World) (hm : most ≤ 9223372036854775807) (h : RdR w B st) (he : st.e = 0) (hv : ¬ (1 ≤ most ∧ most ≤ 4095)) :
    Calls Try.prog 27 #[.pointer (some ⟨B, 0, none⟩), .int .i64 most] w fun x w' => x = .returned (.string (rText most st).1) ∧ RdR w' B (rText most st).2 ∧ Fr (only B) w w' := by
  obtain ⟨h0, h1, h2, f0, f1, f2⟩ := three_cells h.blk
  have H := Lib.hid h
  have hb : (st.e == 0) = true := by simpa using he
  have HF := Lib.hid (rText_bad most st he hv)
  clear h he
  by_cases hv1 : most < 1
  · clear hv
    go_enter Try.func27, Try.ntmps27
    go_wp2_with fail
    refine (failR_any B st 1 _ H.out).mono ?_
    rintro e w' ⟨rfl, hr, hf⟩
    have HR := Lib.hid hr
    obtain ⟨g0, g1, g2, k0, k1, k2⟩ := three_cells hr.blk
    clear hr h0 h1 h2 f0 f1 f2
    go_wp2_with (go_at_call 50; refine (rwidth_flip _ _ hm).mono ?_; rintro e w' ⟨rfl, rfl⟩)
    refine (getR_flip B _ _ _ HR.out (by simp)).mono ?_
    rintro e w2 ⟨rfl, rfl⟩
    go_wp2_with fail
    go_ret
    rw [HF.out]
    exact ⟨rfl, HR.out, hf⟩
  · have hv2 : 4095 < most := by omega
    clear hv
    go_enter Try.func27, Try.ntmps27
    go_wp2_with fail
    refine (failR_any B st 1 _ H.out).mono ?_
    rintro e w' ⟨rfl, hr, hf⟩
    have HR := Lib.hid hr
    obtain ⟨g0, g1, g2, k0, k1, k2⟩ := three_cells hr.blk
    clear hr h0 h1 h2 f0 f1 f2
    go_wp2_with (go_at_call 50; refine (rwidth_flip _ _ hm).mono ?_; rintro e w' ⟨rfl, rfl⟩)
    refine (getR_flip B _ _ _ HR.out (by simp)).mono ?_
    rintro e w2 ⟨rfl, rfl⟩
    go_wp2_with fail
    go_ret
    rw [HF.out]
    exact ⟨rfl, HR.out, hf⟩

theorem rText_good (most : Int) (st : RSt) (he : st.e = 0) (hv : 1 ≤ most ∧ most ≤ 4095) :
    (8 * (st.s.size : Int) - st.at_ < width most ∧ rText most st = (ByteArray.empty, ⟨ByteArray.empty, 0, 9⟩) ∧ rNum true (width most) st = (0, ⟨ByteArray.empty, 0, 9⟩)) ∨
    (¬ 8 * (st.s.size : Int) - st.at_ < width most ∧ rNum true (width most) st = ((bval (rbits st.s st.at_ (width most)) : Int), ⟨st.s, st.at_ + width most, 0⟩) ∧
      rText most st = if most < (bval (rbits st.s st.at_ (width most)) : Int) then (ByteArray.empty, ⟨ByteArray.empty, 0, 2⟩)
        else if 8 * (st.s.size : Int) - (st.at_ + width most : Nat) < 8 * (bval (rbits st.s st.at_ (width most)) : Int) then (ByteArray.empty, ⟨ByteArray.empty, 0, 9⟩)
        else (strOf (tbytes st.s (st.at_ + width most) (bval (rbits st.s st.at_ (width most)))), ⟨st.s, st.at_ + width most + 8 * bval (rbits st.s st.at_ (width most)), 0⟩)) := by
  have hb : between 1 4095 most = true := by simp [between, hv]
  by_cases hs : 8 * (st.s.size : Int) - st.at_ < width most
  · left
    exact ⟨hs, by simp [rText, rBegin, he, hb, hs], by simp [rNum, rBegin, he, hs]⟩
  · right
    refine ⟨hs, by simp [rNum, rBegin, he, hs], ?_⟩
    by_cases hgt : most < (bval (rbits st.s st.at_ (width most)) : Int)
    · simp [rText, rBegin, he, hb, hs, hgt]
    · simp [rText, rBegin, he, hb, hs, hgt]
      split <;> simp

set_option maxHeartbeats 2000000 in
theorem rTextR_good (B : Nat) (st : RSt) (most : Int) (w : World) (h : RdR w B st) (he : st.e = 0) (hv : 1 ≤ most ∧ most ≤ 4095) :
    Calls Try.prog 27 #[.pointer (some ⟨B, 0, none⟩), .int .i64 most] w fun x w' => x = .returned (.string (rText most st).1) ∧ RdR w' B (rText most st).2 ∧ Fr (only B) w w' := by
  obtain ⟨h0, h1, h2, f0, f1, f2⟩ := three_cells h.blk
  have H := Lib.hid h
  have hle := h.le
  have hsz := h.sz
  have hb : (st.e == 0) = true := by simpa using he
  have hwd := width_le most hv.2
  have hG := getR_any B st (width most) w (by omega) h
  obtain ⟨v1, v2⟩ := hv
  have hm : most ≤ 9223372036854775807 := by omega
  rcases rText_good most st he ⟨v1, v2⟩ with ⟨hs, hT, hN⟩ | ⟨hs, hN, hT⟩
  · rw [hN] at hG
    have HG := Lib.hid hG
    have HF := Lib.hid hT
    clear hG hT hN he hs h
    go_enter Try.func27, Try.ntmps27
    go_wp2_with (go_at_call 50; refine (rwidth_flip _ _ hm).mono ?_; rintro e w' ⟨rfl, rfl⟩)
    refine HG.out.mono ?_
    rintro e w2 ⟨rfl, hr, hf⟩
    have HR := Lib.hid hr
    obtain ⟨g0, g1, g2, k0, k1, k2⟩ := three_cells hr.blk
    clear hr h0 h1 h2 f0 f1 f2
    go_wp2_with fail
    go_ret
    rw [HF.out]
    exact ⟨rfl, HR.out, hf⟩
  · rw [hN] at hG
    have HG := Lib.hid hG
    have HT := Lib.hid hT
    clear hG hT hN he h
    generalize bval (rbits st.s st.at_ (width most)) = n at *
    by_cases hgt : most < (n : Int)
    · have hF := HT.out
      rw [if_pos hgt] at hF
      have HF := Lib.hid hF
      clear hF
      go_enter Try.func27, Try.ntmps27
      go_wp2_with (go_at_call 50; refine (rwidth_flip _ _ hm).mono ?_; rintro e w' ⟨rfl, rfl⟩)
      refine HG.out.mono ?_
      rintro e w2 ⟨rfl, hr, hf⟩
      have HR := Lib.hid hr
      obtain ⟨g0, g1, g2, k0, k1, k2⟩ := three_cells hr.blk
      clear hr h0 h1 h2 f0 f1 f2
      go_wp2_with fail
      refine (failR_any B _ 2 _ HR.out).mono ?_
      rintro e w3 ⟨rfl, hr3, hf3⟩
      have HR3 := Lib.hid hr3
      obtain ⟨g0, g1, g2, k0, k1, k2⟩ := three_cells hr3.blk
      clear hr3
      go_wp2_with fail
      go_ret
      rw [HF.out]
      exact ⟨rfl, HR3.out, hf.onlyTrans hf3⟩
    · by_cases hs2 : 8 * (st.s.size : Int) - (st.at_ + width most : Nat) < 8 * (n : Int)
      · have hF := HT.out
        rw [if_neg hgt, if_pos hs2] at hF
        have HF := Lib.hid hF
        have hn : (n : Int) ≤ 4095 := by omega
        clear hF
        go_enter Try.func27, Try.ntmps27
        go_wp2_with (go_at_call 50; refine (rwidth_flip _ _ hm).mono ?_; rintro e w' ⟨rfl, rfl⟩)
        refine HG.out.mono ?_
        rintro e w2 ⟨rfl, hr, hf⟩
        have HR := Lib.hid hr
        obtain ⟨g0, g1, g2, k0, k1, k2⟩ := three_cells hr.blk
        clear hr h0 h1 h2 f0 f1 f2
        go_wp2_with fail
        refine (leftR_any B _ _ HR.out).mono ?_
        rintro e w3 ⟨rfl, rfl⟩
        go_wp2_with fail
        refine (failR_any B _ 9 _ HR.out.drew).mono ?_
        rintro e w3 ⟨rfl, hr3, hf3⟩
        have HR3 := Lib.hid hr3
        obtain ⟨g0, g1, g2, k0, k1, k2⟩ := three_cells hr3.blk
        clear hr3
        go_wp2_with fail
        go_ret
        rw [HF.out]
        exact ⟨rfl, HR3.out, hf.drew.onlyTrans hf3⟩
      · have hF := HT.out
        rw [if_neg hgt, if_neg hs2] at hF
        have HF' := Lib.hid hF
        have hn : n ≤ 4095 := by omega
        have hs3 : st.at_ + width most + 8 * n ≤ 8 * st.s.size := by omega
        clear hF
        go_enter Try.func27, Try.ntmps27
        go_wp2_with (go_at_call 50; refine (rwidth_flip _ _ hm).mono ?_; rintro e w' ⟨rfl, rfl⟩)
        refine HG.out.mono ?_
        rintro e w2 ⟨rfl, hr, hf⟩
        have HR := Lib.hid hr
        obtain ⟨g0, g1, g2, k0, k1, k2⟩ := three_cells hr.blk
        clear hr h0 h1 h2 f0 f1 f2
        go_wp2_with fail
        refine (leftR_any B _ _ HR.out).mono ?_
        rintro e w3 ⟨rfl, hw3⟩
        have HR3 := Lib.hid (show RdR w3 B ⟨st.s, st.at_ + width most, 0⟩ by rw [hw3]; exact HR.out.drew)
        have HF3 := Lib.hid (show Fr (only B) w w3 by rw [hw3]; exact hf.drew)
        obtain ⟨g0, g1, g2, k0, k1, k2⟩ := three_cells HR3.out.blk
        clear hw3 hf
        obtain ⟨i0, hi, hz0, hz1, hz2⟩ := info_parts Try.info5
        go_wp2_with (at_make; refine wpList_make_full _ rfl (.tmp 58) (.tmp 58) 49 rfl 0 5 i0 (.int .u8 0) 1 Try.underlying49 hi hz0 hz1 .i64 .i64 _ _ n rfl rfl rfl rfl ?c1 ?c2 ?c3 ?_)
        case c1 => rw [hz2]; omega
        case c2 => unfold maxLen; omega
        case c3 => exact Nat.zero_le _
        intro w4 hown hgrow
        have hgrow' := Lib.hid hgrow
        have hB4 : B < w3.heap.size := lt_of_blk HR3.out.blk
        have hr4 : RdR w4 B ⟨st.s, st.at_ + width most, 0⟩ := ⟨(hgrow.block B hB4 (by simp)).trans HR3.out.blk, HR3.out.le, HR3.out.sz⟩
        have hf4 : Fr (only B) w w4 := HF3.out.grown hgrow (by simp)
        have HR4 := Lib.hid hr4
        have HF4 := Lib.hid hf4
        have hown2 : w4.ownsRow 0 5 1 (.slice (some ⟨w3.heap.size, 0, none⟩) n n) n (bytesV (mixed st.s (st.at_ + width most) n 0)) := by
          rw [toList_madeCells_one] at hown
          have e : bytesV (mixed st.s (st.at_ + width most) n 0) = List.replicate n (Value.int IntKind.u8 0) := by simp [mixed, bytesV]
          rw [e]; exact hown
        have HO := Lib.hid hown2
        clear hown hown2 hgrow hr4 hf4 g0 g1 g2 k0 k1 k2
        go_wp2_with fail
        go_loopw [7] (fun i wr => ∃ k : Nat, k ≤ n ∧ i = .int .i64 k ∧ RdR wr B ⟨st.s, st.at_ + width most + 8 * k, 0⟩ ∧ wr.ownsRow 0 5 1 (.slice (some ⟨w3.heap.size, 0, none⟩) n n) n (bytesV (mixed st.s (st.at_ + width most) n k)) ∧ Fr (only B) w wr) (fun i _ => n - (intOf i).toNat)
        case atStart => exact ⟨0, Nat.zero_le _, rfl, HR4.out, HO.out, HF4.out⟩
        case round =>
          obtain ⟨k, hk, rfl, hr5, ho5, hf5⟩ := hrel
          have HR5 := Lib.hid hr5
          have HO5 := Lib.hid ho5
          have HF5 := Lib.hid hf5
          clear hr5 ho5 hf5
          have hne : w3.heap.size ≠ B := by omega
          by_cases hlt : k < n
          · have HN8 := Lib.hid (show rNum true ((8 : Nat) : Int) ⟨st.s, st.at_ + width most + 8 * k, 0⟩ = ((bval (rbits st.s (st.at_ + width most + 8 * k) 8) : Int), ⟨st.s, st.at_ + width most + 8 * k + 8, 0⟩) by
              have : ¬ 8 * (st.s.size : Int) - (st.at_ + width most + 8 * k : Nat) < ((8 : Nat) : Int) := by omega
              simp only [rNum, rBegin, this, ne_eq, not_true, if_false, Bool.true_eq_false, if_true, Int.toNat_natCast])
            go_wp2_with fail
            refine (getR_any B _ 8 _ (by omega) HR5.out).mono ?_
            rw [HN8.out]
            rintro e w6 ⟨rfl, hr6, hf6⟩
            have ho6 : w6.ownsRow 0 5 1 (.slice (some ⟨w3.heap.size, 0, none⟩) n n) n (bytesV (mixed st.s (st.at_ + width most) n k)) :=
              HO5.out.kept (hf6.grownBy (some B) (fun k _ hk => by rw [show k = B from hk])) (.inr (by simpa [Value.ownBlock] using hne))
            have hcell : ∃ x, w6.cell? ⟨w3.heap.size, k, none⟩ = some x := ⟨_, (ho6.cellAt k (by omega)).trans (bytesV_get _ k (by rw [mixed_len _ _ _ _ hk]; exact hlt))⟩
            obtain ⟨x, hcell⟩ := hcell
            have hfz := ho6.frozenAt k
            have hval := bval_lt' (rbits st.s (st.at_ + width most + 8 * k) 8)
            rw [rbits_len] at hval
            have hval2 : bval (rbits st.s (st.at_ + width most + 8 * k) 8) < 256 := hval
            have HMS := Lib.hid (mixed_set st.s (st.at_ + width most) n k hlt)
            have HR6 := Lib.hid hr6
            have HO6 := Lib.hid ho6
            have HF6 := Lib.hid (HF5.out.onlyTrans hf6)
            clear hval hr6 ho6 hf6
            simp only
            generalize bval (rbits st.s (st.at_ + width most + 8 * k) 8) = q at *
            go_wp2_with fail
            go_roundw
            case rel =>
              refine ⟨k + 1, by omega, by go_num, ?_, ?_, ?_⟩
              · have e : st.at_ + width most + 8 * (k + 1) = st.at_ + width most + 8 * k + 8 := by omega
                rw [e]
                exact ⟨other_set HR6.out.blk _ (Ne.symm hne), HR6.out.le, HR6.out.sz⟩
              · have hst := (HO6.out.stored k (.int .u8 (q : Int))).1
                rw [bytesV_set, HMS.out] at hst
                exact hst
              · exact HF6.out.setCell (p := ⟨w3.heap.size, k, none⟩) (.inr HF3.out.size) _
            case measure => simp [intOf]; omega
          · have e : k = n := by omega
            subst e
            have hcv := convert_bytes (v := .slice (some ⟨w3.heap.size, 0, none⟩) k k) (l := mixed st.s (st.at_ + width most) k k) (w := wr) (base := 0) (by rw [mixed_len _ _ _ _ hk]; exact HO5.out) (by rw [mixed_full]; exact tbytes_lt _ _ _)
            rw [mixed_full] at hcv
            generalize strOf (tbytes st.s (st.at_ + width most) k) = str at *
            go_wp2_with fail
            go_ret
            rw [HF'.out]
            exact ⟨rfl, HR5.out, HF5.out⟩

theorem rTextR_any (B : Nat) (st : RSt) (most : Int) (w : World) (hm : most ≤ 9223372036854775807) (h : RdR w B st) :
    Calls Try.prog 27 #[.pointer (some ⟨B, 0, none⟩), .int .i64 most] w fun x w' => x = .returned (.string (rText most st).1) ∧ RdR w' B (rText most st).2 ∧ Fr (only B) w w' := by
  by_cases he : st.e = 0
  · by_cases hv : 1 ≤ most ∧ most ≤ 4095
    · exact rTextR_good B st most w h he hv
    · exact rTextR_bad B st most w hm h he hv
  · have hF : rText most st = (ByteArray.empty, st) := by simp [rText, rBegin, he]
    rw [hF]
    refine (rTextR_dead B st most w hm h he).mono ?_
    rintro e w' ⟨rfl, rfl⟩
    exact ⟨rfl, h, Fr.refl _ _⟩
end Go.Proofs.Ytgbhmcepokpcaaa
