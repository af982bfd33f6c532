/- The reader: Text. -/
import Derived.Test.YtelpdihaonoedaaRead2
import Derived.Test.YtelpdihaonoedaaText
namespace Go.Proofs.Ytelpdihaonoedaa
open Go.RowKit
set_option maxRecDepth 20000

def tbytes (s : ByteArray) (a n : Nat) : List Nat := (List.range n).map fun i => bval (rbits s (a + 8 * i) 8)
theorem tbytes_len (s : ByteArray) (a n : Nat) : (tbytes s a n).length = n := by simp [tbytes]
def mixed (s : ByteArray) (a n k : Nat) : List Nat := (tbytes s a n).take k ++ List.replicate (n - k) 0
theorem mixed_len (s : ByteArray) (a n k : Nat) (h : k ≤ n) : (mixed s a n k).length = n := by simp [mixed, tbytes_len]; omega
theorem mixed_set (s : ByteArray) (a n k : Nat) (h : k < n) : (mixed s a n k).set k (bval (rbits s (a + 8 * k) 8)) = mixed s a n (k + 1) := by
  have e : n - k = (n - (k + 1)) + 1 := by omega
  have ht : (tbytes s a n).take (k + 1) = (tbytes s a n).take k ++ [bval (rbits s (a + 8 * k) 8)] := by
    rw [List.take_succ_eq_append_getElem (by rw [tbytes_len]; exact h)]
    simp [tbytes]
  have hl : ((tbytes s a n).take k).length = k := by simp [tbytes_len]; omega
  unfold mixed
  rw [ht, List.set_append, if_neg (by omega), hl, Nat.sub_self, e, List.replicate_succ]
  simp
theorem mixed_full (s : ByteArray) (a n : Nat) : mixed s a n n = tbytes s a n := by
  simp only [mixed, Nat.sub_self, List.replicate_zero, List.append_nil]
  exact List.take_of_length_le (by rw [tbytes_len]; exact Nat.le_refl _)
theorem tbytes_lt (s : ByteArray) (a n j : Nat) : (tbytes s a n).getD j 0 < 256 := by
  rw [List.getD_eq_getElem?_getD]
  by_cases h : j < n
  · simp only [tbytes, List.getElem?_map, List.getElem?_range h, Option.map_some, Option.getD_some]
    have h1 := bval_lt' (rbits s (a + 8 * j) 8)
    rw [rbits_len] at h1
    exact h1
  · rw [List.getElem?_eq_none (by rw [tbytes_len]; omega)]
    decide

def rText (most : Int) (st : RSt) : ByteArray × RSt :=
  if (rBegin (between 1 4095 most) (width most) st).1 = false then (ByteArray.empty, (rBegin (between 1 4095 most) (width most) st).2)
  else if most < (bval (rbits st.s st.at_ (width most)) : Int) then (ByteArray.empty, ⟨ByteArray.empty, 0, 2⟩)
  else if (rBegin true (8 * (bval (rbits st.s st.at_ (width most)) : Int)) ⟨st.s, st.at_ + width most, st.e⟩).1 = false then (ByteArray.empty, (rBegin true (8 * (bval (rbits st.s st.at_ (width most)) : Int)) ⟨st.s, st.at_ + width most, st.e⟩).2)
  else (strOf (tbytes st.s (st.at_ + width most) (bval (rbits st.s st.at_ (width most)))), ⟨st.s, st.at_ + width most + 8 * bval (rbits st.s st.at_ (width most)), st.e⟩)

theorem width_flip (most : Int) (w : World) (h2 : most ≤ 9223372036854775807) :
    Calls Try.prog 115 #[.int .i64 most] w fun e w' => e = .returned (.int .i64 (width most)) ∧ w = w' := (width_any most w h2).mono fun _ _ h => ⟨h.1, h.2.symm⟩
theorem isText_flip (x : Int) (w : World) : Calls Try.prog 126 #[.int .i64 x] w fun e w' => e = .returned (.bool (between 1 4095 x)) ∧ w = w' := (isText_any x w).mono fun _ _ h => ⟨h.1, h.2.symm⟩

set_option maxHeartbeats 1000000 in
theorem rText_any (B : Nat) (st : RSt) (most : Int) (w : World) (hm : most ≤ 9223372036854775807) (h : RdS w B st) :
    Calls Try.prog 93 #[.pointer (some ⟨B, 0, none⟩), .int .i64 most] w fun x w' => x = .returned (.string (rText most st).1) ∧ RdS w' B (rText most st).2 ∧ Fr (only B) w w' := by
  have H := Lib.hid h
  clear h
  have hwd := width_le64 most hm
  cases hb : (rBegin (between 1 4095 most) (width most) st).1
  · have HF := Lib.hid (show rText most st = (ByteArray.empty, (rBegin (between 1 4095 most) (width most) st).2) by simp [rText, hb])
    have HB := Lib.hid hb
    clear hb
    go_enter Try.func93, Try.ntmps93
    go_wp2_with (first | (go_at_call 115; refine (width_flip _ _ hm).mono ?_; rintro e w' ⟨rfl, rfl⟩) | (go_at_call 126; refine (isText_flip _ _).mono ?_; rintro e w' ⟨rfl, rfl⟩))
    refine (begin_any B st _ _ _ H.out).mono ?_
    rw [HB.out]
    rintro e w' ⟨rfl, hr, hf⟩
    have HR := Lib.hid hr
    clear hr
    go_wp2_with fail
    go_ret
    rw [HF.out]
    exact ⟨rfl, HR.out, hf⟩
  · obtain ⟨he, hv, hs, h2⟩ := rBegin_true hb
    have hw := between_iff hv
    have hwd2 := width_le most hw.2
    have HB := Lib.hid hb
    have H2 := Lib.hid h2
    have hle := H.out.le
    have hsz := H.out.sz
    have HT : Hid (rText most st = if most < (bval (rbits st.s st.at_ (width most)) : Int) then (ByteArray.empty, ⟨ByteArray.empty, 0, 2⟩)
      else if (rBegin true (8 * (bval (rbits st.s st.at_ (width most)) : Int)) ⟨st.s, st.at_ + width most, st.e⟩).1 = false then (ByteArray.empty, (rBegin true (8 * (bval (rbits st.s st.at_ (width most)) : Int)) ⟨st.s, st.at_ + width most, st.e⟩).2)
      else (strOf (tbytes st.s (st.at_ + width most) (bval (rbits st.s st.at_ (width most)))), ⟨st.s, st.at_ + width most + 8 * bval (rbits st.s st.at_ (width most)), st.e⟩)) := by
        refine Lib.hid ?_
        rw [rText, if_neg (by simp [hb])]
    clear hb h2 he hv
    go_enter Try.func93, Try.ntmps93
    go_wp2_with (first | (go_at_call 115; refine (width_flip _ _ hm).mono ?_; rintro e w' ⟨rfl, rfl⟩) | (go_at_call 126; refine (isText_flip _ _).mono ?_; rintro e w' ⟨rfl, rfl⟩))
    refine (begin_any B st _ _ _ H.out).mono ?_
    rw [HB.out, H2.out]
    rintro e w1 ⟨rfl, hr, hf⟩
    have HR := Lib.hid hr
    clear hr
    go_wp2_with fail
    refine (collect_any B st (width most) _ (by omega) HR.out (by omega)).mono ?_
    rintro e w2 ⟨rfl, hr2, hf2⟩
    have HR2 := Lib.hid hr2
    have HF2 := Lib.hid (hf.onlyTrans hf2)
    clear hr2 hf hf2
    generalize bval (rbits st.s st.at_ (width most)) = n at *
    by_cases hgt : most < (n : Int)
    · have HF := HT.out
      rw [if_pos hgt] at HF
      have HF := Lib.hid HF
      go_wp2_with fail
      refine (fail_any B _ 2 _ HR2.out).mono ?_
      rintro e w3 ⟨rfl, hr3, hf3⟩
      have HR3 := Lib.hid hr3
      clear hr3
      go_wp2_with fail
      go_ret
      rw [HF.out]
      exact ⟨rfl, HR3.out, HF2.out.onlyTrans hf3⟩
    · have HF := HT.out
      rw [if_neg hgt] at HF
      cases hb2 : (rBegin true (8 * (n : Int)) ⟨st.s, st.at_ + width most, st.e⟩).1
      · rw [if_pos hb2] at HF
        have HF' := Lib.hid HF
        have HB2 := Lib.hid hb2
        clear HF hb2
        go_wp2_with fail
        refine (begin_any B _ _ _ _ HR2.out).mono ?_
        rw [HB2.out]
        rintro e w3 ⟨rfl, hr3, hf3⟩
        have HR3 := Lib.hid hr3
        clear hr3
        go_wp2_with fail
        go_ret
        rw [HF'.out]
        exact ⟨rfl, HR3.out, HF2.out.onlyTrans hf3⟩
      · rw [if_neg (by simp [hb2])] at HF
        obtain ⟨he2, hv2, hs2, hst2⟩ := rBegin_true hb2
        have HF' := Lib.hid HF
        have HB2 := Lib.hid hb2
        have HS2 := Lib.hid hst2
        have hn : n ≤ 4095 := by omega
        have hs3 : st.at_ + width most + 8 * n ≤ 8 * st.s.size := by simp only at hs2; omega
        clear HF hb2 hst2 he2 hv2 hs2
        go_wp2_with fail
        refine (begin_any B _ _ _ _ HR2.out).mono ?_
        rw [HB2.out, HS2.out]
        rintro e w3 ⟨rfl, hr3, hf3⟩
        have HR3 := Lib.hid hr3
        have HF3 := Lib.hid (HF2.out.onlyTrans hf3)
        clear hr3 hf3
        obtain ⟨i0, hi, hz0, hz1, hz2⟩ := info_parts Try.info5
        go_wp2_with (at_make; refine wpList_make_full _ rfl (.tmp 31) (.tmp 31) 41 rfl 0 5 i0 (.int .u8 0) 1 Try.underlying41 hi hz0 hz1 .i64 .i64 _ _ n rfl rfl rfl rfl ?c1 ?c2 ?c3 ?_)
        case c1 => rw [hz2]; omega
        case c2 => unfold maxLen; omega
        case c3 => exact Nat.zero_le _
        intro w4 hown hgrow
        have hgrow' := Lib.hid hgrow
        have hB4 : B < w3.heap.size := lt_of_blk HR3.out.blk
        have hr4 : RdS w4 B ⟨st.s, st.at_ + width most, st.e⟩ := ⟨(hgrow.block B hB4 (by simp)).trans HR3.out.blk, HR3.out.le, HR3.out.sz⟩
        have hf4 : Fr (only B) w w4 := HF3.out.grown hgrow (by simp)
        have HR4 := Lib.hid hr4
        have HF4 := Lib.hid hf4
        have hown2 : w4.ownsRow 0 5 1 (.slice (some ⟨w3.heap.size, 0, none⟩) n n) n (bytesV (mixed st.s (st.at_ + width most) n 0)) := by
          rw [toList_madeCells_one] at hown
          have e : bytesV (mixed st.s (st.at_ + width most) n 0) = List.replicate n (Value.int IntKind.u8 0) := by simp [mixed, bytesV]
          rw [e]; exact hown
        have HO := Lib.hid hown2
        clear hown hown2 hgrow hr4 hf4
        go_wp2_with fail
        go_loopw [35] (fun i wr => ∃ k : Nat, k ≤ n ∧ i = .int .i64 k ∧ RdS wr B ⟨st.s, st.at_ + width most + 8 * k, st.e⟩ ∧ wr.ownsRow 0 5 1 (.slice (some ⟨w3.heap.size, 0, none⟩) n n) n (bytesV (mixed st.s (st.at_ + width most) n k)) ∧ Fr (only B) w wr) (fun i _ => n - (intOf i).toNat)
        case atStart => exact ⟨0, Nat.zero_le _, rfl, HR4.out, HO.out, HF4.out⟩
        case round =>
          obtain ⟨k, hk, rfl, hr5, ho5, hf5⟩ := hrel
          have HR5 := Lib.hid hr5
          have HO5 := Lib.hid ho5
          have HF5 := Lib.hid hf5
          clear hr5 ho5 hf5
          have hne : w3.heap.size ≠ B := by omega
          by_cases hlt : k < n
          · go_wp2_with fail
            refine (collect_any B _ 8 _ (by omega) HR5.out (by simp only; omega)).mono ?_
            rintro e w6 ⟨rfl, hr6, hf6⟩
            have ho6 : w6.ownsRow 0 5 1 (.slice (some ⟨w3.heap.size, 0, none⟩) n n) n (bytesV (mixed st.s (st.at_ + width most) n k)) :=
              HO5.out.kept (hf6.grownBy (some B) (fun k _ hk => by rw [show k = B from hk])) (.inr (by simpa [Value.ownBlock] using hne))
            have hcell : ∃ x, w6.cell? ⟨w3.heap.size, k, none⟩ = some x := ⟨_, (ho6.cellAt k (by omega)).trans (bytesV_get _ k (by rw [mixed_len _ _ _ _ hk]; exact hlt))⟩
            obtain ⟨x, hcell⟩ := hcell
            have hfz := ho6.frozenAt k
            have hval := bval_lt' (rbits st.s (st.at_ + width most + 8 * k) 8)
            rw [rbits_len] at hval
            have hval2 : bval (rbits st.s (st.at_ + width most + 8 * k) 8) < 256 := hval
            have HMS := Lib.hid (mixed_set st.s (st.at_ + width most) n k hlt)
            have HR6 := Lib.hid hr6
            have HO6 := Lib.hid ho6
            have HF6 := Lib.hid (HF5.out.onlyTrans hf6)
            clear hval hr6 ho6 hf6
            simp only
            generalize bval (rbits st.s (st.at_ + width most + 8 * k) 8) = q at *
            go_wp2_with fail
            go_roundw
            case rel =>
              refine ⟨k + 1, by omega, by go_num, ?_, ?_, ?_⟩
              · have e : st.at_ + width most + 8 * (k + 1) = st.at_ + width most + 8 * k + 8 := by omega
                rw [e]
                exact ⟨other_set HR6.out.blk _ (Ne.symm hne), HR6.out.le, HR6.out.sz⟩
              · have hst := (HO6.out.stored k (.int .u8 (q : Int))).1
                rw [bytesV_set, HMS.out] at hst
                exact hst
              · exact HF6.out.setCell (p := ⟨w3.heap.size, k, none⟩) (.inr HF3.out.size) _
            case measure => simp [intOf]; omega
          · have e : k = n := by omega
            subst e
            have hcv := convert_bytes (v := .slice (some ⟨w3.heap.size, 0, none⟩) k k) (l := mixed st.s (st.at_ + width most) k k) (w := wr) (base := 0) (by rw [mixed_len _ _ _ _ hk]; exact HO5.out) (by rw [mixed_full]; exact tbytes_lt _ _ _)
            rw [mixed_full] at hcv
            generalize strOf (tbytes st.s (st.at_ + width most) k) = str at *
            go_wp2_with fail
            go_ret
            rw [HF'.out]
            exact ⟨rfl, HR5.out, HF5.out⟩
end Go.Proofs.Ytelpdihaonoedaa
