/- BitioStops. -/
import Derived.Test.YtgbhmcepokpcaaaFields
namespace Go.Proofs.Ytgbhmcepokpcaaa
open Go.RowKit

def rIter (fs : Nat → Fld) (st : RSt) : Nat → RSt
  | 0 => st
  | k + 1 => (rRead (fs k) (rIter fs st k)).2

/-- Behind an error nothing is left. -/
def RInv (st : RSt) : Prop := st.e ≠ 0 → 8 * (st.s.size : Int) - st.at_ = 0

theorem rBegin_dead (valid : Bool) (size : Int) (st : RSt) (h : st.e ≠ 0) : rBegin valid size st = (false, st) := by simp [rBegin, h]
theorem rBegin_inv (valid : Bool) (size : Int) (st : RSt) (h : RInv st) : RInv (rBegin valid size st).2 := by
  unfold rBegin
  split
  · exact h
  · split
    · intro _; rfl
    · split
      · intro _; rfl
      · exact h
theorem rRead_dead (f : Fld) (st : RSt) (h : st.e ≠ 0) (k0 : 0 ≤ f.kind) (k3 : f.kind ≤ 3) : ∃ wd, rRead f st = (⟨f.kind, wd, 0, ByteArray.empty⟩, st) := by
  have hk : f.kind = 0 ∨ f.kind = 1 ∨ f.kind = 2 ∨ f.kind = 3 := by omega
  rcases hk with hk | hk | hk | hk
  · exact ⟨f.width, by simp [rRead, hk, rUnsigned, rNum, rBegin_dead _ _ st h]⟩
  · exact ⟨f.width, by simp [rRead, hk, rSigned, rBegin_dead _ _ st h]⟩
  · exact ⟨0, by simp [rRead, hk, rFlag, rBegin_dead _ _ st h]⟩
  · exact ⟨f.width, by simp [rRead, hk, rText, rBegin_dead _ _ st h]⟩
theorem rRead_other (f : Fld) (st : RSt) (h : ¬ (0 ≤ f.kind ∧ f.kind ≤ 3)) : rRead f st = (f, st) := by
  unfold rRead
  rw [if_neg (by omega), if_neg (by omega), if_neg (by omega), if_neg (by omega)]
theorem rRead_deadst (f : Fld) (st : RSt) (h : st.e ≠ 0) : (rRead f st).2 = st := by
  by_cases hk : 0 ≤ f.kind ∧ f.kind ≤ 3
  · obtain ⟨_, e⟩ := rRead_dead f st h hk.1 hk.2; rw [e]
  · rw [rRead_other f st hk]
theorem inv_alive {st : RSt} (h : st.e = 0) : RInv st := fun e => absurd h e
theorem rBegin_false {valid : Bool} {size : Int} {st : RSt} (he : st.e = 0) (h : (rBegin valid size st).1 = false) : (rBegin valid size st).2.e ≠ 0 ∧ RInv (rBegin valid size st).2 := by
  unfold rBegin at h ⊢
  rw [if_neg (by simp [he])] at h ⊢
  split
  · exact ⟨by simp, fun _ => rfl⟩
  · rename_i hv
    rw [if_neg hv] at h
    split
    · exact ⟨by simp, fun _ => rfl⟩
    · rename_i hs
      rw [if_neg hs] at h
      cases h
theorem rRead_inv (f : Fld) (st : RSt) (h : RInv st) : RInv (rRead f st).2 := by
  by_cases he : st.e = 0
  · unfold rRead
    split
    · show RInv (rUnsigned f.width st).2
      unfold rUnsigned rNum
      split
      · exact inv_alive he
      · rename_i hb; exact (rBegin_false he (by simpa using hb)).2
    · split
      · show RInv (rSigned f.width st).2
        unfold rSigned
        split
        · exact inv_alive he
        · rename_i hb; exact (rBegin_false he (by simpa using hb)).2
      · split
        · show RInv (rFlag st).2
          unfold rFlag
          split
          · exact inv_alive he
          · rename_i hb; exact (rBegin_false he (by simpa using hb)).2
        · split
          · show RInv (rText f.width st).2
            unfold rText
            split
            · rename_i hb; exact (rBegin_false he hb).2
            · split
              · intro _; rfl
              · split
                · rename_i hb; exact (rBegin_false (st := ⟨st.s, st.at_ + width f.width, st.e⟩) he hb).2
                · exact inv_alive he
          · exact h
  · rw [rRead_deadst f st he]; exact h
theorem rIter_inv (fs : Nat → Fld) (st : RSt) (h : RInv st) : ∀ k, RInv (rIter fs st k)
  | 0 => h
  | k + 1 => rRead_inv _ _ (rIter_inv fs st h k)

set_option maxHeartbeats 4000000 in
set_option maxRecDepth 100000 in
theorem stops_law (s : ByteArray) (ao : Option Addr) (len cap : Nat) (fs : Nat → Fld) (w : World) (hs : s.size ≤ 9223372036854775807) (hl : len ≤ 9223372036854775807) (h : FieldsIn w.heap.size w ao len fs) :
    Calls Try.prog 7 #[.string s, .slice ao len cap] w fun e w' => e = .returned (.bool true) ∧ Below w.heap.size w w' := by
  go_enter Try.func7, Try.ntmps7
  go_wp2_with fail
  refine (awake_any w).mono ?_
  rintro e w1 ⟨rfl, b1⟩
  have B1 := Lib.hid b1
  clear b1
  by_cases hs3 : s.size ≤ 300
  · go_wp2_with fail
    refine (few_any w.heap.size ao len cap fs w1 hl B1.out.size (h.below B1.out)).mono ?_
    rintro e w2 ⟨rfl, b2⟩
    have B2 := Lib.hid (B1.out.trans (b2.mono B1.out.size))
    clear b2
    cases hfew : fewB fs len
    · go_wp2_with fail
      go_ret
      exact ⟨rfl, B2.out⟩
    · have HFW := Lib.hid hfew
      clear hfew
      go_wp2_with fail
      refine (newReader_any s w2 (by omega)).mono ?_
      rintro e w3 ⟨rfl, h3, a3⟩
      have hnew : rNew s = ⟨s, 0, 0⟩ := by unfold rNew; rw [if_neg (by omega)]
      rw [hnew] at h3
      have H3 := Lib.hid h3
      have B3 := Lib.hid (B2.out.trans (a3.belowNone B2.out.size))
      have HR : Hid (w.heap.size ≤ w2.heap.size) := Lib.hid B2.out.size
      have HINV := Lib.hid (rIter_inv fs ⟨s, 0, 0⟩ (inv_alive rfl))
      clear h3 a3 hnew
      go_wp2_with fail
      go_loopw [6, 26] (fun fi i wr => ∃ k : Nat, k ≤ len ∧ i = .int .i64 k ∧ fi = .int .i64 (rIter fs ⟨s, 0, 0⟩ k).e ∧ RdS wr w2.heap.size (rIter fs ⟨s, 0, 0⟩ k) ∧ Below w.heap.size w wr) (fun _ i _ => len - (intOf i).toNat)
      case atStart => exact ⟨0, Nat.zero_le _, rfl, rfl, H3.out, B3.out⟩
      case round =>
        obtain ⟨k, hk, rfl, rfl, hr, hb⟩ := hrel
        have HRD := Lib.hid hr
        have HB := Lib.hid hb
        clear hr hb
        by_cases hlt : k < len
        · obtain ⟨ok, b, off, rfl, hblt, c0, c1, c2, c3⟩ := (h.below HB.out) k hlt
          have HST := Lib.hid (show rIter fs ⟨s, 0, 0⟩ (k + 1) = (rRead (fs k) (rIter fs ⟨s, 0, 0⟩ k)).2 from rfl)
          have hinv := HINV.out (k + 1)
          rw [HST.out] at hinv
          have HI := Lib.hid hinv
          have HOK := Lib.hid ok
          clear h hinv ok
          generalize rIter fs ⟨s, 0, 0⟩ k = st at *
          generalize hfk : fs k = f at *
          clear hfk
          go_wp2_with fail
          have hB0 := lt_of_blk HRD.out.blk
          refine (read_any _ st f _ HOK.out (HRD.out.alloc _)).mono ?_
          rintro e w4 ⟨rfl, h4, a4⟩
          have hbx : w4.heap[wr.heap.size]? = some (.cells #[.int .i64 f.kind, .int .i64 f.width, .int .i64 f.n, .string f.s] 30 (0, 0)) := a4.blk (heap_alloc_new wr _) (by simp only [only]; omega)
          obtain ⟨d0, d1, d2, d3, _, _, _, _⟩ := four_cells hbx
          have H4 := Lib.hid h4
          have B4 := Lib.hid ((HB.out.alloc HB.out.size _).trans (a4.belowOnly (by have := HB.out.size; simp; omega) HR.out))
          have hsz4 : wr.heap.size < w4.heap.size := lt_of_blk hbx
          clear h4 a4 hbx
          simp only [Fld.val]
          by_cases e0 : st.e = 0
          · have hb0 : (st.e != 0) = false := by simp [e0]
            generalize (rRead f st).1 = x at *
            generalize (rRead f st).2 = st' at *
            clear e0
            go_wp2_with fail
            have HRX := Lib.hid (H4.out.alloc (.cells #[.int .i64 x.kind, .int .i64 x.width, .int .i64 x.n, .string x.s] 30))
            have BX := Lib.hid (B4.out.alloc B4.out.size (.cells #[.int .i64 x.kind, .int .i64 x.width, .int .i64 x.n, .string x.s] 30))
            refine (err_any _ _ _ HRX.out).mono ?_
            rintro e w' ⟨rfl, hw⟩
            rw [hw]
            clear hw w'
            by_cases e1 : st'.e = 0
            · have hb1 : (st'.e != 0) = false := by simp [e1]
              clear e1
              go_wp2_with fail
              go_roundw
              case rel => exact ⟨k + 1, by omega, by go_num, by rw [HST.out], by rw [HST.out]; exact HRX.out, BX.out⟩
              case measure => simp [intOf]; omega
            · have hb1 : (st'.e != 0) = true := by simp [e1]
              have HL0 := Lib.hid (HI.out e1)
              have HCL := Lib.hid (show rClose st' = st'.e by simp [rClose, e1])
              clear e1
              go_wp2_with fail
              refine (left_any _ _ _ HRX.out).mono ?_
              rw [HL0.out]
              rintro e w6 ⟨rfl, hw6⟩
              have HR6 := Lib.hid (show RdS w6 w2.heap.size st' by rw [hw6]; exact HRX.out.drew)
              have B6 := Lib.hid (show Below w.heap.size w w6 by rw [hw6]; exact BX.out.drew)
              clear hw6
              go_wp2_with fail
              refine (rClose_any _ _ _ HR6.out).mono ?_
              rw [HCL.out]
              rintro e w7 ⟨rfl, a7⟩
              have HR7 := Lib.hid (HR6.out.kept a7 (fun h => h))
              have B7 := Lib.hid (B6.out.trans (a7.belowNone B6.out.size))
              clear a7
              go_wp2_with fail
              go_roundw
              case rel => exact ⟨k + 1, by omega, by go_num, by rw [HST.out], by rw [HST.out]; exact HR7.out, B7.out⟩
              case measure => simp [intOf]; omega
          · have hb1 : (st.e != 0) = true := by simp [e0]
            have hst := rRead_deadst f st e0
            have HCL := Lib.hid (show rClose st = st.e by simp [rClose, e0])
            have HL0 : Hid (8 * (st.s.size : Int) - st.at_ = 0) := by have := HI.out; rw [hst] at this; exact Lib.hid (this e0)
            have H4' : Hid (RdS w4 w2.heap.size st) := by have := H4.out; rw [hst] at this; exact Lib.hid this
            have HST' : Hid (rIter fs ⟨s, 0, 0⟩ (k + 1) = st) := by have := HST.out; rw [hst] at this; exact Lib.hid this
            clear HI H4 HST hst
            by_cases hkr : 0 ≤ f.kind ∧ f.kind ≤ 3
            · obtain ⟨wd, hx⟩ := rRead_dead f st e0 hkr.1 hkr.2
              obtain ⟨k0, k3⟩ := hkr
              rw [hx]
              clear hx e0
              simp only
              go_wp2_with fail
              have HRX := Lib.hid (H4'.out.alloc (.cells #[.int .i64 f.kind, .int .i64 wd, .int .i64 0, .string ByteArray.empty] 30))
              have BX := Lib.hid (B4.out.alloc B4.out.size (.cells #[.int .i64 f.kind, .int .i64 wd, .int .i64 0, .string ByteArray.empty] 30))
              refine (err_any _ _ _ HRX.out).mono ?_
              rintro e w' ⟨rfl, hw⟩
              rw [hw]
              clear hw w'
              go_wp2_with fail
              refine (err_any _ _ _ HRX.out).mono ?_
              rintro e w' ⟨rfl, hw⟩
              rw [hw]
              clear hw w'
              go_wp2_with fail
              refine (left_any _ _ _ HRX.out).mono ?_
              rw [HL0.out]
              rintro e w6 ⟨rfl, hw6⟩
              have HR6 := Lib.hid (show RdS w6 w2.heap.size st by rw [hw6]; exact HRX.out.drew)
              have B6 := Lib.hid (show Below w.heap.size w w6 by rw [hw6]; exact BX.out.drew)
              clear hw6
              go_wp2_with fail
              refine (rClose_any _ _ _ HR6.out).mono ?_
              rw [HCL.out]
              rintro e w7 ⟨rfl, a7⟩
              have HR7 := Lib.hid (HR6.out.kept a7 (fun h => h))
              have B7 := Lib.hid (B6.out.trans (a7.belowNone B6.out.size))
              clear a7
              go_wp2_with fail
              go_roundw
              case rel => exact ⟨k + 1, by omega, by go_num, by rw [HST'.out], by rw [HST'.out]; exact HR7.out, B7.out⟩
              case measure => simp [intOf]; omega
            · have hx := rRead_other f st hkr
              rw [hx]
              clear hx e0
              simp only
              by_cases hk1 : f.kind < 0
              · clear hkr
                go_wp2_with fail
                have HRX := Lib.hid (H4'.out.alloc (.cells #[.int .i64 f.kind, .int .i64 f.width, .int .i64 f.n, .string f.s] 30))
                have BX := Lib.hid (B4.out.alloc B4.out.size (.cells #[.int .i64 f.kind, .int .i64 f.width, .int .i64 f.n, .string f.s] 30))
                refine (err_any _ _ _ HRX.out).mono ?_
                rintro e w' ⟨rfl, hw⟩
                rw [hw]
                clear hw w'
                go_wp2_with fail
                refine (err_any _ _ _ HRX.out).mono ?_
                rintro e w' ⟨rfl, hw⟩
                rw [hw]
                clear hw w'
                go_wp2_with fail
                refine (left_any _ _ _ HRX.out).mono ?_
                rw [HL0.out]
                rintro e w6 ⟨rfl, hw6⟩
                have HR6 := Lib.hid (show RdS w6 w2.heap.size st by rw [hw6]; exact HRX.out.drew)
                have B6 := Lib.hid (show Below w.heap.size w w6 by rw [hw6]; exact BX.out.drew)
                clear hw6
                go_wp2_with fail
                refine (rClose_any _ _ _ HR6.out).mono ?_
                rw [HCL.out]
                rintro e w7 ⟨rfl, a7⟩
                have HR7 := Lib.hid (HR6.out.kept a7 (fun h => h))
                have B7 := Lib.hid (B6.out.trans (a7.belowNone B6.out.size))
                clear a7
                go_wp2_with fail
                go_roundw
                case rel => exact ⟨k + 1, by omega, by go_num, by rw [HST'.out], by rw [HST'.out]; exact HR7.out, B7.out⟩
                case measure => simp [intOf]; omega
              · have hk2 : 3 < f.kind := by omega
                clear hkr
                go_wp2_with fail
                have HRX := Lib.hid (H4'.out.alloc (.cells #[.int .i64 f.kind, .int .i64 f.width, .int .i64 f.n, .string f.s] 30))
                have BX := Lib.hid (B4.out.alloc B4.out.size (.cells #[.int .i64 f.kind, .int .i64 f.width, .int .i64 f.n, .string f.s] 30))
                refine (err_any _ _ _ HRX.out).mono ?_
                rintro e w' ⟨rfl, hw⟩
                rw [hw]
                clear hw w'
                go_wp2_with fail
                refine (err_any _ _ _ HRX.out).mono ?_
                rintro e w' ⟨rfl, hw⟩
                rw [hw]
                clear hw w'
                go_wp2_with fail
                refine (left_any _ _ _ HRX.out).mono ?_
                rw [HL0.out]
                rintro e w6 ⟨rfl, hw6⟩
                have HR6 := Lib.hid (show RdS w6 w2.heap.size st by rw [hw6]; exact HRX.out.drew)
                have B6 := Lib.hid (show Below w.heap.size w w6 by rw [hw6]; exact BX.out.drew)
                clear hw6
                go_wp2_with fail
                refine (rClose_any _ _ _ HR6.out).mono ?_
                rw [HCL.out]
                rintro e w7 ⟨rfl, a7⟩
                have HR7 := Lib.hid (HR6.out.kept a7 (fun h => h))
                have B7 := Lib.hid (B6.out.trans (a7.belowNone B6.out.size))
                clear a7
                go_wp2_with fail
                go_roundw
                case rel => exact ⟨k + 1, by omega, by go_num, by rw [HST'.out], by rw [HST'.out]; exact HR7.out, B7.out⟩
                case measure => simp [intOf]; omega
        · go_wp2_with fail
          refine (err_any _ _ _ HRD.out).mono ?_
          rintro e w' ⟨rfl, hw⟩
          rw [hw]
          clear hw w'
          go_wp2_with fail
          go_ret
          exact ⟨by simp, HB.out⟩
  · go_wp2_with fail
    go_ret
    exact ⟨rfl, B1.out⟩
end Go.Proofs.Ytgbhmcepokpcaaa
