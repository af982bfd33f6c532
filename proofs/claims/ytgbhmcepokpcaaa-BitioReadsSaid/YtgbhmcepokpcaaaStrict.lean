/- BitioStrict. -/
import Derived.Test.YtgbhmcepokpcaaaMath2
namespace Go.Proofs.Ytgbhmcepokpcaaa
open Go.RowKit

theorem bval_63 (s : ByteArray) (a k : Nat) (h : k ≤ 63) : (bval (rbits s a k) : Int) ≤ 9223372036854775807 := by
  have h1 := bval_lt' (rbits s a k)
  rw [rbits_len] at h1
  have h2 : 2 ^ k ≤ 9223372036854775808 := Nat.pow_le_pow_right (n := 2) (by decide) h
  omega
theorem rRead_ok (f : Fld) (st : RSt) (ok : f.Ok) : (rRead f st).1.Ok ∧ ((rRead f st).1.s.size ≤ 4095 ∨ (rRead f st).1.s = f.s) := by
  obtain ⟨k1, k2, w1, w2, n1, n2, s1⟩ := ok
  have he : ByteArray.empty.size = 0 := rfl
  unfold rRead
  by_cases c0 : f.kind = 0
  · rw [if_pos c0]
    refine ⟨⟨k1, k2, w1, w2, ?_, ?_, by rw [he]; omega⟩, .inl (by rw [he]; omega)⟩
    all_goals (simp only [rUnsigned, rNum]; split)
    · simp only; omega
    · simp only; omega
    · rename_i hb
      have := between_iff (rBegin_true hb).2.1
      exact bval_63 _ _ _ (by omega)
    · simp only; omega
  rw [if_neg c0]
  by_cases c1 : f.kind = 1
  · rw [if_pos c1]
    refine ⟨⟨k1, k2, w1, w2, ?_, ?_, by rw [he]; omega⟩, .inl (by rw [he]; omega)⟩
    all_goals (simp only [rSigned]; split)
    · rename_i hb
      have hw := between_iff (rBegin_true hb).2.1
      have hv := bval_lt' (rbits st.s st.at_ f.width.toNat)
      rw [rbits_len] at hv
      have g := (sval_range f.width.toNat _ (by omega) hv).1
      have hp : 2 ^ (f.width.toNat - 1) ≤ 4611686018427387904 := Nat.pow_le_pow_right (n := 2) (by decide) (show f.width.toNat - 1 ≤ 62 by omega)
      have e : (2 : Int) ^ (f.width.toNat - 1) = ((2 ^ (f.width.toNat - 1) : Nat) : Int) := by rw [Int.natCast_pow]; rfl
      rw [e] at g
      generalize 2 ^ (f.width.toNat - 1) = P at *
      simp only
      omega
    · simp only; omega
    · rename_i hb
      have hw := between_iff (rBegin_true hb).2.1
      have hv := bval_lt' (rbits st.s st.at_ f.width.toNat)
      rw [rbits_len] at hv
      have g := (sval_range f.width.toNat _ (by omega) hv).2.1
      have hp : 2 ^ (f.width.toNat - 1) ≤ 4611686018427387904 := Nat.pow_le_pow_right (n := 2) (by decide) (show f.width.toNat - 1 ≤ 62 by omega)
      have e : (2 : Int) ^ (f.width.toNat - 1) = ((2 ^ (f.width.toNat - 1) : Nat) : Int) := by rw [Int.natCast_pow]; rfl
      rw [e] at g
      generalize 2 ^ (f.width.toNat - 1) = P at *
      simp only
      omega
    · simp only; omega
  rw [if_neg c1]
  by_cases c2 : f.kind = 2
  · rw [if_pos c2]
    refine ⟨⟨k1, k2, by simp only; omega, by simp only; omega, ?_, ?_, by rw [he]; omega⟩, .inl (by rw [he]; omega)⟩
    all_goals (simp only; split <;> omega)
  rw [if_neg c2]
  by_cases c3 : f.kind = 3
  · rw [if_pos c3]
    have hsz : (rText f.width st).1.size ≤ 4095 := by
      unfold rText
      split
      · rw [he]; omega
      · rename_i hb
        have hb' : (rBegin (between 1 4095 f.width) (width f.width) st).1 = true := by simpa using hb
        have hw := between_iff (rBegin_true hb').2.1
        split
        · rw [he]; omega
        · split
          · rw [he]; omega
          · rw [strOf_size, tbytes_len]; omega
    exact ⟨⟨k1, k2, w1, w2, by simp only; omega, by simp only; omega, by simp only; omega⟩, .inl hsz⟩
  · rw [if_neg c3]
    exact ⟨⟨k1, k2, w1, w2, n1, n2, s1⟩, .inr rfl⟩
theorem few_size (fs : Nat → Fld) (len k : Nat) (h : fewB fs len = true) (hk : k < len) : (fs k).s.size ≤ 200 := by
  simp only [fewB, fewTo, Bool.and_eq_true, List.all_eq_true, List.mem_range, decide_eq_true_eq] at h
  exact h.2 k hk

set_option maxHeartbeats 4000000 in
set_option maxRecDepth 100000 in
theorem strict_law (s : ByteArray) (ao : Option Addr) (len cap : Nat) (fs : Nat → Fld) (w : World) (hs : s.size ≤ 9223372036854775807) (hl : len ≤ 9223372036854775807) (h : FieldsIn w.heap.size w ao len fs) :
    Calls Try.prog 6 #[.string s, .slice ao len cap] w fun e w' => e = .returned (.bool true) ∧ Below w.heap.size w w' := by
  go_enter Try.func6, Try.ntmps6
  go_wp2_with fail
  refine (awake_any w).mono ?_
  rintro e w1 ⟨rfl, b1⟩
  have B1 := Lib.hid b1
  clear b1
  by_cases hs3 : s.size ≤ 300
  · go_wp2_with fail
    refine (few_any w.heap.size ao len cap fs w1 hl B1.out.size (h.below B1.out)).mono ?_
    rintro e w2 ⟨rfl, b2⟩
    have B2 := Lib.hid (B1.out.trans (b2.mono B1.out.size))
    clear b2
    cases hfew : fewB fs len
    · go_wp2_with fail
      go_ret
      exact ⟨rfl, B2.out⟩
    · have HFW := Lib.hid hfew
      clear hfew
      go_wp2_with fail
      refine (newReader_any s w2 (by omega)).mono ?_
      rintro e w3 ⟨rfl, h3, a3⟩
      have hnew : rNew s = ⟨s, 0, 0⟩ := by unfold rNew; rw [if_neg (by omega)]
      rw [hnew] at h3
      have B3 := Lib.hid (B2.out.trans (a3.belowNone B2.out.size))
      have hsz3 : w2.heap.size < w3.heap.size := lt_of_blk h3.blk
      have H3 := Lib.hid h3
      clear h3 a3 hnew
      go_wp2_with fail
      refine (newWriter_any w3).mono ?_
      rintro e w4 ⟨rfl, hw4⟩
      have h4 := newWriter_st w.heap.size w3 B3.out.size
      rw [← hw4] at h4
      have B4 := Lib.hid (show Below w.heap.size w w4 by rw [hw4]; exact B3.out.alloc B3.out.size _)
      have R4 := Lib.hid (show RdS w4 w2.heap.size ⟨s, 0, 0⟩ by rw [hw4]; exact H3.out.alloc _)
      have H4 := Lib.hid h4
      have HR : Hid (w.heap.size ≤ w2.heap.size) := Lib.hid B2.out.size
      clear h4 hw4
      go_wp2_with fail
      go_loopw [33] (fun i wr => ∃ (k : Nat) (v : Value), k ≤ len ∧ i = .int .i64 k ∧ RdS wr w2.heap.size (rIter fs ⟨s, 0, 0⟩ k) ∧ WrS w.heap.size wr w3.heap.size v (wIter fs ⟨s, 0, 0⟩ ⟨[], 0⟩ k) ∧ Hid (v.ownBlock ≠ some w2.heap.size) ∧ Below w.heap.size w wr) (fun i _ => len - (intOf i).toNat)
      case atStart => exact ⟨0, _, Nat.zero_le _, rfl, R4.out, H4.out, by simp [Value.ownBlock, Hid], B4.out⟩
      case round =>
        obtain ⟨k, v, hk, rfl, hr, hw, HNE, hb⟩ := hrel
        have HRD := Lib.hid hr
        have HWR := Lib.hid hw
        have HB := Lib.hid hb
        clear hr hw hb
        by_cases hlt : k < len
        · obtain ⟨ok, b, off, rfl, hblt, c0, c1, c2, c3⟩ := (h.below HB.out) k hlt
          have HST := Lib.hid (show rIter fs ⟨s, 0, 0⟩ (k + 1) = (rRead (fs k) (rIter fs ⟨s, 0, 0⟩ k)).2 from rfl)
          have HWT := Lib.hid (show wIter fs ⟨s, 0, 0⟩ ⟨[], 0⟩ (k + 1) = wWrite (rRead (fs k) (rIter fs ⟨s, 0, 0⟩ k)).1 (wIter fs ⟨s, 0, 0⟩ ⟨[], 0⟩ k) from rfl)
          have hxok := rRead_ok (fs k) (rIter fs ⟨s, 0, 0⟩ k) ok
          have hxs : (rRead (fs k) (rIter fs ⟨s, 0, 0⟩ k)).1.s.size ≤ 140737488355328 := by
            have := few_size fs len k HFW.out hlt
            rcases hxok.2 with h | h
            · omega
            · rw [h]; omega
          have HXOK := Lib.hid hxok.1
          have HXS := Lib.hid hxs
          have HOK := Lib.hid ok
          clear h ok hxok hxs
          generalize wIter fs ⟨s, 0, 0⟩ ⟨[], 0⟩ k = ws at *
          generalize rIter fs ⟨s, 0, 0⟩ k = st at *
          generalize hfk : fs k = f at *
          clear hfk
          have hB0 := lt_of_blk HRD.out.blk
          go_wp2_with fail
          refine (read_any _ st f _ HOK.out (HRD.out.alloc _)).mono ?_
          rintro e w5 ⟨rfl, h5, a5⟩
          have hbx : w5.heap[wr.heap.size]? = some (.cells #[.int .i64 f.kind, .int .i64 f.width, .int .i64 f.n, .string f.s] 30 (0, 0)) := a5.blk (heap_alloc_new wr _) (by simp only [only]; omega)
          obtain ⟨d0, d1, d2, d3, _, _, _, _⟩ := four_cells hbx
          have h5w : WrS w.heap.size w5 w3.heap.size v ws := (HWR.out.alloc _).kept a5 (by simp only [only]; omega) (fun j hj hs => HNE.out (by rw [hj]; congr 1))
          have R5 := Lib.hid h5
          have W5 := Lib.hid h5w
          have B5 := Lib.hid ((HB.out.alloc HB.out.size _).trans (a5.belowOnly (by have := HB.out.size; simp; omega) HR.out))
          have hsz5 : wr.heap.size < w5.heap.size := lt_of_blk hbx
          clear h5 a5 hbx h5w
          simp only [Fld.val]
          generalize (rRead f st).1 = x at *
          generalize (rRead f st).2 = st' at *
          go_wp2_with fail
          have WX := W5.out.alloc (.cells #[.int .i64 x.kind, .int .i64 x.width, .int .i64 x.n, .string x.s] 30)
          refine (write_any _ _ _ ws x _ HXOK.out HXS.out WX).mono ?_
          rintro e w6 ⟨rfl, v6, h6, a6⟩
          have hBR := lt_of_blk R5.out.blk
          have r6 : RdS w6 w2.heap.size st' := (R5.out.alloc _).kept a6.fr (by
            rintro (hj | hj)
            · omega
            · exact HNE.out hj)
          have ne6 : v6.ownBlock ≠ some w2.heap.size := fun hj => by
            rcases a6.row _ hj with hj | hj
            · exact HNE.out hj
            · simp at hj; omega
          have R6 := Lib.hid r6
          have NE6 := Lib.hid ne6
          have B6 := Lib.hid ((B5.out.alloc B5.out.size _).trans (a6.below WX))
          have W6 := Lib.hid h6
          clear h6 a6 r6 ne6 WX
          go_wp2_with fail
          go_roundw
          case rel => exact ⟨k + 1, v6, by omega, by go_num, by rw [HST.out]; exact R6.out, by rw [HWT.out]; exact W6.out, NE6.out, B6.out⟩
          case measure => simp [intOf]; omega
        · have ek : k = len := by omega
          subst ek
          go_wp2_with fail
          refine (rClose_any _ _ _ HRD.out).mono ?_
          rintro e w5 ⟨rfl, a5⟩
          have B5 := Lib.hid (HB.out.trans (a5.belowNone HB.out.size))
          have W5 := Lib.hid (HWR.out.kept a5 (fun h => h) (fun _ _ h => h))
          clear a5
          by_cases hz : rClose (rIter fs ⟨s, 0, 0⟩ k) = 0
          · have he : (rIter fs ⟨s, 0, 0⟩ k).e = 0 := by
              unfold rClose at hz
              split at hz
              · exact absurd hz (by assumption)
              · rename_i h; simpa using h
            obtain ⟨a, e1, e2, e3⟩ := strict_iter fs s (by omega) k he
            have hcl := closed_bytes s a e2 (by rw [← e1]; exact hz)
            have W5' : Hid (WrS w.heap.size w5 w3.heap.size v ⟨rbits s 0 a, 0⟩) := by have := W5.out; rw [e3] at this; exact Lib.hid this
            have HCL := Lib.hid hcl
            rw [hz]
            clear W5 hcl e1 e2 e3 he hz h
            go_wp2_with fail
            refine (bytes_any _ _ _ _ _ W5'.out).mono ?_
            rw [HCL.out]
            rintro e w6 ⟨rfl, k6, hw6⟩
            have B6 := Lib.hid (show Below w.heap.size w w6 by subst hw6; exact ⟨B5.out.os, B5.out.tape, B5.out.output, B5.out.size, B5.out.block⟩)
            clear hw6
            go_wp2_with fail
            go_ret
            exact ⟨rfl, B6.out⟩
          · have hzb : (rClose (rIter fs ⟨s, 0, 0⟩ k) != 0) = true := by simpa using hz
            generalize rClose (rIter fs ⟨s, 0, 0⟩ k) = q at *
            clear hz h
            go_wp2_with fail
            go_ret
            exact ⟨rfl, B5.out⟩
  · go_wp2_with fail
    go_ret
    exact ⟨rfl, B1.out⟩
end Go.Proofs.Ytgbhmcepokpcaaa
