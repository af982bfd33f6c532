/- BitioReads. -/
import Derived.Test.YtgbhmcepokpcaaaRefR4
import Derived.Test.YtgbhmcepokpcaaaStops
namespace Go.Proofs.Ytgbhmcepokpcaaa
open Go.RowKit

theorem RdR.set {w : World} {B : Nat} {st : RSt} (h : RdR w B st) {p : Addr} (hp : B ≠ p.block) (u : Value) : RdR (w.setCell p u) B st := ⟨(Below.heap_setCell w p u B hp).trans h.blk, h.le, h.sz⟩

theorem two_boxes {w w1 : World} {B : Nat} {a b c d a' b' c' d' : Value} (hB : B < w.heap.size) (hf : Fr (only B) ((w.alloc (.cells #[a, b, c, d] 30)).alloc (.cells #[a', b', c', d'] 30)) w1) :
    w1.heap[w.heap.size]? = some (.cells #[a, b, c, d] 30 (0, 0)) ∧ w1.heap[w.heap.size + 1]? = some (.cells #[a', b', c', d'] 30 (0, 0)) ∧ Fr (only B) w w1 :=
  ⟨hf.blk (by rw [Below.heap_alloc _ _ _ (by simp)]; exact heap_alloc_new w _) (by simp only [only]; omega),
   hf.blk (by have := heap_alloc_new (w.alloc (.cells #[a, b, c, d] 30)) (.cells #[a', b', c', d'] 30); simpa using this) (by simp only [only]; omega),
   (((Fr.refl (only B) w).alloc _).alloc _).onlyTrans hf⟩

set_option maxHeartbeats 4000000 in
set_option maxRecDepth 100000 in
theorem reads_law (s : ByteArray) (ao : Option Addr) (len cap : Nat) (fs : Nat → Fld) (w : World) (hs : s.size ≤ 9223372036854775807) (hl : len ≤ 9223372036854775807) (h : FieldsIn w.heap.size w ao len fs) :
    Calls Try.prog 4 #[.string s, .slice ao len cap] w fun e w' => e = .returned (.bool true) ∧ Below w.heap.size w w' := by
  go_enter Try.func4, Try.ntmps4
  go_wp2_with fail
  refine (awake_any w).mono ?_
  rintro e w1 ⟨rfl, b1⟩
  have B1 := Lib.hid b1
  clear b1
  by_cases hs3 : s.size ≤ 300
  · go_wp2_with fail
    refine (few_any w.heap.size ao len cap fs w1 hl B1.out.size (h.below B1.out)).mono ?_
    rintro e w2 ⟨rfl, b2⟩
    have B2 := Lib.hid (B1.out.trans (b2.mono B1.out.size))
    clear b2
    cases hfew : fewB fs len
    · go_wp2_with fail
      go_ret
      exact ⟨rfl, B2.out⟩
    · clear hfew
      go_wp2_with fail
      refine (newReader_any s w2 (by omega)).mono ?_
      rintro e w3 ⟨rfl, h3, a3⟩
      have hnew : rNew s = ⟨s, 0, 0⟩ := by unfold rNew; rw [if_neg (by omega)]
      have B3 := Lib.hid (B2.out.trans (a3.belowNone B2.out.size))
      go_wp2_with fail
      refine (newReaderR_any s w3 (by omega)).mono ?_
      rintro e w4 ⟨rfl, h4, a4⟩
      rw [hnew] at h3 h4
      have H3 := Lib.hid (h3.kept a4 (fun h => h))
      have B4 := Lib.hid (B3.out.trans (a4.belowNone B3.out.size))
      have H4 := Lib.hid h4
      have hr23 : w2.heap.size < w3.heap.size := lt_of_blk h3.blk
      have HR : Hid (w.heap.size ≤ w2.heap.size) := Lib.hid B2.out.size
      clear h3 h4 a3 a4 hnew
      go_wp2_with fail
      go_loopw [29] (fun i wr => ∃ k : Nat, k ≤ len ∧ i = .int .i64 k ∧ RdS wr w2.heap.size (rIter fs ⟨s, 0, 0⟩ k) ∧ RdR wr w3.heap.size (rIter fs ⟨s, 0, 0⟩ k) ∧ Below w.heap.size w wr) (fun i _ => len - (intOf i).toNat)
      case atStart => exact ⟨0, Nat.zero_le _, rfl, H3.out, H4.out, B4.out⟩
      case round =>
        obtain ⟨k, hk, rfl, hr, hq, hb⟩ := hrel
        have HRD := Lib.hid hr
        have HRF := Lib.hid hq
        have HB := Lib.hid hb
        have hb2 : w2.heap.size < wr.heap.size := lt_of_blk hr.blk
        have hb3 : w3.heap.size < wr.heap.size := lt_of_blk hq.blk
        clear hr hb hq
        by_cases hlt : k < len
        · obtain ⟨ok, b, off, rfl, hblt, c0, c1, c2, c3⟩ := (h.below HB.out) k hlt
          have HST := Lib.hid (show rIter fs ⟨s, 0, 0⟩ (k + 1) = (rRead (fs k) (rIter fs ⟨s, 0, 0⟩ k)).2 from rfl)
          have HOK := Lib.hid ok
          clear h ok
          generalize rIter fs ⟨s, 0, 0⟩ k = st at *
          generalize hfk : fs k = f at *
          clear hfk
          go_wp2_with fail
          refine (read_any _ st f _ HOK.out (HRD.out.alloc _)).mono ?_
          rintro e w5 ⟨rfl, h5, a5⟩
          have hbx : w5.heap[wr.heap.size]? = some (.cells #[.int .i64 f.kind, .int .i64 f.width, .int .i64 f.n, .string f.s] 30 (0, 0)) := a5.blk (heap_alloc_new wr _) (by simp only [only]; omega)
          obtain ⟨d0, d1, d2, d3, _, _, _, _⟩ := four_cells hbx
          have H5 := Lib.hid h5
          have R5 := Lib.hid ((HRF.out.alloc (.cells #[.int .i64 f.kind, .int .i64 f.width, .int .i64 f.n, .string f.s] 30)).kept a5 (by simp only [only]; omega))
          have B5 := Lib.hid ((HB.out.alloc HB.out.size _).trans (a5.belowOnly (by have := HB.out.size; simp; omega) HR.out))
          have hsz5 : wr.heap.size < w5.heap.size := lt_of_blk hbx
          clear h5 a5 hbx
          have hrz : w.heap.size ≤ w2.heap.size := HR.out
          simp only [Fld.val]
          obtain ⟨kind, wd, n, s0⟩ := f
          obtain ⟨k1, k2, x1, x2, n1, n2, s1⟩ := HOK.out
          simp only at k1 k2 x1 x2 n1 n2 s1 d0 d1 d2 d3
          by_cases eo0 : kind = 0
          · subst eo0
            have hx : rRead ⟨0, wd, n, s0⟩ st = (⟨0, wd, (rUnsigned wd st).1, ByteArray.empty⟩, (rUnsigned wd st).2) := by simp [rRead]
            rw [hx] at HST H5
            rw [hx]
            clear hx
            have HCR := Lib.hid (fun w h => rUnsignedR_any w3.heap.size st wd w h)
            generalize rUnsigned wd st = rr at *
            obtain ⟨y, st'⟩ := rr
            simp only at HCR H5 HST ⊢
            go_wp2_with fail
            refine (HCR.out _ (((R5.out.alloc _).alloc _))).mono ?_
            rintro e w6 ⟨rfl, h6, a6⟩
            have ha := two_boxes (by omega) a6
            have HX := Lib.hid ha
            obtain ⟨p0, p1, p2, p3, _, _, _, _⟩ := four_cells ha.1
            obtain ⟨q0, q1, q2, q3, r0, r1, r2, r3⟩ := four_cells ha.2.1
            have H6 := Lib.hid (((H5.out.alloc (.cells #[.int .i64 0, .int .i64 wd, .int .i64 y, .string ByteArray.empty] 30)).alloc (.cells #[.int .i64 0, .int .i64 wd, .int .i64 n, .string s0] 30)).kept a6 (by simp only [only]; omega))
            have R6 := Lib.hid h6
            have B6 := Lib.hid (B5.out.trans (ha.2.2.belowOnly (by have := B5.out.size; omega) (by have := HR.out; omega)))
            clear a6 h6 ha
            go_wp2_with fail
            refine (left_any _ _ _ ((H6.out.set (by simp; omega) _).set (by simp; omega) _)).mono ?_
            rintro e w8 ⟨rfl, hw8⟩
            have H8 := Lib.hid (show RdS w8 w2.heap.size st' by rw [hw8]; exact (((H6.out.set (by simp; omega) _).set (by simp; omega) _)).drew)
            have R8 := Lib.hid (show RdR w8 w3.heap.size st' by rw [hw8]; exact (((R6.out.set (by simp; omega) _).set (by simp; omega) _)).drew)
            have B8 := Lib.hid (show Below w.heap.size w w8 by rw [hw8]; exact (((B6.out.setCell (by simp; omega) _).setCell (by simp; omega) _)).drew)
            clear hw8
            go_wp2_with fail
            refine (leftR_any _ _ _ R8.out).mono ?_
            rintro e w9 ⟨rfl, hw9⟩
            have H9 := Lib.hid (show RdS w9 w2.heap.size st' by rw [hw9]; exact H8.out.drew)
            have R9 := Lib.hid (show RdR w9 w3.heap.size st' by rw [hw9]; exact R8.out.drew)
            have B9 := Lib.hid (show Below w.heap.size w w9 by rw [hw9]; exact B8.out.drew)
            clear hw9
            go_wp2_with fail
            refine (err_any _ _ _ H9.out).mono ?_
            rintro e w' ⟨rfl, hw⟩
            rw [hw]
            clear hw w'
            go_wp2_with fail
            refine (errR_any _ _ _ R9.out).mono ?_
            rintro e w' ⟨rfl, hw⟩
            rw [hw]
            clear hw w'
            go_wp2_with fail
            refine (rClose_any _ _ _ H9.out).mono ?_
            rintro e wA ⟨rfl, aA⟩
            have HA := Lib.hid (H9.out.kept aA (fun h => h))
            have RA := Lib.hid (R9.out.kept aA (fun h => h))
            have BA := Lib.hid (B9.out.trans (aA.belowNone B9.out.size))
            clear aA
            go_wp2_with fail
            refine (rCloseR_any _ _ _ RA.out).mono ?_
            rintro e wB ⟨rfl, aB⟩
            have HC := Lib.hid (HA.out.kept aB (fun h => h))
            have RC := Lib.hid (RA.out.kept aB (fun h => h))
            have BC := Lib.hid (BA.out.trans (aB.belowNone BA.out.size))
            clear aB
            go_wp2_with fail
            go_roundw
            case rel => exact ⟨k + 1, by omega, by go_num, by rw [HST.out]; exact HC.out, by rw [HST.out]; exact RC.out, BC.out⟩
            case measure => simp [intOf]; omega
          by_cases eo1 : kind = 1
          · subst eo1
            have hx : rRead ⟨1, wd, n, s0⟩ st = (⟨1, wd, (rSigned wd st).1, ByteArray.empty⟩, (rSigned wd st).2) := by simp [rRead]
            rw [hx] at HST H5
            rw [hx]
            clear hx
            have HCR := Lib.hid (fun w h => rSignedR_any w3.heap.size st wd w h)
            generalize rSigned wd st = rr at *
            obtain ⟨y, st'⟩ := rr
            simp only at HCR H5 HST ⊢
            go_wp2_with fail
            refine (HCR.out _ (((R5.out.alloc _).alloc _))).mono ?_
            rintro e w6 ⟨rfl, h6, a6⟩
            have ha := two_boxes (by omega) a6
            have HX := Lib.hid ha
            obtain ⟨p0, p1, p2, p3, _, _, _, _⟩ := four_cells ha.1
            obtain ⟨q0, q1, q2, q3, r0, r1, r2, r3⟩ := four_cells ha.2.1
            have H6 := Lib.hid (((H5.out.alloc (.cells #[.int .i64 1, .int .i64 wd, .int .i64 y, .string ByteArray.empty] 30)).alloc (.cells #[.int .i64 1, .int .i64 wd, .int .i64 n, .string s0] 30)).kept a6 (by simp only [only]; omega))
            have R6 := Lib.hid h6
            have B6 := Lib.hid (B5.out.trans (ha.2.2.belowOnly (by have := B5.out.size; omega) (by have := HR.out; omega)))
            clear a6 h6 ha
            go_wp2_with fail
            refine (left_any _ _ _ ((H6.out.set (by simp; omega) _).set (by simp; omega) _)).mono ?_
            rintro e w8 ⟨rfl, hw8⟩
            have H8 := Lib.hid (show RdS w8 w2.heap.size st' by rw [hw8]; exact (((H6.out.set (by simp; omega) _).set (by simp; omega) _)).drew)
            have R8 := Lib.hid (show RdR w8 w3.heap.size st' by rw [hw8]; exact (((R6.out.set (by simp; omega) _).set (by simp; omega) _)).drew)
            have B8 := Lib.hid (show Below w.heap.size w w8 by rw [hw8]; exact (((B6.out.setCell (by simp; omega) _).setCell (by simp; omega) _)).drew)
            clear hw8
            go_wp2_with fail
            refine (leftR_any _ _ _ R8.out).mono ?_
            rintro e w9 ⟨rfl, hw9⟩
            have H9 := Lib.hid (show RdS w9 w2.heap.size st' by rw [hw9]; exact H8.out.drew)
            have R9 := Lib.hid (show RdR w9 w3.heap.size st' by rw [hw9]; exact R8.out.drew)
            have B9 := Lib.hid (show Below w.heap.size w w9 by rw [hw9]; exact B8.out.drew)
            clear hw9
            go_wp2_with fail
            refine (err_any _ _ _ H9.out).mono ?_
            rintro e w' ⟨rfl, hw⟩
            rw [hw]
            clear hw w'
            go_wp2_with fail
            refine (errR_any _ _ _ R9.out).mono ?_
            rintro e w' ⟨rfl, hw⟩
            rw [hw]
            clear hw w'
            go_wp2_with fail
            refine (rClose_any _ _ _ H9.out).mono ?_
            rintro e wA ⟨rfl, aA⟩
            have HA := Lib.hid (H9.out.kept aA (fun h => h))
            have RA := Lib.hid (R9.out.kept aA (fun h => h))
            have BA := Lib.hid (B9.out.trans (aA.belowNone B9.out.size))
            clear aA
            go_wp2_with fail
            refine (rCloseR_any _ _ _ RA.out).mono ?_
            rintro e wB ⟨rfl, aB⟩
            have HC := Lib.hid (HA.out.kept aB (fun h => h))
            have RC := Lib.hid (RA.out.kept aB (fun h => h))
            have BC := Lib.hid (BA.out.trans (aB.belowNone BA.out.size))
            clear aB
            go_wp2_with fail
            go_roundw
            case rel => exact ⟨k + 1, by omega, by go_num, by rw [HST.out]; exact HC.out, by rw [HST.out]; exact RC.out, BC.out⟩
            case measure => simp [intOf]; omega
          by_cases eo3 : kind = 3
          · subst eo3
            have hx : rRead ⟨3, wd, n, s0⟩ st = (⟨3, wd, 0, (rText wd st).1⟩, (rText wd st).2) := by simp [rRead]
            rw [hx] at HST H5
            rw [hx]
            clear hx
            have HCR := Lib.hid (fun w h => rTextR_any w3.heap.size st wd w x2 h)
            generalize rText wd st = rr at *
            obtain ⟨y, st'⟩ := rr
            simp only at HCR H5 HST ⊢
            go_wp2_with fail
            refine (HCR.out _ (((R5.out.alloc _).alloc _))).mono ?_
            rintro e w6 ⟨rfl, h6, a6⟩
            have ha := two_boxes (by omega) a6
            have HX := Lib.hid ha
            obtain ⟨p0, p1, p2, p3, _, _, _, _⟩ := four_cells ha.1
            obtain ⟨q0, q1, q2, q3, r0, r1, r2, r3⟩ := four_cells ha.2.1
            have H6 := Lib.hid (((H5.out.alloc (.cells #[.int .i64 3, .int .i64 wd, .int .i64 0, .string y] 30)).alloc (.cells #[.int .i64 3, .int .i64 wd, .int .i64 n, .string s0] 30)).kept a6 (by simp only [only]; omega))
            have R6 := Lib.hid h6
            have B6 := Lib.hid (B5.out.trans (ha.2.2.belowOnly (by have := B5.out.size; omega) (by have := HR.out; omega)))
            clear a6 h6 ha
            go_wp2_with fail
            refine (left_any _ _ _ ((H6.out.set (by simp; omega) _).set (by simp; omega) _)).mono ?_
            rintro e w8 ⟨rfl, hw8⟩
            have H8 := Lib.hid (show RdS w8 w2.heap.size st' by rw [hw8]; exact (((H6.out.set (by simp; omega) _).set (by simp; omega) _)).drew)
            have R8 := Lib.hid (show RdR w8 w3.heap.size st' by rw [hw8]; exact (((R6.out.set (by simp; omega) _).set (by simp; omega) _)).drew)
            have B8 := Lib.hid (show Below w.heap.size w w8 by rw [hw8]; exact (((B6.out.setCell (by simp; omega) _).setCell (by simp; omega) _)).drew)
            clear hw8
            go_wp2_with fail
            refine (leftR_any _ _ _ R8.out).mono ?_
            rintro e w9 ⟨rfl, hw9⟩
            have H9 := Lib.hid (show RdS w9 w2.heap.size st' by rw [hw9]; exact H8.out.drew)
            have R9 := Lib.hid (show RdR w9 w3.heap.size st' by rw [hw9]; exact R8.out.drew)
            have B9 := Lib.hid (show Below w.heap.size w w9 by rw [hw9]; exact B8.out.drew)
            clear hw9
            go_wp2_with fail
            refine (err_any _ _ _ H9.out).mono ?_
            rintro e w' ⟨rfl, hw⟩
            rw [hw]
            clear hw w'
            go_wp2_with fail
            refine (errR_any _ _ _ R9.out).mono ?_
            rintro e w' ⟨rfl, hw⟩
            rw [hw]
            clear hw w'
            go_wp2_with fail
            refine (rClose_any _ _ _ H9.out).mono ?_
            rintro e wA ⟨rfl, aA⟩
            have HA := Lib.hid (H9.out.kept aA (fun h => h))
            have RA := Lib.hid (R9.out.kept aA (fun h => h))
            have BA := Lib.hid (B9.out.trans (aA.belowNone B9.out.size))
            clear aA
            go_wp2_with fail
            refine (rCloseR_any _ _ _ RA.out).mono ?_
            rintro e wB ⟨rfl, aB⟩
            have HC := Lib.hid (HA.out.kept aB (fun h => h))
            have RC := Lib.hid (RA.out.kept aB (fun h => h))
            have BC := Lib.hid (BA.out.trans (aB.belowNone BA.out.size))
            clear aB
            go_wp2_with fail
            go_roundw
            case rel => exact ⟨k + 1, by omega, by go_num, by rw [HST.out]; exact HC.out, by rw [HST.out]; exact RC.out, BC.out⟩
            case measure => simp [intOf]; omega
          by_cases e2 : kind = 2
          · subst e2
            have hx : rRead ⟨2, wd, n, s0⟩ st = (⟨2, 0, if (rFlag st).1 then 1 else 0, ByteArray.empty⟩, (rFlag st).2) := by simp [rRead]
            rw [hx] at HST H5
            rw [hx]
            clear hx
            have HCR := Lib.hid (fun w h => rFlagR_any w3.heap.size st w h)
            generalize rFlag st = rr at *
            obtain ⟨y, st'⟩ := rr
            simp only at HCR H5 HST ⊢
            generalize hvn : (if y = true then (1 : Int) else 0) = vn at *
            have HVN := Lib.hid hvn
            clear hvn
            go_wp2_with fail
            refine (HCR.out _ (((R5.out.alloc _).alloc _))).mono ?_
            rintro e w6 ⟨rfl, h6, a6⟩
            have ha := two_boxes (by omega) a6
            have HX := Lib.hid ha
            obtain ⟨p0, p1, p2, p3, _, _, _, _⟩ := four_cells ha.1
            obtain ⟨q0, q1, q2, q3, r0, r1, r2, r3⟩ := four_cells ha.2.1
            have H6 := Lib.hid (((H5.out.alloc (.cells #[.int .i64 2, .int .i64 0, .int .i64 vn, .string ByteArray.empty] 30)).alloc (.cells #[.int .i64 2, .int .i64 0, .int .i64 0, .string ⟨#[]⟩] 30)).kept a6 (by simp only [only]; omega))
            have R6 := Lib.hid h6
            have B6 := Lib.hid (B5.out.trans (ha.2.2.belowOnly (by have := B5.out.size; omega) (by have := HR.out; omega)))
            clear a6 h6 ha
            cases y
            · have hvn : vn = 0 := by rw [← HVN.out]; rfl
              subst hvn
              go_wp2_with fail
              refine (left_any _ _ _ H6.out).mono ?_
              rintro e w8 ⟨rfl, hw8⟩
              have H8 := Lib.hid (show RdS w8 w2.heap.size st' by rw [hw8]; exact (H6.out).drew)
              have R8 := Lib.hid (show RdR w8 w3.heap.size st' by rw [hw8]; exact (R6.out).drew)
              have B8 := Lib.hid (show Below w.heap.size w w8 by rw [hw8]; exact (B6.out).drew)
              clear hw8
              go_wp2_with fail
              refine (leftR_any _ _ _ R8.out).mono ?_
              rintro e w9 ⟨rfl, hw9⟩
              have H9 := Lib.hid (show RdS w9 w2.heap.size st' by rw [hw9]; exact H8.out.drew)
              have R9 := Lib.hid (show RdR w9 w3.heap.size st' by rw [hw9]; exact R8.out.drew)
              have B9 := Lib.hid (show Below w.heap.size w w9 by rw [hw9]; exact B8.out.drew)
              clear hw9
              go_wp2_with fail
              refine (err_any _ _ _ H9.out).mono ?_
              rintro e w' ⟨rfl, hw⟩
              rw [hw]
              clear hw w'
              go_wp2_with fail
              refine (errR_any _ _ _ R9.out).mono ?_
              rintro e w' ⟨rfl, hw⟩
              rw [hw]
              clear hw w'
              go_wp2_with fail
              refine (rClose_any _ _ _ H9.out).mono ?_
              rintro e wA ⟨rfl, aA⟩
              have HA := Lib.hid (H9.out.kept aA (fun h => h))
              have RA := Lib.hid (R9.out.kept aA (fun h => h))
              have BA := Lib.hid (B9.out.trans (aA.belowNone B9.out.size))
              clear aA
              go_wp2_with fail
              refine (rCloseR_any _ _ _ RA.out).mono ?_
              rintro e wB ⟨rfl, aB⟩
              have HC := Lib.hid (HA.out.kept aB (fun h => h))
              have RC := Lib.hid (RA.out.kept aB (fun h => h))
              have BC := Lib.hid (BA.out.trans (aB.belowNone BA.out.size))
              clear aB
              go_wp2_with fail
              go_roundw
              case rel => exact ⟨k + 1, by omega, by go_num, by rw [HST.out]; exact HC.out, by rw [HST.out]; exact RC.out, BC.out⟩
              case measure => simp [intOf]; omega
            · have hvn : vn = 1 := by rw [← HVN.out]; rfl
              subst hvn
              go_wp2_with fail
              refine (left_any _ _ _ (H6.out.set (by simp; omega) _)).mono ?_
              rintro e w8 ⟨rfl, hw8⟩
              have H8 := Lib.hid (show RdS w8 w2.heap.size st' by rw [hw8]; exact ((H6.out.set (by simp; omega) _)).drew)
              have R8 := Lib.hid (show RdR w8 w3.heap.size st' by rw [hw8]; exact ((R6.out.set (by simp; omega) _)).drew)
              have B8 := Lib.hid (show Below w.heap.size w w8 by rw [hw8]; exact ((B6.out.setCell (by simp; omega) _)).drew)
              clear hw8
              go_wp2_with fail
              refine (leftR_any _ _ _ R8.out).mono ?_
              rintro e w9 ⟨rfl, hw9⟩
              have H9 := Lib.hid (show RdS w9 w2.heap.size st' by rw [hw9]; exact H8.out.drew)
              have R9 := Lib.hid (show RdR w9 w3.heap.size st' by rw [hw9]; exact R8.out.drew)
              have B9 := Lib.hid (show Below w.heap.size w w9 by rw [hw9]; exact B8.out.drew)
              clear hw9
              go_wp2_with fail
              refine (err_any _ _ _ H9.out).mono ?_
              rintro e w' ⟨rfl, hw⟩
              rw [hw]
              clear hw w'
              go_wp2_with fail
              refine (errR_any _ _ _ R9.out).mono ?_
              rintro e w' ⟨rfl, hw⟩
              rw [hw]
              clear hw w'
              go_wp2_with fail
              refine (rClose_any _ _ _ H9.out).mono ?_
              rintro e wA ⟨rfl, aA⟩
              have HA := Lib.hid (H9.out.kept aA (fun h => h))
              have RA := Lib.hid (R9.out.kept aA (fun h => h))
              have BA := Lib.hid (B9.out.trans (aA.belowNone B9.out.size))
              clear aA
              go_wp2_with fail
              refine (rCloseR_any _ _ _ RA.out).mono ?_
              rintro e wB ⟨rfl, aB⟩
              have HC := Lib.hid (HA.out.kept aB (fun h => h))
              have RC := Lib.hid (RA.out.kept aB (fun h => h))
              have BC := Lib.hid (BA.out.trans (aB.belowNone BA.out.size))
              clear aB
              go_wp2_with fail
              go_roundw
              case rel => exact ⟨k + 1, by omega, by go_num, by rw [HST.out]; exact HC.out, by rw [HST.out]; exact RC.out, BC.out⟩
              case measure => simp [intOf]; omega
          · have eo2 := e2
            have hx : rRead ⟨kind, wd, n, s0⟩ st = (⟨kind, wd, n, s0⟩, st) := rRead_other _ _ (by simp only; omega)
            rw [hx] at HST H5
            rw [hx]
            simp only at HST H5 ⊢
            generalize hst' : st = st' at *
            clear hx hst'
            have b0 : (kind == 0) = false := by simpa using eo0
            have b1 : (kind == 1) = false := by simpa using eo1
            have b2 : (kind == 2) = false := by simpa using eo2
            have b3 : (kind == 3) = false := by simpa using eo3
            go_wp2_with fail
            refine (left_any _ _ _ ((H5.out.alloc _).alloc _)).mono ?_
            rintro e w8 ⟨rfl, hw8⟩
            have H8 := Lib.hid (show RdS w8 w2.heap.size st' by rw [hw8]; exact (((H5.out.alloc _).alloc _)).drew)
            have R8 := Lib.hid (show RdR w8 w3.heap.size st' by rw [hw8]; exact (((R5.out.alloc _).alloc _)).drew)
            have B8 := Lib.hid (show Below w.heap.size w w8 by rw [hw8]; exact (((B5.out.alloc (by omega) _).alloc (by simp; omega) _)).drew)
            clear hw8
            go_wp2_with fail
            refine (leftR_any _ _ _ R8.out).mono ?_
            rintro e w9 ⟨rfl, hw9⟩
            have H9 := Lib.hid (show RdS w9 w2.heap.size st' by rw [hw9]; exact H8.out.drew)
            have R9 := Lib.hid (show RdR w9 w3.heap.size st' by rw [hw9]; exact R8.out.drew)
            have B9 := Lib.hid (show Below w.heap.size w w9 by rw [hw9]; exact B8.out.drew)
            clear hw9
            go_wp2_with fail
            refine (err_any _ _ _ H9.out).mono ?_
            rintro e w' ⟨rfl, hw⟩
            rw [hw]
            clear hw w'
            go_wp2_with fail
            refine (errR_any _ _ _ R9.out).mono ?_
            rintro e w' ⟨rfl, hw⟩
            rw [hw]
            clear hw w'
            go_wp2_with fail
            refine (rClose_any _ _ _ H9.out).mono ?_
            rintro e wA ⟨rfl, aA⟩
            have HA := Lib.hid (H9.out.kept aA (fun h => h))
            have RA := Lib.hid (R9.out.kept aA (fun h => h))
            have BA := Lib.hid (B9.out.trans (aA.belowNone B9.out.size))
            clear aA
            go_wp2_with fail
            refine (rCloseR_any _ _ _ RA.out).mono ?_
            rintro e wB ⟨rfl, aB⟩
            have HC := Lib.hid (HA.out.kept aB (fun h => h))
            have RC := Lib.hid (RA.out.kept aB (fun h => h))
            have BC := Lib.hid (BA.out.trans (aB.belowNone BA.out.size))
            clear aB
            go_wp2_with fail
            go_roundw
            case rel => exact ⟨k + 1, by omega, by go_num, by rw [HST.out]; exact HC.out, by rw [HST.out]; exact RC.out, BC.out⟩
            case measure => simp [intOf]; omega
        · go_wp2_with fail
          refine (left_any _ _ _ HRD.out).mono ?_
          rintro e w5 ⟨rfl, hw⟩
          have G1 := Lib.hid (show RdS w5 w2.heap.size (rIter fs ⟨s, 0, 0⟩ k) by rw [hw]; exact HRD.out.drew)
          have G2 := Lib.hid (show RdR w5 w3.heap.size (rIter fs ⟨s, 0, 0⟩ k) by rw [hw]; exact HRF.out.drew)
          have BB := Lib.hid (show Below w.heap.size w w5 by rw [hw]; exact HB.out.drew)
          clear hw
          go_wp2_with fail
          refine (leftR_any _ _ _ G2.out).mono ?_
          rintro e w6 ⟨rfl, hw⟩
          have G3 := Lib.hid (show RdS w6 w2.heap.size (rIter fs ⟨s, 0, 0⟩ k) by rw [hw]; exact G1.out.drew)
          have G4 := Lib.hid (show RdR w6 w3.heap.size (rIter fs ⟨s, 0, 0⟩ k) by rw [hw]; exact G2.out.drew)
          have BC := Lib.hid (show Below w.heap.size w w6 by rw [hw]; exact BB.out.drew)
          clear hw
          go_wp2_with fail
          refine (rClose_any _ _ _ G3.out).mono ?_
          rintro e w7 ⟨rfl, a7⟩
          have G5 := Lib.hid (G4.out.kept a7 (fun h => h))
          have BD := Lib.hid (BC.out.trans (a7.belowNone BC.out.size))
          clear a7
          go_wp2_with fail
          refine (rCloseR_any _ _ _ G5.out).mono ?_
          rintro e w8 ⟨rfl, a8⟩
          have BE := Lib.hid (BD.out.trans (a8.belowNone BD.out.size))
          clear a8
          go_wp2_with fail
          go_ret
          exact ⟨by simp, BE.out⟩
  · go_wp2_with fail
    go_ret
    exact ⟨rfl, B1.out⟩
end Go.Proofs.Ytgbhmcepokpcaaa
