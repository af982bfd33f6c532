/- The document's own reader: fail, Left, Err, get, NewReader, Unsigned, Signed, Flag. -/
import Derived.Test.YtgbhmcepokpcaaaRead3
import Derived.Test.YtgbhmcepokpcaaaRefW2
namespace Go.Proofs.Ytgbhmcepokpcaaa
open Go.RowKit

structure RdR (w : World) (B : Nat) (st : RSt) : Prop where
  blk : w.heap[B]? = some (.cells #[.string st.s, .int .i64 st.at_, .int .i64 st.e] 61 (0, 0))
  le : st.at_ ≤ 8 * st.s.size
  sz : st.s.size ≤ 65536

theorem RdR.kept {w w' : World} {B : Nat} {st : RSt} {S : Nat → Prop} (h : RdR w B st) (hf : Fr S w w') (h1 : ¬ S B) : RdR w' B st := ⟨hf.blk h.blk h1, h.le, h.sz⟩
theorem RdR.alloc {w : World} {B : Nat} {st : RSt} (h : RdR w B st) (o : Obj) : RdR (w.alloc o) B st := h.kept ((Fr.refl (fun _ => False) w).alloc o) (fun h => h)
theorem RdR.drew {w : World} {B : Nat} {st : RSt} (h : RdR w B st) : RdR w.drew B st := ⟨h.blk, h.le, h.sz⟩
theorem RdR.drewN {w : World} {B : Nat} {st : RSt} (h : RdR w B st) (n : Nat) : RdR (w.drewN n) B st := ⟨h.blk, h.le, h.sz⟩

theorem failR_any (B : Nat) (st : RSt) (e : Int) (w : World) (h : RdR w B st) :
    Calls Try.prog 48 #[.pointer (some ⟨B, 0, none⟩), .int .i64 e] w fun x w' => x = .returned (.tuple #[]) ∧ RdR w' B ⟨ByteArray.empty, 0, e⟩ ∧ Fr (only B) w w' := by
  obtain ⟨h0, h1, h2, f0, f1, f2⟩ := three_cells h.blk
  have H := Lib.hid h
  clear h
  go_enter Try.func48, Try.ntmps48
  go_wp2
  go_end0
  refine ⟨rfl, ⟨?_, by simp, by simp⟩, (((Fr.refl (only B) w).setCell (p := ⟨B, 2, none⟩) (.inl rfl) _).setCell (p := ⟨B, 0, none⟩) (.inl rfl) _).setCell (p := ⟨B, 1, none⟩) (.inl rfl) _⟩
  rw [three_set (three_set (three_set H.out.blk 2 _) 0 _) 1 _]
  rfl

theorem leftR_any (B : Nat) (st : RSt) (w : World) (h : RdR w B st) :
    Calls Try.prog 29 #[.pointer (some ⟨B, 0, none⟩)] w fun x w' => x = .returned (.int .i64 (8 * (st.s.size : Int) - st.at_)) ∧ w' = w.drew := by
  obtain ⟨h0, h1, h2, f0, f1, f2⟩ := three_cells h.blk
  have hle := h.le
  have hsz := h.sz
  clear h
  go_enter Try.func29, Try.ntmps29
  go_wp2
  go_region
  go_wp2
  go_ret
  exact ⟨rfl, rfl⟩

theorem errR_any (B : Nat) (st : RSt) (w : World) (h : RdR w B st) :
    Calls Try.prog 31 #[.pointer (some ⟨B, 0, none⟩)] w fun x w' => x = .returned (.int .i64 st.e) ∧ w' = w := by
  obtain ⟨h0, h1, h2, f0, f1, f2⟩ := three_cells h.blk
  clear h
  go_enter Try.func31, Try.ntmps31
  go_wp2
  go_ret
  exact ⟨rfl, rfl⟩

theorem getR_dead (B : Nat) (st : RSt) (wd : Int) (w : World) (h : RdR w B st) (he : st.e ≠ 0) :
    Calls Try.prog 49 #[.pointer (some ⟨B, 0, none⟩), .int .i64 wd] w fun x w' => x = .returned (.int .i64 0) ∧ w' = w := by
  obtain ⟨h0, h1, h2, f0, f1, f2⟩ := three_cells h.blk
  have hb : (st.e != 0) = true := by simpa using he
  clear h he
  go_enter Try.func49, Try.ntmps49
  go_wp2_with fail
  go_ret
  exact ⟨rfl, rfl⟩

theorem shr_bits (x p : Nat) (hx : x < 256) (hp : p < 8) : bits .and .i64 (wrap64 (x : Int) / 2 ^ (7 - p)) 1 = ((x.testBit (7 - p)).toNat : Int) := by
  have h : ∀ x : Fin 256, ∀ p : Fin 8, bits .and .i64 (wrap64 ((x.val : Nat) : Int) / 2 ^ (7 - p.val)) 1 = ((x.val.testBit (7 - p.val)).toNat : Int) := by decide +kernel
  exact h ⟨x, hx⟩ ⟨p, hp⟩
theorem sbit_at (s : ByteArray) (a : Nat) (hx : a / 8 < s.size) : bits .and .i64 (wrap64 ((s[a / 8]).toNat : Int) / 2 ^ (7 - a % 8)) 1 = ((sbit s a).toNat : Int) := by
  rw [shr_bits _ (a % 8) (s[a / 8]).toNat_lt (by omega)]
  congr 3
  congr 1
  rw [List.getD_eq_getElem?_getD, List.getElem?_eq_getElem (by simpa using hx)]
  rfl
theorem or_zero (n : Nat) (h : 2 * n < 9223372036854775808) : bits .or .i64 ((2 * n : Nat) : Int) 0 = ((2 * n : Nat) : Int) := by
  show IntKind.i64.wrap ((BitVec.ofInt 64 ((2 * n : Nat) : Int) ||| BitVec.ofInt 64 0).toNat : Int) = _
  have k : (BitVec.ofInt 64 ((2 * n : Nat) : Int) ||| BitVec.ofInt 64 0).toNat = 2 * n := by
    rw [BitVec.toNat_or]
    simp only [BitVec.toNat_ofInt]
    rw [show ((0 : Int) % ((2 ^ 64 : Nat) : Int)).toNat = 0 from by decide, Nat.or_zero]
    omega
  rw [k, IntKind.wrap_i64]
  omega
theorem or_bit (n : Nat) (b : Bool) (h : 2 * n + 1 < 9223372036854775808) : bits .or .i64 ((n : Int) * 2) ((b.toNat : Nat) : Int) = ((2 * n + b.toNat : Nat) : Int) := by
  rw [show ((n : Int) * 2) = ((2 * n : Nat) : Int) by omega]
  cases b
  · exact or_zero n (by omega)
  · exact or_one n (by omega)

set_option maxHeartbeats 1000000 in
theorem getR_any (B : Nat) (st : RSt) (wd : Nat) (w : World) (hw : wd ≤ 63) (h : RdR w B st) :
    Calls Try.prog 49 #[.pointer (some ⟨B, 0, none⟩), .int .i64 wd] w fun x w' => x = .returned (.int .i64 (rNum true wd st).1) ∧ RdR w' B (rNum true wd st).2 ∧ Fr (only B) w w' := by
  obtain ⟨h0, h1, h2, f0, f1, f2⟩ := three_cells h.blk
  have H := Lib.hid h
  have hle := h.le
  have hsz := h.sz
  clear h
  by_cases he : st.e = 0
  · have hb : (st.e != 0) = false := by simpa using he
    by_cases hs : 8 * (st.s.size : Int) - st.at_ < wd
    · have HF := Lib.hid (show rNum true wd st = (0, ⟨ByteArray.empty, 0, 9⟩) by simp [rNum, rBegin, he, hs])
      clear he
      go_enter Try.func49, Try.ntmps49
      go_wp2_with fail
      refine (leftR_any B st _ H.out).mono ?_
      rintro e w' ⟨rfl, rfl⟩
      go_wp2_with fail
      refine (failR_any B st 9 _ H.out.drew).mono ?_
      rintro e w' ⟨rfl, hr, hf⟩
      have HR := Lib.hid hr
      clear hr
      go_wp2_with fail
      go_ret
      rw [HF.out]
      exact ⟨rfl, HR.out, (Fr.refl _ _).drew.onlyTrans hf⟩
    · have HF := Lib.hid (show rNum true wd st = ((bval (rbits st.s st.at_ wd) : Int), ⟨st.s, st.at_ + wd, st.e⟩) by simp [rNum, rBegin, he, hs])
      clear he
      go_enter Try.func49, Try.ntmps49
      go_wp2_with fail
      refine (leftR_any B st _ H.out).mono ?_
      rintro e w' ⟨rfl, rfl⟩
      go_wp2_with fail
      go_loopw [5, 6] (fun n i wr => ∃ k : Nat, k ≤ wd ∧ i = .int .i64 k ∧ n = .int .i64 (bval (rbits st.s st.at_ k)) ∧ RdR wr B ⟨st.s, st.at_ + k, st.e⟩ ∧ Fr (only B) w wr) (fun _ i _ => wd - (intOf i).toNat)
      case atStart => exact ⟨0, Nat.zero_le _, rfl, rfl, H.out.drew, (Fr.refl _ _).drew⟩
      case round =>
        obtain ⟨k, hk, rfl, rfl, hr, hf⟩ := hrel
        obtain ⟨h0, h1, h2, f0, f1, f2⟩ := three_cells hr.blk
        have HR := Lib.hid hr
        have HFr := Lib.hid hf
        clear hr hf
        by_cases hlt2 : k < wd
        · have hv := bval_lt' (rbits st.s st.at_ k)
          rw [rbits_len] at hv
          have hp : 2 ^ k ≤ 4611686018427387904 := Nat.pow_le_pow_right (n := 2) (by decide) (show k ≤ 62 by omega)
          have hv2 : bval (rbits st.s st.at_ k) < 4611686018427387904 := by omega
          have HS := Lib.hid (rbits_succ st.s st.at_ k)
          have HV := Lib.hid (bval_snoc (rbits st.s st.at_ k) (sbit st.s (st.at_ + k)))
          have HO := Lib.hid (or_bit (bval (rbits st.s st.at_ k)) (sbit st.s (st.at_ + k)) (by omega))
          clear hv hp
          simp only at h0 h1 h2
          generalize bval (rbits st.s st.at_ k) = q at *
          generalize ha : st.at_ + k = a at *
          have hx : a / 8 < st.s.size := by omega
          have HB := Lib.hid (sbit_at st.s a hx)
          have hw1 : IntKind.i64.wrap ((a : Int) / 8) = (a : Int) / 8 := IntWalk.i64_in _ (by omega)
          have hw2 : IntKind.i64.wrap ((a : Int) % 8) = (a : Int) % 8 := IntWalk.i64_in _ (by omega)
          have hi1 : 0 ≤ (a : Int) / 8 := by omega
          have hi2 : (a : Int) / 8 < st.s.size := by omega
          have hw3 : IntKind.i64.wrap (7 - (a : Int) % 8) = 7 - (a : Int) % 8 := IntWalk.i64_in _ (by omega)
          have hw4 : IntKind.i64.wrap ((q : Int) * 2) = (q : Int) * 2 := IntWalk.i64_in _ (by omega)
          have hn : 0 ≤ 7 - (a : Int) % 8 := by omega
          go_wp2_with fail
          go_quiet (fail)
          rw [HB.out, HO.out]
          go_wp2_with fail
          go_roundw
          case rel =>
            refine ⟨k + 1, by omega, by go_num, ?_, ⟨?_, by simp only; omega, hsz⟩, (HFr.out.drewN _).setCell (p := ⟨B, 1, none⟩) (.inl rfl) _⟩
            · rw [HS.out, HV.out]
            · rw [three_set (HR.out.drewN _).blk 1 _]
              simp only [← Nat.add_assoc, ha]
              rfl
          case measure => simp [intOf]; omega
        · go_wp2_with fail
          go_ret
          have e : k = wd := by omega
          subst e
          rw [HF.out]
          exact ⟨rfl, HR.out, HFr.out⟩
  · have HF := Lib.hid (show rNum true wd st = (0, st) by simp [rNum, rBegin, he])
    refine (getR_dead B st wd w H.out he).mono ?_
    rintro e w' ⟨rfl, rfl⟩
    rw [HF.out]
    exact ⟨rfl, H.out, Fr.refl _ _⟩
end Go.Proofs.Ytgbhmcepokpcaaa
