/- The reader: Signed, Flag, Close, NewReader. -/
import Derived.Test.YtelpdihaonoedaaRead
namespace Go.Proofs.Ytelpdihaonoedaa
open Go.RowKit

/-- The signed number with w bits. -/
def sval (wd : Nat) (n : Nat) : Int := if n < 2 ^ (wd - 1) then n else (n : Int) - 2 ^ wd
def rSigned (wd : Int) (st : RSt) : Int × RSt :=
  if (rBegin (between 2 63 wd) wd st).1 then (sval wd.toNat (bval (rbits st.s st.at_ wd.toNat)), ⟨st.s, st.at_ + wd.toNat, st.e⟩) else (0, (rBegin (between 2 63 wd) wd st).2)

theorem signed_fix (q m : Nat) (h1 : 2 ≤ m) (h2 : m ≤ 63) (hq : q < 2 ^ m) : wrap64 ((q : Int) - wrap64 ((q : Int) / 2 ^ (m - 1) * 2 ^ m)) = sval m q := by
  obtain ⟨k, rfl⟩ : ∃ k, m = k + 1 := ⟨m - 1, by omega⟩
  have hp : 2 ^ k ≤ 4611686018427387904 := Nat.pow_le_pow_right (n := 2) (by decide) (show k ≤ 62 by omega)
  have hpos : 0 < 2 ^ k := Nat.pow_pos (by decide)
  have e1 : (2 : Int) ^ (k + 1) = 2 * ((2 ^ k : Nat) : Int) := by rw [Int.pow_succ]; push_cast; omega
  have e2 : (2 : Int) ^ k = ((2 ^ k : Nat) : Int) := by push_cast; rfl
  have e3 : 2 ^ (k + 1) = 2 * 2 ^ k := by rw [Nat.pow_succ]; omega
  rw [e3] at hq
  unfold sval
  simp only [Nat.add_sub_cancel, e1, e2]
  generalize 2 ^ k = P at *
  by_cases h : q < P
  · have : (q : Int) / (P : Int) = 0 := Int.ediv_eq_zero_of_lt (by omega) (by omega)
    rw [this, if_pos h]
    unfold wrap64
    omega
  · have : (q : Int) / (P : Int) = 1 := by
      rw [Int.ediv_eq_iff_of_pos (by omega)]
      omega
    rw [this, if_neg h]
    unfold wrap64
    omega

set_option maxHeartbeats 400000 in
theorem rSigned_any (B : Nat) (st : RSt) (wd : Int) (w : World) (h : RdS w B st) :
    Calls Try.prog 89 #[.pointer (some ⟨B, 0, none⟩), .int .i64 wd] w fun x w' => x = .returned (.int .i64 (rSigned wd st).1) ∧ RdS w' B (rSigned wd st).2 ∧ Fr (only B) w w' := by
  have H := Lib.hid h
  clear h
  cases hb : (rBegin (between 2 63 wd) wd st).1
  · have HF := Lib.hid (show rSigned wd st = (0, (rBegin (between 2 63 wd) wd st).2) by simp [rSigned, hb])
    have HB := Lib.hid hb
    clear hb
    go_enter Try.func89, Try.ntmps89
    go_wp2_with (go_at_call 125; refine (isSigned_any _ _).mono ?_; rintro e w' ⟨rfl, rfl⟩)
    refine (begin_any B st _ wd _ H.out).mono ?_
    rw [HB.out]
    rintro e w' ⟨rfl, hr, hf⟩
    have HR := Lib.hid hr
    clear hr
    go_wp2_with fail
    go_ret
    rw [HF.out]
    exact ⟨rfl, HR.out, hf⟩
  · obtain ⟨he, hv, hs, h2⟩ := rBegin_true hb
    have hw := between_iff hv
    have HF := Lib.hid (show rSigned wd st = (sval wd.toNat (bval (rbits st.s st.at_ wd.toNat)), ⟨st.s, st.at_ + wd.toNat, st.e⟩) by simp [rSigned, hb])
    have HB := Lib.hid hb
    have H2 := Lib.hid h2
    obtain ⟨m, rfl⟩ := Int.eq_ofNat_of_zero_le (show 0 ≤ wd by omega)
    have hm1 : 2 ≤ m := by omega
    have hm2 : m ≤ 63 := by omega
    have hv3 := bval_lt' (rbits st.s st.at_ m)
    rw [rbits_len] at hv3
    have HV := Lib.hid hv3
    have hp : 2 ^ m ≤ 9223372036854775808 := Nat.pow_le_pow_right (n := 2) (by decide) (show m ≤ 63 by omega)
    have hv2 : bval (rbits st.s st.at_ m) ≤ 9223372036854775807 := by omega
    clear hb h2 he hv hp hv3
    go_enter Try.func89, Try.ntmps89
    go_wp2_with (go_at_call 125; refine (isSigned_any _ _).mono ?_; rintro e w' ⟨rfl, rfl⟩)
    refine (begin_any B st _ _ _ H.out).mono ?_
    rw [HB.out, H2.out]
    rintro e w' ⟨rfl, hr, hf⟩
    have HR := Lib.hid hr
    have hle := H.out.le
    clear hr
    go_wp2_with fail
    refine (collect_any B st m _ (by omega) HR.out (by omega)).mono ?_
    rintro e w2 ⟨rfl, hr2, hf2⟩
    have HR2 := Lib.hid hr2
    clear hr2
    simp only [Int.toNat_natCast] at HF
    generalize bval (rbits st.s st.at_ m) = q at *
    go_wp2_with fail
    rw [signed_fix q m hm1 hm2 HV.out]
    go_ret
    rw [HF.out]
    exact ⟨rfl, HR2.out, hf.onlyTrans hf2⟩

def rFlag (st : RSt) : Bool × RSt :=
  if (rBegin true 1 st).1 then (sbit st.s st.at_, ⟨st.s, st.at_ + 1, st.e⟩) else (false, (rBegin true 1 st).2)

set_option maxHeartbeats 400000 in
theorem rFlag_any (B : Nat) (st : RSt) (w : World) (h : RdS w B st) :
    Calls Try.prog 91 #[.pointer (some ⟨B, 0, none⟩)] w fun x w' => x = .returned (.bool (rFlag st).1) ∧ RdS w' B (rFlag st).2 ∧ Fr (only B) w w' := by
  have H := Lib.hid h
  clear h
  cases hb : (rBegin true 1 st).1
  · have HF := Lib.hid (show rFlag st = (false, (rBegin true 1 st).2) by simp [rFlag, hb])
    have HB := Lib.hid hb
    clear hb
    go_enter Try.func91, Try.ntmps91
    go_wp2_with fail
    refine (begin_any B st _ 1 _ H.out).mono ?_
    rw [HB.out]
    rintro e w' ⟨rfl, hr, hf⟩
    have HR := Lib.hid hr
    clear hr
    go_wp2_with fail
    go_ret
    rw [HF.out]
    exact ⟨rfl, HR.out, hf⟩
  · obtain ⟨he, hv, hs, h2⟩ := rBegin_true hb
    have HF := Lib.hid (show rFlag st = (sbit st.s st.at_, ⟨st.s, st.at_ + 1, st.e⟩) by simp [rFlag, hb])
    have HB := Lib.hid hb
    have H2 := Lib.hid h2
    clear hb h2 he hv
    go_enter Try.func91, Try.ntmps91
    go_wp2_with fail
    refine (begin_any B st _ _ _ H.out).mono ?_
    rw [HB.out, H2.out]
    rintro e w' ⟨rfl, hr, hf⟩
    have HR := Lib.hid hr
    clear hr
    go_wp2_with fail
    refine (next_any B st _ HR.out (by omega)).mono ?_
    rintro e w2 ⟨rfl, hr2, hf2⟩
    have HR2 := Lib.hid hr2
    clear hr2
    generalize sbit st.s st.at_ = q at *
    go_wp2_with fail
    go_ret
    rw [HF.out]
    exact ⟨rfl, HR2.out, hf.onlyTrans hf2⟩

def rNew (s : ByteArray) : RSt := if s.size > 65536 then ⟨ByteArray.empty, 0, 8⟩ else ⟨s, 0, 0⟩

set_option maxHeartbeats 400000 in
theorem newReader_any (s : ByteArray) (w : World) (hs : s.size ≤ 9223372036854775807) :
    Calls Try.prog 45 #[.string s] w fun x w' => x = .returned (.pointer (some ⟨w.heap.size, 0, none⟩)) ∧ RdS w' w.heap.size (rNew s) ∧ Fr (fun _ => False) w w' := by
  by_cases h : 65536 < s.size
  · have HF := Lib.hid (show rNew s = ⟨ByteArray.empty, 0, 8⟩ by simp [rNew, h])
    go_enter Try.func45, Try.ntmps45
    go_wp2_with fail
    refine (fail_any w.heap.size ⟨ByteArray.empty, 0, 0⟩ 8 _ ⟨heap_alloc_new w _, by simp, by simp⟩).mono ?_
    rintro e w' ⟨rfl, hr, hf⟩
    have HR := Lib.hid hr
    clear hr
    go_wp2_with fail
    go_ret
    rw [HF.out]
    exact ⟨rfl, HR.out, ((Fr.refl (fun _ => False) w).alloc _).trans hf (fun i hi hs => by simp only [only] at hs; omega)⟩
  · have HF := Lib.hid (show rNew s = ⟨s, 0, 0⟩ by simp [rNew, h])
    go_enter Try.func45, Try.ntmps45
    go_wp2
    go_ret
    rw [HF.out]
    refine ⟨rfl, ⟨?_, by simp, by simp only; omega⟩, (Fr.refl (fun _ => False) w).alloc _⟩
    rw [heap_alloc_new]
    rfl

/-- 'Close'. -/
def rClose (st : RSt) : Int :=
  if st.e ≠ 0 then st.e else if 8 * st.s.size - st.at_ ≥ 8 then 10 else if bval (rbits st.s st.at_ (8 * st.s.size - st.at_)) ≠ 0 then 10 else 0

set_option maxHeartbeats 400000 in
theorem rClose_any (B : Nat) (st : RSt) (w : World) (h : RdS w B st) :
    Calls Try.prog 47 #[.pointer (some ⟨B, 0, none⟩)] w fun x w' => x = .returned (.int .i64 (rClose st)) ∧ Fr (fun _ => False) w w' := by
  obtain ⟨h0, h1, h2, f0, f1, f2⟩ := three_cells h.blk
  have H := Lib.hid h
  have hle := h.le
  have hsz := h.sz
  clear h
  by_cases he : st.e = 0
  · have hb : (st.e != 0) = false := by simpa using he
    by_cases h8 : 8 ≤ 8 * st.s.size - st.at_
    · have HF := Lib.hid (show rClose st = 10 by simp [rClose, he, h8])
      clear he
      go_enter Try.func47, Try.ntmps47
      go_wp2_with fail
      refine (left_any B st _ H.out).mono ?_
      rintro e w' ⟨rfl, rfl⟩
      go_wp2_with fail
      go_ret
      rw [HF.out]
      exact ⟨rfl, (Fr.refl _ _).drew⟩
    · go_enter Try.func47, Try.ntmps47
      go_wp2_with fail
      refine (left_any B st _ H.out).mono ?_
      rintro e w' ⟨rfl, rfl⟩
      go_wp2_with fail
      have HC : RdS ((w.alloc (Obj.cells #[Value.string st.s, Value.int IntKind.i64 ↑st.at_, Value.int IntKind.i64 0] 102)).drew) w.heap.size ⟨st.s, st.at_, 0⟩ := ⟨heap_alloc_new w _, hle, hsz⟩
      have HCH := Lib.hid HC
      clear HC
      refine (left_any w.heap.size ⟨st.s, st.at_, 0⟩ _ HCH.out).mono ?_
      rintro e w' ⟨rfl, rfl⟩
      go_wp2_with fail
      have hm : ((8 * st.s.size - st.at_ : Nat) : Int) = 8 * (st.s.size : Int) - st.at_ := by omega
      rw [← hm]
      refine (collect_any w.heap.size ⟨st.s, st.at_, 0⟩ (8 * st.s.size - st.at_) _ (by omega) HCH.out.drew (by simp only; omega)).mono ?_
      rintro e w' ⟨rfl, hr, hf⟩
      have hfr : Fr (fun _ => False) w w' := ((((Fr.refl (fun _ => False) w).alloc _).drew).drew).trans hf (fun i hi hs => by simp only [only] at hs; omega)
      have HFr := Lib.hid hfr
      by_cases hz : bval (rbits st.s st.at_ (8 * st.s.size - st.at_)) = 0
      · have HF := Lib.hid (show rClose st = 0 by simp [rClose, he, h8, hz])
        rw [hz]
        clear hr hf hfr hz he hm
        go_wp2_with fail
        go_ret
        rw [HF.out]
        exact ⟨rfl, HFr.out⟩
      · have HF := Lib.hid (show rClose st = 10 by simp [rClose, he, h8, hz])
        have hz2 : (((bval (rbits st.s st.at_ (8 * st.s.size - st.at_)) : Nat) : Int) != 0) = true := by rw [bne_iff_ne]; omega
        clear hr hf hfr hz he hm
        simp only
        generalize ((bval (rbits st.s st.at_ (8 * st.s.size - st.at_)) : Nat) : Int) = q at *
        go_wp2_with fail
        go_ret
        rw [HF.out]
        exact ⟨rfl, HFr.out⟩
  · have hb : (st.e != 0) = true := by simpa using he
    have HF := Lib.hid (show rClose st = st.e by simp [rClose, he])
    clear he
    go_enter Try.func47, Try.ntmps47
    go_wp2_with fail
    go_ret
    rw [HF.out]
    exact ⟨rfl, Fr.refl _ _⟩
end Go.Proofs.Ytelpdihaonoedaa
