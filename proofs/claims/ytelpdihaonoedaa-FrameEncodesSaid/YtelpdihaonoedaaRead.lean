/- The reader: fail, Left, Err, next, collect, begin. -/
import Derived.Test.YtelpdihaonoedaaChecks
import Derived.StillTailTactics
import Derived.Deep.QuietTactic
import Derived.BigQuiet
namespace Go.Proofs.Ytelpdihaonoedaa
open Go.RowKit

structure RSt where
  s : ByteArray
  at_ : Nat
  e : Int

structure RdS (w : World) (B : Nat) (st : RSt) : Prop where
  blk : w.heap[B]? = some (.cells #[.string st.s, .int .i64 st.at_, .int .i64 st.e] 102 (0, 0))
  le : st.at_ ≤ 8 * st.s.size
  sz : st.s.size ≤ 65536

def only (B : Nat) : Nat → Prop := fun k => k = B

theorem RdS.kept {w w' : World} {B : Nat} {st : RSt} {S : Nat → Prop} (h : RdS w B st) (hf : Fr S w w') (h1 : ¬ S B) : RdS w' B st := ⟨hf.blk h.blk h1, h.le, h.sz⟩
theorem RdS.alloc {w : World} {B : Nat} {st : RSt} (h : RdS w B st) (o : Obj) : RdS (w.alloc o) B st := h.kept ((Fr.refl (fun _ => False) w).alloc o) (fun h => h)
theorem RdS.drew {w : World} {B : Nat} {st : RSt} (h : RdS w B st) : RdS w.drew B st := ⟨h.blk, h.le, h.sz⟩
theorem RdS.drewN {w : World} {B : Nat} {st : RSt} (h : RdS w B st) (n : Nat) : RdS (w.drewN n) B st := ⟨h.blk, h.le, h.sz⟩
theorem Fr.drewN {S : Nat → Prop} {a w : World} (h : Fr S a w) (n : Nat) : Fr S a (w.drewN n) := ⟨h.os, h.tape, h.output, h.size, h.block⟩
theorem Fr.onlyTrans {B : Nat} {a b c : World} (h : Fr (only B) a b) (k : Fr (only B) b c) : Fr (only B) a c := h.trans k (fun _ _ h => h)

/-- The bit i of a string. -/
def sbit (s : ByteArray) (i : Nat) : Bool := (s.data.toList.getD (i / 8) 0).toNat.testBit (7 - i % 8)
def rbits (s : ByteArray) (a k : Nat) : List Bool := (List.range k).map fun i => sbit s (a + i)
theorem rbits_succ (s : ByteArray) (a k : Nat) : rbits s a (k + 1) = rbits s a k ++ [sbit s (a + k)] := by simp [rbits, List.range_succ]
def bval (bs : List Bool) : Nat := bs.foldl (fun a b => 2 * a + b.toNat) 0
theorem bval_snoc (bs : List Bool) (b : Bool) : bval (bs ++ [b]) = 2 * bval bs + b.toNat := by simp [bval]
theorem bval_lt (l : List Bool) : bval l.reverse < 2 ^ l.length := by
  induction l with
  | nil => simp [bval]
  | cons b l ih =>
    rw [List.reverse_cons, bval_snoc, List.length_cons, Nat.pow_succ]
    cases b <;> simp <;> omega
theorem bval_lt' (bs : List Bool) : bval bs < 2 ^ bs.length := by
  have := bval_lt bs.reverse
  simpa using this
theorem rbits_len (s : ByteArray) (a k : Nat) : (rbits s a k).length = k := by simp [rbits]

theorem and_bits (x p : Nat) (hx : x < 256) (hp : p < 8) : (bits .and .u8 (x : Int) ((128 : Int) / 2 ^ p) != 0) = x.testBit (7 - p) := by
  have h : ∀ x : Fin 256, ∀ p : Fin 8, (bits .and .u8 ((x.val : Nat) : Int) ((128 : Int) / 2 ^ p.val) != 0) = x.val.testBit (7 - p.val) := by decide +kernel
  exact h ⟨x, hx⟩ ⟨p, hp⟩

theorem fail_any (B : Nat) (st : RSt) (e : Int) (w : World) (h : RdS w B st) :
    Calls Try.prog 85 #[.pointer (some ⟨B, 0, none⟩), .int .i64 e] w fun x w' => x = .returned (.tuple #[]) ∧ RdS w' B ⟨ByteArray.empty, 0, e⟩ ∧ Fr (only B) w w' := by
  obtain ⟨h0, h1, h2, f0, f1, f2⟩ := three_cells h.blk
  have H := Lib.hid h
  clear h
  go_enter Try.func85, Try.ntmps85
  go_wp2
  go_end0
  refine ⟨rfl, ⟨?_, by simp, by simp⟩, (((Fr.refl (only B) w).setCell (p := ⟨B, 0, none⟩) (.inl rfl) _).setCell (p := ⟨B, 1, none⟩) (.inl rfl) _).setCell (p := ⟨B, 2, none⟩) (.inl rfl) _⟩
  rw [three_set (three_set (three_set H.out.blk 0 _) 1 _) 2 _]
  rfl

theorem left_any (B : Nat) (st : RSt) (w : World) (h : RdS w B st) :
    Calls Try.prog 94 #[.pointer (some ⟨B, 0, none⟩)] w fun x w' => x = .returned (.int .i64 (8 * (st.s.size : Int) - st.at_)) ∧ w' = w.drew := by
  obtain ⟨h0, h1, h2, f0, f1, f2⟩ := three_cells h.blk
  have hle := h.le
  have hsz := h.sz
  clear h
  go_enter Try.func94, Try.ntmps94
  go_wp2
  go_region
  go_wp2
  go_ret
  exact ⟨rfl, rfl⟩

set_option maxHeartbeats 400000 in
theorem next_any (B : Nat) (st : RSt) (w : World) (h : RdS w B st) (hlt : st.at_ < 8 * st.s.size) :
    Calls Try.prog 96 #[.pointer (some ⟨B, 0, none⟩)] w fun x w' => x = .returned (.bool (sbit st.s st.at_)) ∧ RdS w' B ⟨st.s, st.at_ + 1, st.e⟩ ∧ Fr (only B) w w' := by
  obtain ⟨h0, h1, h2, f0, f1, f2⟩ := three_cells h.blk
  have hle := h.le
  have hsz := h.sz
  have H := Lib.hid h
  have hx : st.at_ / 8 < st.s.size := by omega
  clear h
  have hw1 : IntKind.i64.wrap ((st.at_ : Int) / 8) = (st.at_ : Int) / 8 := IntWalk.i64_in _ (by omega)
  have hw2 : IntKind.i64.wrap ((st.at_ : Int) % 8) = (st.at_ : Int) % 8 := IntWalk.i64_in _ (by omega)
  have hi1 : 0 ≤ (st.at_ : Int) / 8 := by omega
  have hi2 : (st.at_ : Int) / 8 < st.s.size := by omega
  go_enter Try.func96, Try.ntmps96
  go_wp2
  go_quiet (fail)
  go_wp2
  have hb := and_bits (st.s[st.at_ / 8]).toNat (st.at_ % 8) (st.s[st.at_ / 8]).toNat_lt (by omega)
  rw [hb]
  have hs : (st.s[st.at_ / 8]).toNat.testBit (7 - st.at_ % 8) = sbit st.s st.at_ := by
    unfold sbit
    congr 2
    rw [List.getD_eq_getElem?_getD, List.getElem?_eq_getElem (by simpa using hx)]
    rfl
  rw [hs]
  go_ret
  refine ⟨rfl, ⟨?_, by simp only; omega, hsz⟩, ((Fr.refl (only B) w).drewN _).setCell (p := ⟨B, 1, none⟩) (.inl rfl) _⟩
  rw [three_set (H.out.drewN _).blk 1 _]
  rfl

theorem or_one (n : Nat) (h : 2 * n < 9223372036854775808) : bits .or .i64 ((2 * n : Nat) : Int) 1 = ((2 * n + 1 : Nat) : Int) := by
  show IntKind.i64.wrap ((BitVec.ofInt 64 ((2 * n : Nat) : Int) ||| BitVec.ofInt 64 1).toNat : Int) = _
  have k : (BitVec.ofInt 64 ((2 * n : Nat) : Int) ||| BitVec.ofInt 64 1).toNat = 2 * n + 1 := by
    rw [BitVec.toNat_or]
    simp only [BitVec.toNat_ofInt]
    rw [show ((1 : Int) % ((2 ^ 64 : Nat) : Int)).toNat = 1 from by decide, show (((2 * n : Nat) : Int) % ((2 ^ 64 : Nat) : Int)).toNat = 2 * n from by omega]
    have : 2 * n = n <<< 1 := by simp [Nat.shiftLeft_eq]; omega
    rw [this, ← Nat.shiftLeft_add_eq_or_of_lt (by decide : 1 < 2 ^ 1)]
  rw [k, IntKind.wrap_i64]
  omega

set_option maxHeartbeats 1000000 in
theorem collect_any (B : Nat) (st : RSt) (wd : Nat) (w : World) (hw : wd ≤ 63) (h : RdS w B st) (hlt : st.at_ + wd ≤ 8 * st.s.size) :
    Calls Try.prog 95 #[.int .i64 wd, .func (.func 96) #[.pointer (some ⟨B, 0, none⟩)] #[]] w fun x w' => x = .returned (.int .i64 (bval (rbits st.s st.at_ wd))) ∧ RdS w' B ⟨st.s, st.at_ + wd, st.e⟩ ∧ Fr (only B) w w' := by
  go_enter Try.func95, Try.ntmps95
  go_wp2
  go_loopw [5, 7] (fun n i wr => ∃ k : Nat, k ≤ wd ∧ i = .int .i64 k ∧ n = .int .i64 (bval (rbits st.s st.at_ k)) ∧ RdS wr B ⟨st.s, st.at_ + k, st.e⟩ ∧ Fr (only B) w wr) (fun _ i _ => wd - (intOf i).toNat)
  case atStart => exact ⟨0, Nat.zero_le _, rfl, rfl, h, Fr.refl _ _⟩
  case round =>
    obtain ⟨k, hk, rfl, rfl, hr, hf⟩ := hrel
    have HR := Lib.hid hr
    have HF := Lib.hid hf
    clear hr hf h
    by_cases hlt2 : k < wd
    · have hv := bval_lt' (rbits st.s st.at_ k)
      rw [rbits_len] at hv
      have hp : 2 ^ k ≤ 4611686018427387904 := Nat.pow_le_pow_right (n := 2) (by decide) (show k ≤ 62 by omega)
      have hv2 : bval (rbits st.s st.at_ k) < 4611686018427387904 := by omega
      have HS := Lib.hid (rbits_succ st.s st.at_ k)
      have HV := Lib.hid (bval_snoc (rbits st.s st.at_ k) (sbit st.s (st.at_ + k)))
      have HO := Lib.hid (or_one (bval (rbits st.s st.at_ k)) (by omega))
      clear hv hp
      generalize bval (rbits st.s st.at_ k) = q at *
      generalize hsb : sbit st.s (st.at_ + k) = b at *
      have HB := Lib.hid hsb
      clear hsb
      go_wp2_with fail
      refine (next_any B _ _ HR.out (by simp only; omega)).mono ?_
      rintro e w' ⟨rfl, hr2, hf2⟩
      rw [HB.out]
      have HR2 := Lib.hid hr2
      have HF2 := Lib.hid hf2
      clear hr2 hf2
      cases b
      · go_wp2_with fail
        go_roundw
        case rel =>
          refine ⟨k + 1, by omega, by go_num, ?_, HR2.out, HF.out.onlyTrans HF2.out⟩
          rw [HS.out, HV.out]
          congr 1
          simp
          omega
        case measure => simp [intOf]; omega
      · go_wp2_with fail
        go_roundw
        case rel =>
          refine ⟨k + 1, by omega, by go_num, ?_, HR2.out, HF.out.onlyTrans HF2.out⟩
          rw [HS.out, HV.out, show ((q : Int) * 2) = ((2 * q : Nat) : Int) by omega, HO.out]
          rfl
        case measure => simp [intOf]; omega
    · go_wp2_with fail
      go_ret
      have e : k = wd := by omega
      subst e
      exact ⟨rfl, HR.out, HF.out⟩

/-- 'begin': may a field of size bits be read? -/
def rBegin (valid : Bool) (size : Int) (st : RSt) : Bool × RSt :=
  if st.e ≠ 0 then (false, st) else if valid = false then (false, ⟨ByteArray.empty, 0, 1⟩) else if size > 8 * (st.s.size : Int) - st.at_ then (false, ⟨ByteArray.empty, 0, 9⟩) else (true, st)

set_option maxHeartbeats 400000 in
theorem begin_any (B : Nat) (st : RSt) (valid : Bool) (size : Int) (w : World) (h : RdS w B st) :
    Calls Try.prog 123 #[.pointer (some ⟨B, 0, none⟩), .bool valid, .int .i64 size] w fun x w' => x = .returned (.bool (rBegin valid size st).1) ∧ RdS w' B (rBegin valid size st).2 ∧ Fr (only B) w w' := by
  obtain ⟨h0, h1, h2, f0, f1, f2⟩ := three_cells h.blk
  have H := Lib.hid h
  clear h
  by_cases he : st.e = 0
  · have hb : (st.e != 0) = false := by simpa using he
    cases valid
    · have HF := Lib.hid (show rBegin false size st = (false, ⟨ByteArray.empty, 0, 1⟩) by simp [rBegin, he])
      clear he
      go_enter Try.func123, Try.ntmps123
      go_wp2_with fail
      refine (fail_any B st 1 _ H.out).mono ?_
      rintro e w' ⟨rfl, hr, hf⟩
      have HR := Lib.hid hr
      clear hr
      go_wp2_with fail
      go_ret
      rw [HF.out]
      exact ⟨rfl, HR.out, hf⟩
    · by_cases hs : 8 * (st.s.size : Int) - st.at_ < size
      · have HF := Lib.hid (show rBegin true size st = (false, ⟨ByteArray.empty, 0, 9⟩) by simp [rBegin, he, hs])
        clear he
        go_enter Try.func123, Try.ntmps123
        go_wp2_with fail
        refine (left_any B st _ H.out).mono ?_
        rintro e w' ⟨rfl, rfl⟩
        go_wp2_with fail
        refine (fail_any B st 9 _ H.out.drew).mono ?_
        rintro e w' ⟨rfl, hr, hf⟩
        have HR := Lib.hid hr
        clear hr
        go_wp2_with fail
        go_ret
        rw [HF.out]
        exact ⟨rfl, HR.out, (Fr.refl _ _).drew.onlyTrans hf⟩
      · have HF := Lib.hid (show rBegin true size st = (true, st) by simp [rBegin, he, hs])
        clear he
        go_enter Try.func123, Try.ntmps123
        go_wp2_with fail
        refine (left_any B st _ H.out).mono ?_
        rintro e w' ⟨rfl, rfl⟩
        go_wp2_with fail
        go_ret
        rw [HF.out]
        exact ⟨rfl, H.out.drew, (Fr.refl _ _).drew⟩
  · have hb : (st.e != 0) = true := by simpa using he
    have HF := Lib.hid (show rBegin valid size st = (false, st) by simp [rBegin, he])
    clear he
    go_enter Try.func123, Try.ntmps123
    go_wp2_with fail
    go_ret
    rw [HF.out]
    exact ⟨rfl, H.out, Fr.refl _ _⟩

theorem rBegin_true {valid : Bool} {size : Int} {st : RSt} (h : (rBegin valid size st).1 = true) : st.e = 0 ∧ valid = true ∧ size ≤ 8 * (st.s.size : Int) - st.at_ ∧ (rBegin valid size st).2 = st := by
  unfold rBegin at h ⊢
  by_cases he : st.e = 0
  · cases valid
    · simp [he] at h
    · by_cases hs : 8 * (st.s.size : Int) - st.at_ < size
      · simp [he, hs] at h
      · simp [he, hs]; omega
  · simp [he] at h

/-- A field of wd bits as a number. -/
def rNum (valid : Bool) (wd : Int) (st : RSt) : Int × RSt :=
  if (rBegin valid wd st).1 then ((bval (rbits st.s st.at_ wd.toNat) : Int), ⟨st.s, st.at_ + wd.toNat, st.e⟩) else (0, (rBegin valid wd st).2)
def rUnsigned (wd : Int) (st : RSt) : Int × RSt := rNum (between 1 63 wd) wd st

theorem between_iff {a b x : Int} (h : between a b x = true) : a ≤ x ∧ x ≤ b := by simpa [between] using h

set_option maxHeartbeats 400000 in
theorem rUnsigned_any (B : Nat) (st : RSt) (wd : Int) (w : World) (h : RdS w B st) :
    Calls Try.prog 87 #[.pointer (some ⟨B, 0, none⟩), .int .i64 wd] w fun x w' => x = .returned (.int .i64 (rUnsigned wd st).1) ∧ RdS w' B (rUnsigned wd st).2 ∧ Fr (only B) w w' := by
  have H := Lib.hid h
  clear h
  cases hb : (rBegin (between 1 63 wd) wd st).1
  · have HF := Lib.hid (show rUnsigned wd st = (0, (rBegin (between 1 63 wd) wd st).2) by simp [rUnsigned, rNum, hb])
    have HB := Lib.hid hb
    clear hb
    go_enter Try.func87, Try.ntmps87
    go_wp2_with (go_at_call 124; refine (isUnsigned_any _ _).mono ?_; rintro e w' ⟨rfl, rfl⟩)
    refine (begin_any B st _ wd _ H.out).mono ?_
    rw [HB.out]
    rintro e w' ⟨rfl, hr, hf⟩
    have HR := Lib.hid hr
    clear hr
    go_wp2_with fail
    go_ret
    rw [HF.out]
    exact ⟨rfl, HR.out, hf⟩
  · obtain ⟨he, hv, hs, h2⟩ := rBegin_true hb
    have hw := between_iff hv
    have HF := Lib.hid (show rUnsigned wd st = ((bval (rbits st.s st.at_ wd.toNat) : Int), ⟨st.s, st.at_ + wd.toNat, st.e⟩) by simp [rUnsigned, rNum, hb])
    have HB := Lib.hid hb
    have H2 := Lib.hid h2
    obtain ⟨m, rfl⟩ := Int.eq_ofNat_of_zero_le (show 0 ≤ wd by omega)
    clear hb h2 he hv
    go_enter Try.func87, Try.ntmps87
    go_wp2_with (go_at_call 124; refine (isUnsigned_any _ _).mono ?_; rintro e w' ⟨rfl, rfl⟩)
    refine (begin_any B st _ _ _ H.out).mono ?_
    rw [HB.out, H2.out]
    rintro e w' ⟨rfl, hr, hf⟩
    have HR := Lib.hid hr
    have hle := H.out.le
    clear hr
    go_wp2_with fail
    refine (collect_any B st m _ (by omega) HR.out (by omega)).mono ?_
    rintro e w2 ⟨rfl, hr2, hf2⟩
    have HR2 := Lib.hid hr2
    clear hr2
    go_wp2_with fail
    go_ret
    rw [HF.out]
    exact ⟨rfl, HR2.out, hf.onlyTrans hf2⟩
end Go.Proofs.Ytelpdihaonoedaa
