/- RefR, RefR2, RefR3, RefR4 in one text. -/
import Derived.Test.YtelpdihaonoedaaRead3
import Derived.Test.YtelpdihaonoedaaRefW2
namespace Go.Proofs.Ytelpdihaonoedaa
open Go.RowKit
set_option maxRecDepth 20000

structure RdR (w : World) (B : Nat) (st : RSt) : Prop where
  blk : w.heap[B]? = some (.cells #[.string st.s, .int .i64 st.at_, .int .i64 st.e] 106 (0, 0))
  le : st.at_ ≤ 8 * st.s.size
  sz : st.s.size ≤ 65536

theorem RdR.kept {w w' : World} {B : Nat} {st : RSt} {S : Nat → Prop} (h : RdR w B st) (hf : Fr S w w') (h1 : ¬ S B) : RdR w' B st := ⟨hf.blk h.blk h1, h.le, h.sz⟩
theorem RdR.alloc {w : World} {B : Nat} {st : RSt} (h : RdR w B st) (o : Obj) : RdR (w.alloc o) B st := h.kept ((Fr.refl (fun _ => False) w).alloc o) (fun h => h)
theorem RdR.drew {w : World} {B : Nat} {st : RSt} (h : RdR w B st) : RdR w.drew B st := ⟨h.blk, h.le, h.sz⟩
theorem RdR.drewN {w : World} {B : Nat} {st : RSt} (h : RdR w B st) (n : Nat) : RdR (w.drewN n) B st := ⟨h.blk, h.le, h.sz⟩

theorem failR_any (B : Nat) (st : RSt) (e : Int) (w : World) (h : RdR w B st) :
    Calls Try.prog 98 #[.pointer (some ⟨B, 0, none⟩), .int .i64 e] w fun x w' => x = .returned (.tuple #[]) ∧ RdR w' B ⟨ByteArray.empty, 0, e⟩ ∧ Fr (only B) w w' := by
  obtain ⟨h0, h1, h2, f0, f1, f2⟩ := three_cells h.blk
  have H := Lib.hid h
  clear h
  go_enter Try.func98, Try.ntmps98
  go_wp2
  go_end0
  refine ⟨rfl, ⟨?_, by simp, by simp⟩, (((Fr.refl (only B) w).setCell (p := ⟨B, 2, none⟩) (.inl rfl) _).setCell (p := ⟨B, 0, none⟩) (.inl rfl) _).setCell (p := ⟨B, 1, none⟩) (.inl rfl) _⟩
  rw [three_set (three_set (three_set H.out.blk 2 _) 0 _) 1 _]
  rfl

theorem leftR_any (B : Nat) (st : RSt) (w : World) (h : RdR w B st) :
    Calls Try.prog 100 #[.pointer (some ⟨B, 0, none⟩)] w fun x w' => x = .returned (.int .i64 (8 * (st.s.size : Int) - st.at_)) ∧ w' = w.drew := by
  obtain ⟨h0, h1, h2, f0, f1, f2⟩ := three_cells h.blk
  have hle := h.le
  have hsz := h.sz
  clear h
  go_enter Try.func100, Try.ntmps100
  go_wp2
  go_region
  go_wp2
  go_ret
  exact ⟨rfl, rfl⟩

theorem getR_dead (B : Nat) (st : RSt) (wd : Int) (w : World) (h : RdR w B st) (he : st.e ≠ 0) :
    Calls Try.prog 99 #[.pointer (some ⟨B, 0, none⟩), .int .i64 wd] w fun x w' => x = .returned (.int .i64 0) ∧ w' = w := by
  obtain ⟨h0, h1, h2, f0, f1, f2⟩ := three_cells h.blk
  have hb : (st.e != 0) = true := by simpa using he
  clear h he
  go_enter Try.func99, Try.ntmps99
  go_wp2_with fail
  go_ret
  exact ⟨rfl, rfl⟩

theorem shr_bits (x p : Nat) (hx : x < 256) (hp : p < 8) : bits .and .i64 (wrap64 (x : Int) / 2 ^ (7 - p)) 1 = ((x.testBit (7 - p)).toNat : Int) := by
  have h : ∀ x : Fin 256, ∀ p : Fin 8, bits .and .i64 (wrap64 ((x.val : Nat) : Int) / 2 ^ (7 - p.val)) 1 = ((x.val.testBit (7 - p.val)).toNat : Int) := by decide +kernel
  exact h ⟨x, hx⟩ ⟨p, hp⟩
theorem sbit_at (s : ByteArray) (a : Nat) (hx : a / 8 < s.size) : bits .and .i64 (wrap64 ((s[a / 8]).toNat : Int) / 2 ^ (7 - a % 8)) 1 = ((sbit s a).toNat : Int) := by
  rw [shr_bits _ (a % 8) (s[a / 8]).toNat_lt (by omega)]
  congr 3
  congr 1
  rw [List.getD_eq_getElem?_getD, List.getElem?_eq_getElem (by simpa using hx)]
  rfl
theorem or_zero (n : Nat) (h : 2 * n < 9223372036854775808) : bits .or .i64 ((2 * n : Nat) : Int) 0 = ((2 * n : Nat) : Int) := by
  show IntKind.i64.wrap ((BitVec.ofInt 64 ((2 * n : Nat) : Int) ||| BitVec.ofInt 64 0).toNat : Int) = _
  have k : (BitVec.ofInt 64 ((2 * n : Nat) : Int) ||| BitVec.ofInt 64 0).toNat = 2 * n := by
    rw [BitVec.toNat_or]
    simp only [BitVec.toNat_ofInt]
    rw [show ((0 : Int) % ((2 ^ 64 : Nat) : Int)).toNat = 0 from by decide, Nat.or_zero]
    omega
  rw [k, IntKind.wrap_i64]
  omega
theorem or_bit (n : Nat) (b : Bool) (h : 2 * n + 1 < 9223372036854775808) : bits .or .i64 ((n : Int) * 2) ((b.toNat : Nat) : Int) = ((2 * n + b.toNat : Nat) : Int) := by
  rw [show ((n : Int) * 2) = ((2 * n : Nat) : Int) by omega]
  cases b
  · exact or_zero n (by omega)
  · exact or_one n (by omega)

set_option maxHeartbeats 1000000 in
theorem getR_any (B : Nat) (st : RSt) (wd : Nat) (w : World) (hw : wd ≤ 63) (h : RdR w B st) :
    Calls Try.prog 99 #[.pointer (some ⟨B, 0, none⟩), .int .i64 wd] w fun x w' => x = .returned (.int .i64 (rNum true wd st).1) ∧ RdR w' B (rNum true wd st).2 ∧ Fr (only B) w w' := by
  obtain ⟨h0, h1, h2, f0, f1, f2⟩ := three_cells h.blk
  have H := Lib.hid h
  have hle := h.le
  have hsz := h.sz
  clear h
  by_cases he : st.e = 0
  · have hb : (st.e != 0) = false := by simpa using he
    by_cases hs : 8 * (st.s.size : Int) - st.at_ < wd
    · have HF := Lib.hid (show rNum true wd st = (0, ⟨ByteArray.empty, 0, 9⟩) by simp [rNum, rBegin, he, hs])
      clear he
      go_enter Try.func99, Try.ntmps99
      go_wp2_with fail
      refine (leftR_any B st _ H.out).mono ?_
      rintro e w' ⟨rfl, rfl⟩
      go_wp2_with fail
      refine (failR_any B st 9 _ H.out.drew).mono ?_
      rintro e w' ⟨rfl, hr, hf⟩
      have HR := Lib.hid hr
      clear hr
      go_wp2_with fail
      go_ret
      rw [HF.out]
      exact ⟨rfl, HR.out, (Fr.refl _ _).drew.onlyTrans hf⟩
    · have HF := Lib.hid (show rNum true wd st = ((bval (rbits st.s st.at_ wd) : Int), ⟨st.s, st.at_ + wd, st.e⟩) by simp [rNum, rBegin, he, hs])
      clear he
      go_enter Try.func99, Try.ntmps99
      go_wp2_with fail
      refine (leftR_any B st _ H.out).mono ?_
      rintro e w' ⟨rfl, rfl⟩
      go_wp2_with fail
      go_loopw [5, 6] (fun n i wr => ∃ k : Nat, k ≤ wd ∧ i = .int .i64 k ∧ n = .int .i64 (bval (rbits st.s st.at_ k)) ∧ RdR wr B ⟨st.s, st.at_ + k, st.e⟩ ∧ Fr (only B) w wr) (fun _ i _ => wd - (intOf i).toNat)
      case atStart => exact ⟨0, Nat.zero_le _, rfl, rfl, H.out.drew, (Fr.refl _ _).drew⟩
      case round =>
        obtain ⟨k, hk, rfl, rfl, hr, hf⟩ := hrel
        obtain ⟨h0, h1, h2, f0, f1, f2⟩ := three_cells hr.blk
        have HR := Lib.hid hr
        have HFr := Lib.hid hf
        clear hr hf
        by_cases hlt2 : k < wd
        · have hv := bval_lt' (rbits st.s st.at_ k)
          rw [rbits_len] at hv
          have hp : 2 ^ k ≤ 4611686018427387904 := Nat.pow_le_pow_right (n := 2) (by decide) (show k ≤ 62 by omega)
          have hv2 : bval (rbits st.s st.at_ k) < 4611686018427387904 := by omega
          have HS := Lib.hid (rbits_succ st.s st.at_ k)
          have HV := Lib.hid (bval_snoc (rbits st.s st.at_ k) (sbit st.s (st.at_ + k)))
          have HO := Lib.hid (or_bit (bval (rbits st.s st.at_ k)) (sbit st.s (st.at_ + k)) (by omega))
          clear hv hp
          simp only at h0 h1 h2
          generalize bval (rbits st.s st.at_ k) = q at *
          generalize ha : st.at_ + k = a at *
          have hx : a / 8 < st.s.size := by omega
          have HB := Lib.hid (sbit_at st.s a hx)
          have hw1 : IntKind.i64.wrap ((a : Int) / 8) = (a : Int) / 8 := IntWalk.i64_in _ (by omega)
          have hw2 : IntKind.i64.wrap ((a : Int) % 8) = (a : Int) % 8 := IntWalk.i64_in _ (by omega)
          have hi1 : 0 ≤ (a : Int) / 8 := by omega
          have hi2 : (a : Int) / 8 < st.s.size := by omega
          have hw3 : IntKind.i64.wrap (7 - (a : Int) % 8) = 7 - (a : Int) % 8 := IntWalk.i64_in _ (by omega)
          have hw4 : IntKind.i64.wrap ((q : Int) * 2) = (q : Int) * 2 := IntWalk.i64_in _ (by omega)
          have hn : 0 ≤ 7 - (a : Int) % 8 := by omega
          go_wp2_with fail
          go_quiet (fail)
          rw [HB.out, HO.out]
          go_wp2_with fail
          go_roundw
          case rel =>
            refine ⟨k + 1, by omega, by go_num, ?_, ⟨?_, by simp only; omega, hsz⟩, (HFr.out.drewN _).setCell (p := ⟨B, 1, none⟩) (.inl rfl) _⟩
            · rw [HS.out, HV.out]
            · rw [three_set (HR.out.drewN _).blk 1 _]
              simp only [← Nat.add_assoc, ha]
              rfl
          case measure => simp [intOf]; omega
        · go_wp2_with fail
          go_ret
          have e : k = wd := by omega
          subst e
          rw [HF.out]
          exact ⟨rfl, HR.out, HFr.out⟩
  · have HF := Lib.hid (show rNum true wd st = (0, st) by simp [rNum, rBegin, he])
    refine (getR_dead B st wd w H.out he).mono ?_
    rintro e w' ⟨rfl, rfl⟩
    rw [HF.out]
    exact ⟨rfl, H.out, Fr.refl _ _⟩
end Go.Proofs.Ytelpdihaonoedaa
namespace Go.Proofs.Ytelpdihaonoedaa
open Go.RowKit
set_option maxRecDepth 20000

set_option maxHeartbeats 400000 in
theorem newReaderR_any (s : ByteArray) (w : World) (hs : s.size ≤ 9223372036854775807) :
    Calls Try.prog 49 #[.string s] w fun x w' => x = .returned (.pointer (some ⟨w.heap.size, 0, none⟩)) ∧ RdR w' w.heap.size (rNew s) ∧ Fr (fun _ => False) w w' := by
  by_cases h : 65536 < s.size
  · have HF := Lib.hid (show rNew s = ⟨ByteArray.empty, 0, 8⟩ by simp [rNew, h])
    go_enter Try.func49, Try.ntmps49
    go_wp2
    go_ret
    rw [HF.out]
    exact ⟨rfl, ⟨heap_alloc_new w _, by simp, by simp⟩, (Fr.refl (fun _ => False) w).alloc _⟩
  · have HF := Lib.hid (show rNew s = ⟨s, 0, 0⟩ by simp [rNew, h])
    go_enter Try.func49, Try.ntmps49
    go_wp2
    go_ret
    rw [HF.out]
    exact ⟨rfl, ⟨heap_alloc_new w _, by simp, by simp only; omega⟩, (Fr.refl (fun _ => False) w).alloc _⟩

/-- What a live reader answers: the bits, and stays live; or zero, and is dead. -/
theorem rNum_live (wd : Int) (st : RSt) (he : st.e = 0) : ((rNum true wd st).1 = 0 ∧ ((rNum true wd st).2.e == 0) = false) ∨ (∃ q : Nat, (rNum true wd st).1 = q ∧ q < 2 ^ wd.toNat ∧ ((rNum true wd st).2.e == 0) = true) := by
  unfold rNum
  by_cases hs : 8 * (st.s.size : Int) - st.at_ < wd
  · left; simp [rBegin, he, hs]
  · right
    have := bval_lt' (rbits st.s st.at_ wd.toNat)
    rw [rbits_len] at this
    exact ⟨bval (rbits st.s st.at_ wd.toNat), by simp [rBegin, he, hs], this, by simp [rBegin, he, hs]⟩

theorem rNum_valid (wd : Int) (st : RSt) (h : ¬ (st.e = 0 ∧ ¬ (1 ≤ wd ∧ wd ≤ 63))) : rUnsigned wd st = rNum true wd st := by
  unfold rUnsigned rNum rBegin
  by_cases he : st.e = 0
  · have : between 1 63 wd = true := by simp [between]; omega
    simp [he, this]
  · simp [he]

set_option maxHeartbeats 400000 in
theorem rUnsignedR_any (B : Nat) (st : RSt) (wd : Int) (w : World) (h : RdR w B st) :
    Calls Try.prog 50 #[.pointer (some ⟨B, 0, none⟩), .int .i64 wd] w fun x w' => x = .returned (.int .i64 (rUnsigned wd st).1) ∧ RdR w' B (rUnsigned wd st).2 ∧ Fr (only B) w w' := by
  obtain ⟨h0, h1, h2, f0, f1, f2⟩ := three_cells h.blk
  have H := Lib.hid h
  clear h
  by_cases he : st.e = 0
  · have hb : (st.e == 0) = true := by simpa using he
    by_cases hv : 1 ≤ wd ∧ wd ≤ 63
    · have HF := Lib.hid (rNum_valid wd st (by simp [hv]))
      obtain ⟨m, rfl⟩ := Int.eq_ofNat_of_zero_le (show 0 ≤ wd by omega)
      obtain ⟨v1, v2⟩ := hv
      clear he
      go_enter Try.func50, Try.ntmps50
      go_wp2_with fail
      refine (getR_any B st m _ (by omega) H.out).mono ?_
      rw [← HF.out]
      rintro e w' ⟨rfl, hr, hf⟩
      have HR := Lib.hid hr
      clear hr
      go_wp2_with fail
      go_ret
      exact ⟨rfl, HR.out, hf⟩
    · have HF := Lib.hid (show rUnsigned wd st = (0, ⟨ByteArray.empty, 0, 1⟩) by
        have : between 1 63 wd = false := by simp [between]; omega
        simp [rUnsigned, rNum, rBegin, he, this])
      clear he
      by_cases hv1 : wd < 1
      · clear hv
        go_enter Try.func50, Try.ntmps50
        go_wp2_with fail
        refine (failR_any B st 1 _ H.out).mono ?_
        rintro e w' ⟨rfl, hr, hf⟩
        have HR := Lib.hid hr
        clear hr
        go_wp2_with fail
        refine (getR_dead B _ wd _ HR.out (by simp)).mono ?_
        rintro e w2 ⟨rfl, rfl⟩
        go_wp2_with fail
        go_ret
        rw [HF.out]
        exact ⟨rfl, HR.out, hf⟩
      · have hv2 : 63 < wd := by omega
        clear hv
        go_enter Try.func50, Try.ntmps50
        go_wp2_with fail
        refine (failR_any B st 1 _ H.out).mono ?_
        rintro e w' ⟨rfl, hr, hf⟩
        have HR := Lib.hid hr
        clear hr
        go_wp2_with fail
        refine (getR_dead B _ wd _ HR.out (by simp)).mono ?_
        rintro e w2 ⟨rfl, rfl⟩
        go_wp2_with fail
        go_ret
        rw [HF.out]
        exact ⟨rfl, HR.out, hf⟩
  · have hb : (st.e == 0) = false := by simpa using he
    have HF := Lib.hid (show rUnsigned wd st = (0, st) by simp [rUnsigned, rNum, rBegin, he])
    go_enter Try.func50, Try.ntmps50
    go_wp2_with fail
    refine (getR_dead B _ wd _ H.out he).mono ?_
    rintro e w2 ⟨rfl, rfl⟩
    go_wp2_with fail
    go_ret
    rw [HF.out]
    exact ⟨rfl, H.out, Fr.refl _ _⟩

theorem rFlag_get (st : RSt) : rFlag st = (((rNum true 1 st).1 == 1), (rNum true 1 st).2) := by
  unfold rFlag rNum
  cases hb : (rBegin true 1 st).1
  · simp
  · simp only [if_true]
    have : (1 : Int).toNat = 1 := rfl
    rw [this]
    have h1 : rbits st.s st.at_ 1 = [sbit st.s st.at_] := by simp [rbits, List.range_succ]
    rw [h1]
    cases sbit st.s st.at_ <;> rfl

theorem rFlagR_any (B : Nat) (st : RSt) (w : World) (h : RdR w B st) :
    Calls Try.prog 51 #[.pointer (some ⟨B, 0, none⟩)] w fun x w' => x = .returned (.bool (rFlag st).1) ∧ RdR w' B (rFlag st).2 ∧ Fr (only B) w w' := by
  have HF := Lib.hid (rFlag_get st)
  have HG : Hid (Calls Try.prog 99 #[.pointer (some ⟨B, 0, none⟩), .int .i64 1] w fun x w' => x = .returned (.int .i64 (rNum true 1 st).1) ∧ RdR w' B (rNum true 1 st).2 ∧ Fr (only B) w w') := Lib.hid (getR_any B st 1 w (by decide) h)
  clear h
  rw [HF.out]
  clear HF
  generalize rNum true 1 st = r at *
  obtain ⟨r1, r2⟩ := r
  simp only at HG ⊢
  go_enter Try.func51, Try.ntmps51
  go_wp2_with fail
  refine HG.out.mono ?_
  rintro e w' ⟨rfl, hr, hf⟩
  have HR := Lib.hid hr
  clear hr
  cases hq : r1 == 1
  · go_wp2_with fail
    go_ret
    exact ⟨by rw [hq]; rfl, HR.out, hf⟩
  · go_wp2_with fail
    go_ret
    exact ⟨by rw [hq]; rfl, HR.out, hf⟩

theorem rSigned_get (wd : Int) (st : RSt) (h : ¬ (st.e = 0 ∧ ¬ (2 ≤ wd ∧ wd ≤ 63))) : rSigned wd st = (if (rNum true wd st).2.e = 0 then sval wd.toNat (rNum true wd st).1.toNat else 0, (rNum true wd st).2) := by
  unfold rSigned rNum
  by_cases he : st.e = 0
  · have hv : 2 ≤ wd ∧ wd ≤ 63 := by
      by_cases h2 : 2 ≤ wd ∧ wd ≤ 63
      · exact h2
      · exact absurd ⟨he, h2⟩ h
    have : between 2 63 wd = true := by simp [between, hv]
    rw [this]
    cases hb : (rBegin true wd st).1
    · have : (rBegin true wd st).2.e ≠ 0 := by
        unfold rBegin at hb ⊢
        by_cases hs : 8 * (st.s.size : Int) - st.at_ < wd
        · simp [he, hs]
        · simp [he, hs] at hb
      simp [this]
    · simp [he]
  · simp [rBegin, he]

theorem sval_two (m q : Nat) (h1 : 2 ≤ m) (h : 2 ^ (m - 1) ≤ q) : sval m q = (q : Int) - ((2 ^ (m - 1) : Nat) : Int) - ((2 ^ (m - 1) : Nat) : Int) := by
  unfold sval
  rw [if_neg (by omega)]
  obtain ⟨k, rfl⟩ : ∃ k, m = k + 1 := ⟨m - 1, by omega⟩
  rw [Int.pow_succ]
  push_cast
  omega

set_option maxHeartbeats 1000000 in
theorem rSignedR_any (B : Nat) (st : RSt) (wd : Int) (w : World) (h : RdR w B st) :
    Calls Try.prog 52 #[.pointer (some ⟨B, 0, none⟩), .int .i64 wd] w fun x w' => x = .returned (.int .i64 (rSigned wd st).1) ∧ RdR w' B (rSigned wd st).2 ∧ Fr (only B) w w' := by
  obtain ⟨h0, h1, h2, f0, f1, f2⟩ := three_cells h.blk
  have H := Lib.hid h
  clear h
  by_cases he : st.e = 0
  · have hb : (st.e == 0) = true := by simpa using he
    by_cases hv : 2 ≤ wd ∧ wd ≤ 63
    · have hF := rSigned_get wd st (by simp [hv])
      have hN := rNum_live wd st he
      obtain ⟨m, rfl⟩ := Int.eq_ofNat_of_zero_le (show 0 ≤ wd by omega)
      obtain ⟨v1, v2⟩ := hv
      have v1 : 2 ≤ m := by omega
      have v2 : m ≤ 63 := by omega
      have HG := Lib.hid (getR_any B st m w v2 H.out)
      clear he
      generalize rNum true (m : Int) st = r at *
      obtain ⟨r1, r2⟩ := r
      simp only at hF hN HG
      rcases hN with ⟨rfl, hd⟩ | ⟨q, rfl, hq, hd⟩
      · have HF := Lib.hid (show rSigned (m : Int) st = (0, r2) by
          have : r2.e ≠ 0 := by simpa using hd
          simpa [this] using hF)
        have HD := Lib.hid hd
        clear hF hd
        go_enter Try.func52, Try.ntmps52
        go_wp2_with fail
        refine HG.out.mono ?_
        rintro e w' ⟨rfl, hr, hf⟩
        have HR := Lib.hid hr
        obtain ⟨g0, g1, g2, k0, k1, k2⟩ := three_cells hr.blk
        have hd := HD.out
        clear hr h0 h1 h2 f0 f1 f2
        go_wp2_with fail
        go_ret
        rw [HF.out]
        exact ⟨rfl, HR.out, hf⟩
      · have HF := Lib.hid (show rSigned (m : Int) st = (sval m q, r2) by
          have : r2.e = 0 := by simpa using hd
          simpa [this] using hF)
        have HD := Lib.hid hd
        have hp : 2 ^ (m - 1) ≤ 4611686018427387904 := Nat.pow_le_pow_right (n := 2) (by decide) (show m - 1 ≤ 62 by omega)
        have hp0 : 0 < 2 ^ (m - 1) := Nat.pow_pos (by decide)
        have hp2 : 2 ^ m = 2 * 2 ^ (m - 1) := by
          rw [show m = (m - 1) + 1 by omega, Nat.pow_succ]; simp; omega
        simp only [Int.toNat_natCast] at hq
        have HS := Lib.hid (sval_two m q v1)
        have HS0 := Lib.hid (show q < 2 ^ (m - 1) → sval m q = q from fun h => by unfold sval; rw [if_pos h])
        clear hF hd
        have hw : IntKind.i64.wrap ((m : Int) - 1) = (m : Int) - 1 := IntWalk.i64_in _ (by omega)
        have hn : 0 ≤ (m : Int) - 1 := by omega
        go_enter Try.func52, Try.ntmps52
        go_wp2_with fail
        refine HG.out.mono ?_
        rintro e w' ⟨rfl, hr, hf⟩
        have HR := Lib.hid hr
        obtain ⟨g0, g1, g2, k0, k1, k2⟩ := three_cells hr.blk
        have hd := HD.out
        clear hr h0 h1 h2 f0 f1 f2
        have hP : (2 : Int) ^ (m - 1) = ((2 ^ (m - 1) : Nat) : Int) := by push_cast; rfl
        have hp' : (2 : Int) ^ (m - 1) ≤ 4611686018427387904 := by omega
        have hp0' : 1 ≤ (2 : Int) ^ (m - 1) := by omega
        have hq' : (q : Int) < 2 * (2 : Int) ^ (m - 1) := by omega
        have hwp : wrap64 ((2 : Int) ^ (m - 1)) = (2 : Int) ^ (m - 1) := by
          unfold wrap64
          omega
        by_cases hlt : q < 2 ^ (m - 1)
        · have hlt' : (q : Int) < (2 : Int) ^ (m - 1) := by omega
          have HS1 := Lib.hid (HS0.out hlt)
          clear hp hp0 hp2 hq hP hlt
          go_wp2_with fail
          go_ret
          rw [HF.out, HS1.out]
          exact ⟨rfl, HR.out, hf⟩
        · have hlt' : (2 : Int) ^ (m - 1) ≤ (q : Int) := by omega
          have HS1 := Lib.hid (show sval m q = (q : Int) - (2 : Int) ^ (m - 1) - (2 : Int) ^ (m - 1) by rw [hP]; exact HS.out (by omega))
          clear hp hp0 hp2 hq hP hlt
          go_wp2_with fail
          have hw5 : IntKind.i64.wrap ((q : Int) - (2 : Int) ^ (m - 1)) = (q : Int) - (2 : Int) ^ (m - 1) := IntWalk.i64_in _ (by omega)
          have hw6 : IntKind.i64.wrap ((q : Int) - (2 : Int) ^ (m - 1) - (2 : Int) ^ (m - 1)) = (q : Int) - (2 : Int) ^ (m - 1) - (2 : Int) ^ (m - 1) := IntWalk.i64_in _ (by omega)
          go_quiet (fail)
          go_wp2_with fail
          go_ret
          rw [HF.out, HS1.out]
          exact ⟨rfl, HR.out.drewN _, hf.drewN _⟩
    · have HF := Lib.hid (show rSigned wd st = (0, ⟨ByteArray.empty, 0, 1⟩) by
        have : between 2 63 wd = false := by simp [between]; omega
        simp [rSigned, rBegin, he, this])
      clear he
      by_cases hv1 : wd < 2
      · clear hv
        go_enter Try.func52, Try.ntmps52
        go_wp2_with fail
        refine (failR_any B st 1 _ H.out).mono ?_
        rintro e w' ⟨rfl, hr, hf⟩
        have HR := Lib.hid hr
        obtain ⟨g0, g1, g2, k0, k1, k2⟩ := three_cells hr.blk
        clear hr
        go_wp2_with fail
        refine (getR_dead B _ wd _ HR.out (by simp)).mono ?_
        rintro e w2 ⟨rfl, rfl⟩
        go_wp2_with fail
        go_ret
        rw [HF.out]
        exact ⟨rfl, HR.out, hf⟩
      · have hv2 : 63 < wd := by omega
        clear hv
        go_enter Try.func52, Try.ntmps52
        go_wp2_with fail
        refine (failR_any B st 1 _ H.out).mono ?_
        rintro e w' ⟨rfl, hr, hf⟩
        have HR := Lib.hid hr
        obtain ⟨g0, g1, g2, k0, k1, k2⟩ := three_cells hr.blk
        clear hr
        go_wp2_with fail
        refine (getR_dead B _ wd _ HR.out (by simp)).mono ?_
        rintro e w2 ⟨rfl, rfl⟩
        go_wp2_with fail
        go_ret
        rw [HF.out]
        exact ⟨rfl, HR.out, hf⟩
  · have hb : (st.e == 0) = false := by simpa using he
    have HF := Lib.hid (show rSigned wd st = (0, st) by simp [rSigned, rBegin, he])
    go_enter Try.func52, Try.ntmps52
    go_wp2_with fail
    refine (getR_dead B _ wd _ H.out he).mono ?_
    rintro e w2 ⟨rfl, rfl⟩
    go_wp2_with fail
    go_ret
    rw [HF.out]
    exact ⟨rfl, H.out, Fr.refl _ _⟩

theorem bval_zeroR (l : List Bool) : bval l = 0 ↔ ∀ b ∈ l, b = false := by
  rw [← List.reverse_reverse l]
  generalize l.reverse = r
  induction r with
  | nil => simp [bval]
  | cons b r ih =>
    rw [List.reverse_cons, bval_snoc]
    simp only [List.mem_append, List.mem_reverse, List.mem_singleton] at ih ⊢
    cases b <;> simp at ih ⊢
    rw [← ih]
    omega
theorem rbits_zeroR (s : ByteArray) (a k : Nat) : bval (rbits s a k) = 0 ↔ ∀ i, i < k → sbit s (a + i) = false := by
  rw [bval_zeroR]
  simp [rbits]

set_option maxHeartbeats 1000000 in
theorem rCloseR_any (B : Nat) (st : RSt) (w : World) (h : RdR w B st) :
    Calls Try.prog 54 #[.pointer (some ⟨B, 0, none⟩)] w fun x w' => x = .returned (.int .i64 (rClose st)) ∧ Fr (fun _ => False) w w' := by
  obtain ⟨h0, h1, h2, f0, f1, f2⟩ := three_cells h.blk
  have H := Lib.hid h
  have hle := h.le
  have hsz := h.sz
  clear h
  by_cases he : st.e = 0
  · have hb : (st.e != 0) = false := by simpa using he
    by_cases h8 : 8 ≤ 8 * st.s.size - st.at_
    · have HF := Lib.hid (show rClose st = 10 by simp [rClose, he, h8])
      clear he
      go_enter Try.func54, Try.ntmps54
      go_wp2_with fail
      refine (leftR_any B st _ H.out).mono ?_
      rintro e w' ⟨rfl, rfl⟩
      go_wp2_with fail
      go_ret
      rw [HF.out]
      exact ⟨rfl, (Fr.refl _ _).drew⟩
    · have HC := Lib.hid (show rClose st = if bval (rbits st.s st.at_ (8 * st.s.size - st.at_)) ≠ 0 then 10 else 0 by simp [rClose, he, h8])
      clear he
      go_enter Try.func54, Try.ntmps54
      go_wp2_with fail
      refine (leftR_any B st _ H.out).mono ?_
      rintro e w' ⟨rfl, rfl⟩
      go_wp2_with fail
      go_loopw [3] (fun i wr => ∃ k : Nat, st.at_ ≤ k ∧ k ≤ 8 * st.s.size ∧ i = .int .i64 k ∧ (∀ j, st.at_ ≤ j → j < k → sbit st.s j = false) ∧ RdR wr B st ∧ Fr (fun _ => False) w wr) (fun i _ => 8 * st.s.size - (intOf i).toNat)
      case atStart => exact ⟨st.at_, Nat.le_refl _, hle, rfl, fun j a b => by omega, H.out.drew, (Fr.refl _ _).drew⟩
      case round =>
        obtain ⟨k, hk1, hk, rfl, hall, hr, hf⟩ := hrel
        obtain ⟨h0, h1, h2, f0, f1, f2⟩ := three_cells hr.blk
        have HR := Lib.hid hr
        have HFr := Lib.hid hf
        have HA := Lib.hid hall
        clear hr hf hall
        by_cases hlt2 : k < 8 * st.s.size
        · have hx : k / 8 < st.s.size := by omega
          have HB := Lib.hid (sbit_at st.s k hx)
          have hw1 : IntKind.i64.wrap ((k : Int) / 8) = (k : Int) / 8 := IntWalk.i64_in _ (by omega)
          have hw2 : IntKind.i64.wrap ((k : Int) % 8) = (k : Int) % 8 := IntWalk.i64_in _ (by omega)
          have hi1 : 0 ≤ (k : Int) / 8 := by omega
          have hi2 : (k : Int) / 8 < st.s.size := by omega
          have hw3 : IntKind.i64.wrap (7 - (k : Int) % 8) = 7 - (k : Int) % 8 := IntWalk.i64_in _ (by omega)
          have hn : 0 ≤ 7 - (k : Int) % 8 := by omega
          go_wp2_with fail
          · next hq =>
            have hq2 : sbit st.s k = true := by
              rw [HB.out] at hq
              cases hs : sbit st.s k
              · simp [hs] at hq
              · rfl
            have HF := Lib.hid (show rClose st = 10 by
              rw [HC.out, if_pos]
              rw [ne_eq, rbits_zeroR]
              intro hall
              have := hall (k - st.at_) (by omega)
              rw [show st.at_ + (k - st.at_) = k by omega, hq2] at this
              exact absurd this (by decide))
            go_ret
            rw [HF.out]
            exact ⟨rfl, HFr.out⟩
          · next hq =>
            have hq2 : sbit st.s k = false := by
              rw [HB.out] at hq
              cases hs : sbit st.s k
              · rfl
              · simp [hs] at hq
            refine ⟨⟨k + 1, by omega, by omega, by go_num, ?_, HR.out, HFr.out⟩, ?_⟩
            · intro j hj1 hj2
              by_cases hjk : j = k
              · rw [hjk]; exact hq2
              · exact HA.out j hj1 (by omega)
            · simp [intOf]; omega
        · have e : k = 8 * st.s.size := by omega
          have HF := Lib.hid (show rClose st = 0 by
            rw [HC.out, if_neg]
            rw [ne_eq, Classical.not_not, rbits_zeroR]
            intro i hi
            exact HA.out _ (by omega) (by omega))
          go_wp2_with fail
          go_ret
          rw [HF.out]
          exact ⟨rfl, HFr.out⟩
  · have hb : (st.e != 0) = true := by simpa using he
    have HF := Lib.hid (show rClose st = st.e by simp [rClose, he])
    clear he
    go_enter Try.func54, Try.ntmps54
    go_wp2_with fail
    go_ret
    rw [HF.out]
    exact ⟨rfl, Fr.refl _ _⟩
end Go.Proofs.Ytelpdihaonoedaa
namespace Go.Proofs.Ytelpdihaonoedaa
open Go.RowKit
set_option maxRecDepth 20000

theorem rwidth_flip (most : Int) (w : World) (h2 : most ≤ 9223372036854775807) :
    Calls Try.prog 82 #[.int .i64 most] w fun e w' => e = .returned (.int .i64 (width most)) ∧ w = w' := (rwidth_any most w h2).mono fun _ _ h => ⟨h.1, h.2.symm⟩
theorem getR_flip (B : Nat) (st : RSt) (wd : Int) (w : World) (h : RdR w B st) (he : st.e ≠ 0) :
    Calls Try.prog 99 #[.pointer (some ⟨B, 0, none⟩), .int .i64 wd] w fun x w' => x = .returned (.int .i64 0) ∧ w = w' := (getR_dead B st wd w h he).mono fun _ _ h => ⟨h.1, h.2.symm⟩

set_option maxHeartbeats 1000000 in
/-- Behind a first error Text answers nothing. -/
theorem rTextR_dead (B : Nat) (st : RSt) (most : Int) (w : World) (hm : most ≤ 9223372036854775807) (h : RdR w B st) (he : st.e ≠ 0) :
    Calls Try.prog 53 #[.pointer (some ⟨B, 0, none⟩), .int .i64 most] w fun x w' => x = .returned (.string ByteArray.empty) ∧ w' = w := by
  obtain ⟨h0, h1, h2, f0, f1, f2⟩ := three_cells h.blk
  have H := Lib.hid h
  have hb : (st.e == 0) = false := by simpa using he
  have hb1 : (st.e != 0) = true := by simpa using he
  have HE := Lib.hid he
  clear h he
  go_enter Try.func53, Try.ntmps53
  go_wp2_with (go_at_call 82; refine (rwidth_flip _ _ hm).mono ?_; rintro e w' ⟨rfl, rfl⟩)
  refine (getR_flip B st _ _ H.out HE.out).mono ?_
  rintro e w2 ⟨rfl, rfl⟩
  go_wp2_with fail
  go_ret
  exact ⟨rfl, rfl⟩
end Go.Proofs.Ytelpdihaonoedaa
namespace Go.Proofs.Ytelpdihaonoedaa
open Go.RowKit
set_option maxRecDepth 20000

theorem rText_bad (most : Int) (st : RSt) (he : st.e = 0) (hv : ¬ (1 ≤ most ∧ most ≤ 4095)) : rText most st = (ByteArray.empty, ⟨ByteArray.empty, 0, 1⟩) := by
  have : between 1 4095 most = false := by simp [between]; omega
  simp [rText, rBegin, he, this]

set_option maxHeartbeats 1000000 in
theorem rTextR_bad (B : Nat) (st : RSt) (most : Int) (w : World) (hm : most ≤ 9223372036854775807) (h : RdR w B st) (he : st.e = 0) (hv : ¬ (1 ≤ most ∧ most ≤ 4095)) :
    Calls Try.prog 53 #[.pointer (some ⟨B, 0, none⟩), .int .i64 most] w fun x w' => x = .returned (.string (rText most st).1) ∧ RdR w' B (rText most st).2 ∧ Fr (only B) w w' := by
  obtain ⟨h0, h1, h2, f0, f1, f2⟩ := three_cells h.blk
  have H := Lib.hid h
  have hb : (st.e == 0) = true := by simpa using he
  have HF := Lib.hid (rText_bad most st he hv)
  clear h he
  by_cases hv1 : most < 1
  · clear hv
    go_enter Try.func53, Try.ntmps53
    go_wp2_with fail
    refine (failR_any B st 1 _ H.out).mono ?_
    rintro e w' ⟨rfl, hr, hf⟩
    have HR := Lib.hid hr
    obtain ⟨g0, g1, g2, k0, k1, k2⟩ := three_cells hr.blk
    clear hr h0 h1 h2 f0 f1 f2
    go_wp2_with (go_at_call 82; refine (rwidth_flip _ _ hm).mono ?_; rintro e w' ⟨rfl, rfl⟩)
    refine (getR_flip B _ _ _ HR.out (by simp)).mono ?_
    rintro e w2 ⟨rfl, rfl⟩
    go_wp2_with fail
    go_ret
    rw [HF.out]
    exact ⟨rfl, HR.out, hf⟩
  · have hv2 : 4095 < most := by omega
    clear hv
    go_enter Try.func53, Try.ntmps53
    go_wp2_with fail
    refine (failR_any B st 1 _ H.out).mono ?_
    rintro e w' ⟨rfl, hr, hf⟩
    have HR := Lib.hid hr
    obtain ⟨g0, g1, g2, k0, k1, k2⟩ := three_cells hr.blk
    clear hr h0 h1 h2 f0 f1 f2
    go_wp2_with (go_at_call 82; refine (rwidth_flip _ _ hm).mono ?_; rintro e w' ⟨rfl, rfl⟩)
    refine (getR_flip B _ _ _ HR.out (by simp)).mono ?_
    rintro e w2 ⟨rfl, rfl⟩
    go_wp2_with fail
    go_ret
    rw [HF.out]
    exact ⟨rfl, HR.out, hf⟩

theorem rText_good (most : Int) (st : RSt) (he : st.e = 0) (hv : 1 ≤ most ∧ most ≤ 4095) :
    (8 * (st.s.size : Int) - st.at_ < width most ∧ rText most st = (ByteArray.empty, ⟨ByteArray.empty, 0, 9⟩) ∧ rNum true (width most) st = (0, ⟨ByteArray.empty, 0, 9⟩)) ∨
    (¬ 8 * (st.s.size : Int) - st.at_ < width most ∧ rNum true (width most) st = ((bval (rbits st.s st.at_ (width most)) : Int), ⟨st.s, st.at_ + width most, 0⟩) ∧
      rText most st = if most < (bval (rbits st.s st.at_ (width most)) : Int) then (ByteArray.empty, ⟨ByteArray.empty, 0, 2⟩)
        else if 8 * (st.s.size : Int) - (st.at_ + width most : Nat) < 8 * (bval (rbits st.s st.at_ (width most)) : Int) then (ByteArray.empty, ⟨ByteArray.empty, 0, 9⟩)
        else (strOf (tbytes st.s (st.at_ + width most) (bval (rbits st.s st.at_ (width most)))), ⟨st.s, st.at_ + width most + 8 * bval (rbits st.s st.at_ (width most)), 0⟩)) := by
  have hb : between 1 4095 most = true := by simp [between, hv]
  by_cases hs : 8 * (st.s.size : Int) - st.at_ < width most
  · left
    exact ⟨hs, by simp [rText, rBegin, he, hb, hs], by simp [rNum, rBegin, he, hs]⟩
  · right
    refine ⟨hs, by simp [rNum, rBegin, he, hs], ?_⟩
    by_cases hgt : most < (bval (rbits st.s st.at_ (width most)) : Int)
    · simp [rText, rBegin, he, hb, hs, hgt]
    · simp [rText, rBegin, he, hb, hs, hgt]
      split <;> simp

set_option maxHeartbeats 2000000 in
theorem rTextR_good (B : Nat) (st : RSt) (most : Int) (w : World) (h : RdR w B st) (he : st.e = 0) (hv : 1 ≤ most ∧ most ≤ 4095) :
    Calls Try.prog 53 #[.pointer (some ⟨B, 0, none⟩), .int .i64 most] w fun x w' => x = .returned (.string (rText most st).1) ∧ RdR w' B (rText most st).2 ∧ Fr (only B) w w' := by
  obtain ⟨h0, h1, h2, f0, f1, f2⟩ := three_cells h.blk
  have H := Lib.hid h
  have hle := h.le
  have hsz := h.sz
  have hb : (st.e == 0) = true := by simpa using he
  have hwd := width_le most hv.2
  have hG := getR_any B st (width most) w (by omega) h
  obtain ⟨v1, v2⟩ := hv
  have hm : most ≤ 9223372036854775807 := by omega
  rcases rText_good most st he ⟨v1, v2⟩ with ⟨hs, hT, hN⟩ | ⟨hs, hN, hT⟩
  · rw [hN] at hG
    have HG := Lib.hid hG
    have HF := Lib.hid hT
    clear hG hT hN he hs h
    go_enter Try.func53, Try.ntmps53
    go_wp2_with (go_at_call 82; refine (rwidth_flip _ _ hm).mono ?_; rintro e w' ⟨rfl, rfl⟩)
    refine HG.out.mono ?_
    rintro e w2 ⟨rfl, hr, hf⟩
    have HR := Lib.hid hr
    obtain ⟨g0, g1, g2, k0, k1, k2⟩ := three_cells hr.blk
    clear hr h0 h1 h2 f0 f1 f2
    go_wp2_with fail
    go_ret
    rw [HF.out]
    exact ⟨rfl, HR.out, hf⟩
  · rw [hN] at hG
    have HG := Lib.hid hG
    have HT := Lib.hid hT
    clear hG hT hN he h
    generalize bval (rbits st.s st.at_ (width most)) = n at *
    by_cases hgt : most < (n : Int)
    · have hF := HT.out
      rw [if_pos hgt] at hF
      have HF := Lib.hid hF
      clear hF
      go_enter Try.func53, Try.ntmps53
      go_wp2_with (go_at_call 82; refine (rwidth_flip _ _ hm).mono ?_; rintro e w' ⟨rfl, rfl⟩)
      refine HG.out.mono ?_
      rintro e w2 ⟨rfl, hr, hf⟩
      have HR := Lib.hid hr
      obtain ⟨g0, g1, g2, k0, k1, k2⟩ := three_cells hr.blk
      clear hr h0 h1 h2 f0 f1 f2
      go_wp2_with fail
      refine (failR_any B _ 2 _ HR.out).mono ?_
      rintro e w3 ⟨rfl, hr3, hf3⟩
      have HR3 := Lib.hid hr3
      obtain ⟨g0, g1, g2, k0, k1, k2⟩ := three_cells hr3.blk
      clear hr3
      go_wp2_with fail
      go_ret
      rw [HF.out]
      exact ⟨rfl, HR3.out, hf.onlyTrans hf3⟩
    · by_cases hs2 : 8 * (st.s.size : Int) - (st.at_ + width most : Nat) < 8 * (n : Int)
      · have hF := HT.out
        rw [if_neg hgt, if_pos hs2] at hF
        have HF := Lib.hid hF
        have hn : (n : Int) ≤ 4095 := by omega
        clear hF
        go_enter Try.func53, Try.ntmps53
        go_wp2_with (go_at_call 82; refine (rwidth_flip _ _ hm).mono ?_; rintro e w' ⟨rfl, rfl⟩)
        refine HG.out.mono ?_
        rintro e w2 ⟨rfl, hr, hf⟩
        have HR := Lib.hid hr
        obtain ⟨g0, g1, g2, k0, k1, k2⟩ := three_cells hr.blk
        clear hr h0 h1 h2 f0 f1 f2
        go_wp2_with fail
        refine (leftR_any B _ _ HR.out).mono ?_
        rintro e w3 ⟨rfl, rfl⟩
        go_wp2_with fail
        refine (failR_any B _ 9 _ HR.out.drew).mono ?_
        rintro e w3 ⟨rfl, hr3, hf3⟩
        have HR3 := Lib.hid hr3
        obtain ⟨g0, g1, g2, k0, k1, k2⟩ := three_cells hr3.blk
        clear hr3
        go_wp2_with fail
        go_ret
        rw [HF.out]
        exact ⟨rfl, HR3.out, hf.drew.onlyTrans hf3⟩
      · have hF := HT.out
        rw [if_neg hgt, if_neg hs2] at hF
        have HF' := Lib.hid hF
        have hn : n ≤ 4095 := by omega
        have hs3 : st.at_ + width most + 8 * n ≤ 8 * st.s.size := by omega
        clear hF
        go_enter Try.func53, Try.ntmps53
        go_wp2_with (go_at_call 82; refine (rwidth_flip _ _ hm).mono ?_; rintro e w' ⟨rfl, rfl⟩)
        refine HG.out.mono ?_
        rintro e w2 ⟨rfl, hr, hf⟩
        have HR := Lib.hid hr
        obtain ⟨g0, g1, g2, k0, k1, k2⟩ := three_cells hr.blk
        clear hr h0 h1 h2 f0 f1 f2
        go_wp2_with fail
        refine (leftR_any B _ _ HR.out).mono ?_
        rintro e w3 ⟨rfl, hw3⟩
        have HR3 := Lib.hid (show RdR w3 B ⟨st.s, st.at_ + width most, 0⟩ by rw [hw3]; exact HR.out.drew)
        have HF3 := Lib.hid (show Fr (only B) w w3 by rw [hw3]; exact hf.drew)
        obtain ⟨g0, g1, g2, k0, k1, k2⟩ := three_cells HR3.out.blk
        clear hw3 hf
        obtain ⟨i0, hi, hz0, hz1, hz2⟩ := info_parts Try.info5
        go_wp2_with (at_make; refine wpList_make_full _ rfl (.tmp 58) (.tmp 58) 41 rfl 0 5 i0 (.int .u8 0) 1 Try.underlying41 hi hz0 hz1 .i64 .i64 _ _ n rfl rfl rfl rfl ?c1 ?c2 ?c3 ?_)
        case c1 => rw [hz2]; omega
        case c2 => unfold maxLen; omega
        case c3 => exact Nat.zero_le _
        intro w4 hown hgrow
        have hgrow' := Lib.hid hgrow
        have hB4 : B < w3.heap.size := lt_of_blk HR3.out.blk
        have hr4 : RdR w4 B ⟨st.s, st.at_ + width most, 0⟩ := ⟨(hgrow.block B hB4 (by simp)).trans HR3.out.blk, HR3.out.le, HR3.out.sz⟩
        have hf4 : Fr (only B) w w4 := HF3.out.grown hgrow (by simp)
        have HR4 := Lib.hid hr4
        have HF4 := Lib.hid hf4
        have hown2 : w4.ownsRow 0 5 1 (.slice (some ⟨w3.heap.size, 0, none⟩) n n) n (bytesV (mixed st.s (st.at_ + width most) n 0)) := by
          rw [toList_madeCells_one] at hown
          have e : bytesV (mixed st.s (st.at_ + width most) n 0) = List.replicate n (Value.int IntKind.u8 0) := by simp [mixed, bytesV]
          rw [e]; exact hown
        have HO := Lib.hid hown2
        clear hown hown2 hgrow hr4 hf4 g0 g1 g2 k0 k1 k2
        go_wp2_with fail
        go_loopw [7] (fun i wr => ∃ k : Nat, k ≤ n ∧ i = .int .i64 k ∧ RdR wr B ⟨st.s, st.at_ + width most + 8 * k, 0⟩ ∧ wr.ownsRow 0 5 1 (.slice (some ⟨w3.heap.size, 0, none⟩) n n) n (bytesV (mixed st.s (st.at_ + width most) n k)) ∧ Fr (only B) w wr) (fun i _ => n - (intOf i).toNat)
        case atStart => exact ⟨0, Nat.zero_le _, rfl, HR4.out, HO.out, HF4.out⟩
        case round =>
          obtain ⟨k, hk, rfl, hr5, ho5, hf5⟩ := hrel
          have HR5 := Lib.hid hr5
          have HO5 := Lib.hid ho5
          have HF5 := Lib.hid hf5
          clear hr5 ho5 hf5
          have hne : w3.heap.size ≠ B := by omega
          by_cases hlt : k < n
          · have HN8 := Lib.hid (show rNum true ((8 : Nat) : Int) ⟨st.s, st.at_ + width most + 8 * k, 0⟩ = ((bval (rbits st.s (st.at_ + width most + 8 * k) 8) : Int), ⟨st.s, st.at_ + width most + 8 * k + 8, 0⟩) by
              have : ¬ 8 * (st.s.size : Int) - (st.at_ + width most + 8 * k : Nat) < ((8 : Nat) : Int) := by omega
              simp only [rNum, rBegin, this, ne_eq, not_true, if_false, Bool.true_eq_false, if_true, Int.toNat_natCast])
            go_wp2_with fail
            refine (getR_any B _ 8 _ (by omega) HR5.out).mono ?_
            rw [HN8.out]
            rintro e w6 ⟨rfl, hr6, hf6⟩
            have ho6 : w6.ownsRow 0 5 1 (.slice (some ⟨w3.heap.size, 0, none⟩) n n) n (bytesV (mixed st.s (st.at_ + width most) n k)) :=
              HO5.out.kept (hf6.grownBy (some B) (fun k _ hk => by rw [show k = B from hk])) (.inr (by simpa [Value.ownBlock] using hne))
            have hcell : ∃ x, w6.cell? ⟨w3.heap.size, k, none⟩ = some x := ⟨_, (ho6.cellAt k (by omega)).trans (bytesV_get _ k (by rw [mixed_len _ _ _ _ hk]; exact hlt))⟩
            obtain ⟨x, hcell⟩ := hcell
            have hfz := ho6.frozenAt k
            have hval := bval_lt' (rbits st.s (st.at_ + width most + 8 * k) 8)
            rw [rbits_len] at hval
            have hval2 : bval (rbits st.s (st.at_ + width most + 8 * k) 8) < 256 := hval
            have HMS := Lib.hid (mixed_set st.s (st.at_ + width most) n k hlt)
            have HR6 := Lib.hid hr6
            have HO6 := Lib.hid ho6
            have HF6 := Lib.hid (HF5.out.onlyTrans hf6)
            clear hval hr6 ho6 hf6
            simp only
            generalize bval (rbits st.s (st.at_ + width most + 8 * k) 8) = q at *
            go_wp2_with fail
            go_roundw
            case rel =>
              refine ⟨k + 1, by omega, by go_num, ?_, ?_, ?_⟩
              · have e : st.at_ + width most + 8 * (k + 1) = st.at_ + width most + 8 * k + 8 := by omega
                rw [e]
                exact ⟨other_set HR6.out.blk _ (Ne.symm hne), HR6.out.le, HR6.out.sz⟩
              · have hst := (HO6.out.stored k (.int .u8 (q : Int))).1
                rw [bytesV_set, HMS.out] at hst
                exact hst
              · exact HF6.out.setCell (p := ⟨w3.heap.size, k, none⟩) (.inr HF3.out.size) _
            case measure => simp [intOf]; omega
          · have e : k = n := by omega
            subst e
            have hcv := convert_bytes (v := .slice (some ⟨w3.heap.size, 0, none⟩) k k) (l := mixed st.s (st.at_ + width most) k k) (w := wr) (base := 0) (by rw [mixed_len _ _ _ _ hk]; exact HO5.out) (by rw [mixed_full]; exact tbytes_lt _ _ _)
            rw [mixed_full] at hcv
            generalize strOf (tbytes st.s (st.at_ + width most) k) = str at *
            go_wp2_with fail
            go_ret
            rw [HF'.out]
            exact ⟨rfl, HR5.out, HF5.out⟩

theorem rTextR_any (B : Nat) (st : RSt) (most : Int) (w : World) (hm : most ≤ 9223372036854775807) (h : RdR w B st) :
    Calls Try.prog 53 #[.pointer (some ⟨B, 0, none⟩), .int .i64 most] w fun x w' => x = .returned (.string (rText most st).1) ∧ RdR w' B (rText most st).2 ∧ Fr (only B) w w' := by
  by_cases he : st.e = 0
  · by_cases hv : 1 ≤ most ∧ most ≤ 4095
    · exact rTextR_good B st most w h he hv
    · exact rTextR_bad B st most w hm h he hv
  · have hF : rText most st = (ByteArray.empty, st) := by simp [rText, rBegin, he]
    rw [hF]
    refine (rTextR_dead B st most w hm h he).mono ?_
    rintro e w' ⟨rfl, rfl⟩
    exact ⟨rfl, h, Fr.refl _ _⟩
end Go.Proofs.Ytelpdihaonoedaa
