/- The document's own reader: NewReader, Unsigned, Signed, Flag, Close. -/
import Derived.Test.YtgbhmcepokpcaaaRefR
namespace Go.Proofs.Ytgbhmcepokpcaaa
open Go.RowKit

set_option maxHeartbeats 400000 in
theorem newReaderR_any (s : ByteArray) (w : World) (hs : s.size ≤ 9223372036854775807) :
    Calls Try.prog 22 #[.string s] w fun x w' => x = .returned (.pointer (some ⟨w.heap.size, 0, none⟩)) ∧ RdR w' w.heap.size (rNew s) ∧ Fr (fun _ => False) w w' := by
  by_cases h : 65536 < s.size
  · have HF := Lib.hid (show rNew s = ⟨ByteArray.empty, 0, 8⟩ by simp [rNew, h])
    go_enter Try.func22, Try.ntmps22
    go_wp2
    go_ret
    rw [HF.out]
    exact ⟨rfl, ⟨heap_alloc_new w _, by simp, by simp⟩, (Fr.refl (fun _ => False) w).alloc _⟩
  · have HF := Lib.hid (show rNew s = ⟨s, 0, 0⟩ by simp [rNew, h])
    go_enter Try.func22, Try.ntmps22
    go_wp2
    go_ret
    rw [HF.out]
    exact ⟨rfl, ⟨heap_alloc_new w _, by simp, by simp only; omega⟩, (Fr.refl (fun _ => False) w).alloc _⟩

/-- What a live reader answers: the bits, and stays live; or zero, and is dead. -/
theorem rNum_live (wd : Int) (st : RSt) (he : st.e = 0) : ((rNum true wd st).1 = 0 ∧ ((rNum true wd st).2.e == 0) = false) ∨ (∃ q : Nat, (rNum true wd st).1 = q ∧ q < 2 ^ wd.toNat ∧ ((rNum true wd st).2.e == 0) = true) := by
  unfold rNum
  by_cases hs : 8 * (st.s.size : Int) - st.at_ < wd
  · left; simp [rBegin, he, hs]
  · right
    have := bval_lt' (rbits st.s st.at_ wd.toNat)
    rw [rbits_len] at this
    exact ⟨bval (rbits st.s st.at_ wd.toNat), by simp [rBegin, he, hs], this, by simp [rBegin, he, hs]⟩

theorem rNum_valid (wd : Int) (st : RSt) (h : ¬ (st.e = 0 ∧ ¬ (1 ≤ wd ∧ wd ≤ 63))) : rUnsigned wd st = rNum true wd st := by
  unfold rUnsigned rNum rBegin
  by_cases he : st.e = 0
  · have : between 1 63 wd = true := by simp [between]; omega
    simp [he, this]
  · simp [he]

set_option maxHeartbeats 400000 in
theorem rUnsignedR_any (B : Nat) (st : RSt) (wd : Int) (w : World) (h : RdR w B st) :
    Calls Try.prog 24 #[.pointer (some ⟨B, 0, none⟩), .int .i64 wd] w fun x w' => x = .returned (.int .i64 (rUnsigned wd st).1) ∧ RdR w' B (rUnsigned wd st).2 ∧ Fr (only B) w w' := by
  obtain ⟨h0, h1, h2, f0, f1, f2⟩ := three_cells h.blk
  have H := Lib.hid h
  clear h
  by_cases he : st.e = 0
  · have hb : (st.e == 0) = true := by simpa using he
    by_cases hv : 1 ≤ wd ∧ wd ≤ 63
    · have HF := Lib.hid (rNum_valid wd st (by simp [hv]))
      obtain ⟨m, rfl⟩ := Int.eq_ofNat_of_zero_le (show 0 ≤ wd by omega)
      obtain ⟨v1, v2⟩ := hv
      clear he
      go_enter Try.func24, Try.ntmps24
      go_wp2_with fail
      refine (getR_any B st m _ (by omega) H.out).mono ?_
      rw [← HF.out]
      rintro e w' ⟨rfl, hr, hf⟩
      have HR := Lib.hid hr
      clear hr
      go_wp2_with fail
      go_ret
      exact ⟨rfl, HR.out, hf⟩
    · have HF := Lib.hid (show rUnsigned wd st = (0, ⟨ByteArray.empty, 0, 1⟩) by
        have : between 1 63 wd = false := by simp [between]; omega
        simp [rUnsigned, rNum, rBegin, he, this])
      clear he
      by_cases hv1 : wd < 1
      · clear hv
        go_enter Try.func24, Try.ntmps24
        go_wp2_with fail
        refine (failR_any B st 1 _ H.out).mono ?_
        rintro e w' ⟨rfl, hr, hf⟩
        have HR := Lib.hid hr
        clear hr
        go_wp2_with fail
        refine (getR_dead B _ wd _ HR.out (by simp)).mono ?_
        rintro e w2 ⟨rfl, rfl⟩
        go_wp2_with fail
        go_ret
        rw [HF.out]
        exact ⟨rfl, HR.out, hf⟩
      · have hv2 : 63 < wd := by omega
        clear hv
        go_enter Try.func24, Try.ntmps24
        go_wp2_with fail
        refine (failR_any B st 1 _ H.out).mono ?_
        rintro e w' ⟨rfl, hr, hf⟩
        have HR := Lib.hid hr
        clear hr
        go_wp2_with fail
        refine (getR_dead B _ wd _ HR.out (by simp)).mono ?_
        rintro e w2 ⟨rfl, rfl⟩
        go_wp2_with fail
        go_ret
        rw [HF.out]
        exact ⟨rfl, HR.out, hf⟩
  · have hb : (st.e == 0) = false := by simpa using he
    have HF := Lib.hid (show rUnsigned wd st = (0, st) by simp [rUnsigned, rNum, rBegin, he])
    go_enter Try.func24, Try.ntmps24
    go_wp2_with fail
    refine (getR_dead B _ wd _ H.out he).mono ?_
    rintro e w2 ⟨rfl, rfl⟩
    go_wp2_with fail
    go_ret
    rw [HF.out]
    exact ⟨rfl, H.out, Fr.refl _ _⟩

theorem rFlag_get (st : RSt) : rFlag st = (((rNum true 1 st).1 == 1), (rNum true 1 st).2) := by
  unfold rFlag rNum
  cases hb : (rBegin true 1 st).1
  · simp
  · simp only [if_true]
    have : (1 : Int).toNat = 1 := rfl
    rw [this]
    have h1 : rbits st.s st.at_ 1 = [sbit st.s st.at_] := by simp [rbits, List.range_succ]
    rw [h1]
    cases sbit st.s st.at_ <;> rfl

theorem rFlagR_any (B : Nat) (st : RSt) (w : World) (h : RdR w B st) :
    Calls Try.prog 26 #[.pointer (some ⟨B, 0, none⟩)] w fun x w' => x = .returned (.bool (rFlag st).1) ∧ RdR w' B (rFlag st).2 ∧ Fr (only B) w w' := by
  have HF := Lib.hid (rFlag_get st)
  have HG : Hid (Calls Try.prog 49 #[.pointer (some ⟨B, 0, none⟩), .int .i64 1] w fun x w' => x = .returned (.int .i64 (rNum true 1 st).1) ∧ RdR w' B (rNum true 1 st).2 ∧ Fr (only B) w w') := Lib.hid (getR_any B st 1 w (by decide) h)
  clear h
  rw [HF.out]
  clear HF
  generalize rNum true 1 st = r at *
  obtain ⟨r1, r2⟩ := r
  simp only at HG ⊢
  go_enter Try.func26, Try.ntmps26
  go_wp2_with fail
  refine HG.out.mono ?_
  rintro e w' ⟨rfl, hr, hf⟩
  have HR := Lib.hid hr
  clear hr
  cases hq : r1 == 1
  · go_wp2_with fail
    go_ret
    exact ⟨by rw [hq]; rfl, HR.out, hf⟩
  · go_wp2_with fail
    go_ret
    exact ⟨by rw [hq]; rfl, HR.out, hf⟩

theorem rSigned_get (wd : Int) (st : RSt) (h : ¬ (st.e = 0 ∧ ¬ (2 ≤ wd ∧ wd ≤ 63))) : rSigned wd st = (if (rNum true wd st).2.e = 0 then sval wd.toNat (rNum true wd st).1.toNat else 0, (rNum true wd st).2) := by
  unfold rSigned rNum
  by_cases he : st.e = 0
  · have hv : 2 ≤ wd ∧ wd ≤ 63 := by
      by_cases h2 : 2 ≤ wd ∧ wd ≤ 63
      · exact h2
      · exact absurd ⟨he, h2⟩ h
    have : between 2 63 wd = true := by simp [between, hv]
    rw [this]
    cases hb : (rBegin true wd st).1
    · have : (rBegin true wd st).2.e ≠ 0 := by
        unfold rBegin at hb ⊢
        by_cases hs : 8 * (st.s.size : Int) - st.at_ < wd
        · simp [he, hs]
        · simp [he, hs] at hb
      simp [this]
    · simp [he]
  · simp [rBegin, he]

theorem sval_two (m q : Nat) (h1 : 2 ≤ m) (h : 2 ^ (m - 1) ≤ q) : sval m q = (q : Int) - ((2 ^ (m - 1) : Nat) : Int) - ((2 ^ (m - 1) : Nat) : Int) := by
  unfold sval
  rw [if_neg (by omega)]
  obtain ⟨k, rfl⟩ : ∃ k, m = k + 1 := ⟨m - 1, by omega⟩
  rw [Int.pow_succ]
  push_cast
  omega

set_option maxHeartbeats 1000000 in
theorem rSignedR_any (B : Nat) (st : RSt) (wd : Int) (w : World) (h : RdR w B st) :
    Calls Try.prog 25 #[.pointer (some ⟨B, 0, none⟩), .int .i64 wd] w fun x w' => x = .returned (.int .i64 (rSigned wd st).1) ∧ RdR w' B (rSigned wd st).2 ∧ Fr (only B) w w' := by
  obtain ⟨h0, h1, h2, f0, f1, f2⟩ := three_cells h.blk
  have H := Lib.hid h
  clear h
  by_cases he : st.e = 0
  · have hb : (st.e == 0) = true := by simpa using he
    by_cases hv : 2 ≤ wd ∧ wd ≤ 63
    · have hF := rSigned_get wd st (by simp [hv])
      have hN := rNum_live wd st he
      obtain ⟨m, rfl⟩ := Int.eq_ofNat_of_zero_le (show 0 ≤ wd by omega)
      obtain ⟨v1, v2⟩ := hv
      have v1 : 2 ≤ m := by omega
      have v2 : m ≤ 63 := by omega
      have HG := Lib.hid (getR_any B st m w v2 H.out)
      clear he
      generalize rNum true (m : Int) st = r at *
      obtain ⟨r1, r2⟩ := r
      simp only at hF hN HG
      rcases hN with ⟨rfl, hd⟩ | ⟨q, rfl, hq, hd⟩
      · have HF := Lib.hid (show rSigned (m : Int) st = (0, r2) by
          have : r2.e ≠ 0 := by simpa using hd
          simpa [this] using hF)
        have HD := Lib.hid hd
        clear hF hd
        go_enter Try.func25, Try.ntmps25
        go_wp2_with fail
        refine HG.out.mono ?_
        rintro e w' ⟨rfl, hr, hf⟩
        have HR := Lib.hid hr
        obtain ⟨g0, g1, g2, k0, k1, k2⟩ := three_cells hr.blk
        have hd := HD.out
        clear hr h0 h1 h2 f0 f1 f2
        go_wp2_with fail
        go_ret
        rw [HF.out]
        exact ⟨rfl, HR.out, hf⟩
      · have HF := Lib.hid (show rSigned (m : Int) st = (sval m q, r2) by
          have : r2.e = 0 := by simpa using hd
          simpa [this] using hF)
        have HD := Lib.hid hd
        have hp : 2 ^ (m - 1) ≤ 4611686018427387904 := Nat.pow_le_pow_right (n := 2) (by decide) (show m - 1 ≤ 62 by omega)
        have hp0 : 0 < 2 ^ (m - 1) := Nat.pow_pos (by decide)
        have hp2 : 2 ^ m = 2 * 2 ^ (m - 1) := by
          rw [show m = (m - 1) + 1 by omega, Nat.pow_succ]; simp; omega
        simp only [Int.toNat_natCast] at hq
        have HS := Lib.hid (sval_two m q v1)
        have HS0 := Lib.hid (show q < 2 ^ (m - 1) → sval m q = q from fun h => by unfold sval; rw [if_pos h])
        clear hF hd
        have hw : IntKind.i64.wrap ((m : Int) - 1) = (m : Int) - 1 := IntWalk.i64_in _ (by omega)
        have hn : 0 ≤ (m : Int) - 1 := by omega
        go_enter Try.func25, Try.ntmps25
        go_wp2_with fail
        refine HG.out.mono ?_
        rintro e w' ⟨rfl, hr, hf⟩
        have HR := Lib.hid hr
        obtain ⟨g0, g1, g2, k0, k1, k2⟩ := three_cells hr.blk
        have hd := HD.out
        clear hr h0 h1 h2 f0 f1 f2
        have hP : (2 : Int) ^ (m - 1) = ((2 ^ (m - 1) : Nat) : Int) := by push_cast; rfl
        have hp' : (2 : Int) ^ (m - 1) ≤ 4611686018427387904 := by omega
        have hp0' : 1 ≤ (2 : Int) ^ (m - 1) := by omega
        have hq' : (q : Int) < 2 * (2 : Int) ^ (m - 1) := by omega
        have hwp : wrap64 ((2 : Int) ^ (m - 1)) = (2 : Int) ^ (m - 1) := by
          unfold wrap64
          omega
        by_cases hlt : q < 2 ^ (m - 1)
        · have hlt' : (q : Int) < (2 : Int) ^ (m - 1) := by omega
          have HS1 := Lib.hid (HS0.out hlt)
          clear hp hp0 hp2 hq hP hlt
          go_wp2_with fail
          go_ret
          rw [HF.out, HS1.out]
          exact ⟨rfl, HR.out, hf⟩
        · have hlt' : (2 : Int) ^ (m - 1) ≤ (q : Int) := by omega
          have HS1 := Lib.hid (show sval m q = (q : Int) - (2 : Int) ^ (m - 1) - (2 : Int) ^ (m - 1) by rw [hP]; exact HS.out (by omega))
          clear hp hp0 hp2 hq hP hlt
          go_wp2_with fail
          have hw5 : IntKind.i64.wrap ((q : Int) - (2 : Int) ^ (m - 1)) = (q : Int) - (2 : Int) ^ (m - 1) := IntWalk.i64_in _ (by omega)
          have hw6 : IntKind.i64.wrap ((q : Int) - (2 : Int) ^ (m - 1) - (2 : Int) ^ (m - 1)) = (q : Int) - (2 : Int) ^ (m - 1) - (2 : Int) ^ (m - 1) := IntWalk.i64_in _ (by omega)
          go_quiet (fail)
          go_wp2_with fail
          go_ret
          rw [HF.out, HS1.out]
          exact ⟨rfl, HR.out.drewN _, hf.drewN _⟩
    · have HF := Lib.hid (show rSigned wd st = (0, ⟨ByteArray.empty, 0, 1⟩) by
        have : between 2 63 wd = false := by simp [between]; omega
        simp [rSigned, rBegin, he, this])
      clear he
      by_cases hv1 : wd < 2
      · clear hv
        go_enter Try.func25, Try.ntmps25
        go_wp2_with fail
        refine (failR_any B st 1 _ H.out).mono ?_
        rintro e w' ⟨rfl, hr, hf⟩
        have HR := Lib.hid hr
        obtain ⟨g0, g1, g2, k0, k1, k2⟩ := three_cells hr.blk
        clear hr
        go_wp2_with fail
        refine (getR_dead B _ wd _ HR.out (by simp)).mono ?_
        rintro e w2 ⟨rfl, rfl⟩
        go_wp2_with fail
        go_ret
        rw [HF.out]
        exact ⟨rfl, HR.out, hf⟩
      · have hv2 : 63 < wd := by omega
        clear hv
        go_enter Try.func25, Try.ntmps25
        go_wp2_with fail
        refine (failR_any B st 1 _ H.out).mono ?_
        rintro e w' ⟨rfl, hr, hf⟩
        have HR := Lib.hid hr
        obtain ⟨g0, g1, g2, k0, k1, k2⟩ := three_cells hr.blk
        clear hr
        go_wp2_with fail
        refine (getR_dead B _ wd _ HR.out (by simp)).mono ?_
        rintro e w2 ⟨rfl, rfl⟩
        go_wp2_with fail
        go_ret
        rw [HF.out]
        exact ⟨rfl, HR.out, hf⟩
  · have hb : (st.e == 0) = false := by simpa using he
    have HF := Lib.hid (show rSigned wd st = (0, st) by simp [rSigned, rBegin, he])
    go_enter Try.func25, Try.ntmps25
    go_wp2_with fail
    refine (getR_dead B _ wd _ H.out he).mono ?_
    rintro e w2 ⟨rfl, rfl⟩
    go_wp2_with fail
    go_ret
    rw [HF.out]
    exact ⟨rfl, H.out, Fr.refl _ _⟩

theorem bval_zeroR (l : List Bool) : bval l = 0 ↔ ∀ b ∈ l, b = false := by
  rw [← List.reverse_reverse l]
  generalize l.reverse = r
  induction r with
  | nil => simp [bval]
  | cons b r ih =>
    rw [List.reverse_cons, bval_snoc]
    simp only [List.mem_append, List.mem_reverse, List.mem_singleton] at ih ⊢
    cases b <;> simp at ih ⊢
    rw [← ih]
    omega
theorem rbits_zeroR (s : ByteArray) (a k : Nat) : bval (rbits s a k) = 0 ↔ ∀ i, i < k → sbit s (a + i) = false := by
  rw [bval_zeroR]
  simp [rbits]

set_option maxHeartbeats 1000000 in
theorem rCloseR_any (B : Nat) (st : RSt) (w : World) (h : RdR w B st) :
    Calls Try.prog 33 #[.pointer (some ⟨B, 0, none⟩)] w fun x w' => x = .returned (.int .i64 (rClose st)) ∧ Fr (fun _ => False) w w' := by
  obtain ⟨h0, h1, h2, f0, f1, f2⟩ := three_cells h.blk
  have H := Lib.hid h
  have hle := h.le
  have hsz := h.sz
  clear h
  by_cases he : st.e = 0
  · have hb : (st.e != 0) = false := by simpa using he
    by_cases h8 : 8 ≤ 8 * st.s.size - st.at_
    · have HF := Lib.hid (show rClose st = 10 by simp [rClose, he, h8])
      clear he
      go_enter Try.func33, Try.ntmps33
      go_wp2_with fail
      refine (leftR_any B st _ H.out).mono ?_
      rintro e w' ⟨rfl, rfl⟩
      go_wp2_with fail
      go_ret
      rw [HF.out]
      exact ⟨rfl, (Fr.refl _ _).drew⟩
    · have HC := Lib.hid (show rClose st = if bval (rbits st.s st.at_ (8 * st.s.size - st.at_)) ≠ 0 then 10 else 0 by simp [rClose, he, h8])
      clear he
      go_enter Try.func33, Try.ntmps33
      go_wp2_with fail
      refine (leftR_any B st _ H.out).mono ?_
      rintro e w' ⟨rfl, rfl⟩
      go_wp2_with fail
      go_loopw [3] (fun i wr => ∃ k : Nat, st.at_ ≤ k ∧ k ≤ 8 * st.s.size ∧ i = .int .i64 k ∧ (∀ j, st.at_ ≤ j → j < k → sbit st.s j = false) ∧ RdR wr B st ∧ Fr (fun _ => False) w wr) (fun i _ => 8 * st.s.size - (intOf i).toNat)
      case atStart => exact ⟨st.at_, Nat.le_refl _, hle, rfl, fun j a b => by omega, H.out.drew, (Fr.refl _ _).drew⟩
      case round =>
        obtain ⟨k, hk1, hk, rfl, hall, hr, hf⟩ := hrel
        obtain ⟨h0, h1, h2, f0, f1, f2⟩ := three_cells hr.blk
        have HR := Lib.hid hr
        have HFr := Lib.hid hf
        have HA := Lib.hid hall
        clear hr hf hall
        by_cases hlt2 : k < 8 * st.s.size
        · have hx : k / 8 < st.s.size := by omega
          have HB := Lib.hid (sbit_at st.s k hx)
          have hw1 : IntKind.i64.wrap ((k : Int) / 8) = (k : Int) / 8 := IntWalk.i64_in _ (by omega)
          have hw2 : IntKind.i64.wrap ((k : Int) % 8) = (k : Int) % 8 := IntWalk.i64_in _ (by omega)
          have hi1 : 0 ≤ (k : Int) / 8 := by omega
          have hi2 : (k : Int) / 8 < st.s.size := by omega
          have hw3 : IntKind.i64.wrap (7 - (k : Int) % 8) = 7 - (k : Int) % 8 := IntWalk.i64_in _ (by omega)
          have hn : 0 ≤ 7 - (k : Int) % 8 := by omega
          go_wp2_with fail
          · next hq =>
            have hq2 : sbit st.s k = true := by
              rw [HB.out] at hq
              cases hs : sbit st.s k
              · simp [hs] at hq
              · rfl
            have HF := Lib.hid (show rClose st = 10 by
              rw [HC.out, if_pos]
              rw [ne_eq, rbits_zeroR]
              intro hall
              have := hall (k - st.at_) (by omega)
              rw [show st.at_ + (k - st.at_) = k by omega, hq2] at this
              exact absurd this (by decide))
            go_ret
            rw [HF.out]
            exact ⟨rfl, HFr.out⟩
          · next hq =>
            have hq2 : sbit st.s k = false := by
              rw [HB.out] at hq
              cases hs : sbit st.s k
              · rfl
              · simp [hs] at hq
            refine ⟨⟨k + 1, by omega, by omega, by go_num, ?_, HR.out, HFr.out⟩, ?_⟩
            · intro j hj1 hj2
              by_cases hjk : j = k
              · rw [hjk]; exact hq2
              · exact HA.out j hj1 (by omega)
            · simp [intOf]; omega
        · have e : k = 8 * st.s.size := by omega
          have HF := Lib.hid (show rClose st = 0 by
            rw [HC.out, if_neg]
            rw [ne_eq, Classical.not_not, rbits_zeroR]
            intro i hi
            exact HA.out _ (by omega) (by omega))
          go_wp2_with fail
          go_ret
          rw [HF.out]
          exact ⟨rfl, HFr.out⟩
  · have hb : (st.e != 0) = true := by simpa using he
    have HF := Lib.hid (show rClose st = st.e by simp [rClose, he])
    clear he
    go_enter Try.func33, Try.ntmps33
    go_wp2_with fail
    go_ret
    rw [HF.out]
    exact ⟨rfl, Fr.refl _ _⟩
end Go.Proofs.Ytgbhmcepokpcaaa
