/- The law of the exclusive or of two strings. -/
import Derived.Test.YthkklnphchajdaaBytes
namespace Go.Proofs.Ythkklnphchajdaa
open Go.RowKit

theorem word_byte (x : Nat) : BitVec.ofNat 16 (256 * x) = BitVec.ofNat 16 x <<< 8 := by
  rw [← BitVec.toNat_inj, BitVec.toNat_shiftLeft, BitVec.toNat_ofNat, BitVec.toNat_ofNat, Nat.shiftLeft_eq]
  omega
theorem word_byte_xor (x y : Nat) : BitVec.ofNat 16 (256 * (x ^^^ y)) = BitVec.ofNat 16 (256 * x) ^^^ BitVec.ofNat 16 (256 * y) := by
  rw [word_byte, word_byte, word_byte, BitVec.ofNat_xor, BitVec.shiftLeft_xor_distrib]
theorem upd_zip (l m : List Nat) (h : l.length = m.length) (s t : Wd) : upd (s ^^^ t) (List.zipWith (· ^^^ ·) l m) = upd s l ^^^ upd t m := by
  induction l generalizing m s t with
  | nil => cases m with
    | nil => rfl
    | cons _ _ => simp at h
  | cons x l ih => cases m with
    | nil => simp at h
    | cons y m =>
      rw [List.zipWith_cons_cons, upd, List.foldl_cons, up_xor s t x y (x ^^^ y) (word_byte_xor x y), ← upd, ih m (by simpa using h)]
      rfl
def lin (l m : List Nat) (k : Nat) : List Nat := (List.zipWith (· ^^^ ·) l m).take k ++ l.drop k
theorem lin_len (l m : List Nat) (h : l.length = m.length) (k : Nat) (hk : k ≤ l.length) : (lin l m k).length = l.length := by
  simp [lin]
  omega
theorem lin_get (l m : List Nat) (h : l.length = m.length) (k : Nat) (hk : k < l.length) : (lin l m k).getD k 0 = l.getD k 0 := by
  have : ((List.zipWith (· ^^^ ·) l m).take k).length = k := by simp; omega
  rw [List.getD_eq_getElem?_getD, lin, List.getElem?_append_right (by omega), this, Nat.sub_self, List.getElem?_drop, Nat.add_zero, List.getD_eq_getElem?_getD]
theorem lin_set (l m : List Nat) (h : l.length = m.length) (k : Nat) (hk : k < l.length) : (lin l m k).set k (l.getD k 0 ^^^ m.getD k 0) = lin l m (k + 1) := by
  have e : ((List.zipWith (· ^^^ ·) l m).take k).length = k := by simp; omega
  have e1 : l.drop k = l[k] :: l.drop (k + 1) := (List.drop_eq_getElem_cons hk)
  have e2 : (List.zipWith (· ^^^ ·) l m).take (k + 1) = (List.zipWith (· ^^^ ·) l m).take k ++ [l[k] ^^^ m[k]'(by omega)] := by
    rw [List.take_succ_eq_append_getElem (by simp; omega)]
    simp
  have g1 : l.getD k 0 = l[k] := by simp [List.getD_eq_getElem?_getD, List.getElem?_eq_getElem hk]
  have g2 : m.getD k 0 = m[k]'(by omega) := by simp [List.getD_eq_getElem?_getD, List.getElem?_eq_getElem (show k < m.length by omega)]
  rw [lin, lin, List.set_append_right _ _ (by omega), e, Nat.sub_self, g1, g2, e2, List.append_assoc]
  congr 1
  rw [e1]
  rfl
theorem lin_end (l m : List Nat) (h : l.length = m.length) : lin l m l.length = List.zipWith (· ^^^ ·) l m := by
  rw [lin, List.drop_length, List.append_nil, List.take_of_length_le (by simp; omega)]
theorem zip_lt (l m : List Nat) (hl : ∀ x ∈ l, x < 256) (hm : ∀ x ∈ m, x < 256) : ∀ x ∈ List.zipWith (· ^^^ ·) l m, x < 256 := by
  intro x hx
  obtain ⟨i, hi, rfl⟩ := List.getElem_of_mem hx
  rw [List.getElem_zipWith]
  exact Nat.xor_lt_two_pow (n := 8) (hl _ (List.getElem_mem _)) (hm _ (List.getElem_mem _))
theorem updB_zip (a b : ByteArray) (h : b.size = a.size) : updB 0#16 (strOf (List.zipWith (· ^^^ ·) (bytesOf a) (bytesOf b))) = updB 0#16 a ^^^ updB 0#16 b := by
  rw [updB, bytesOf_str _ (zip_lt _ _ (bytesOf_lt a) (bytesOf_lt b))]
  have := upd_zip (bytesOf a) (bytesOf b) (by rw [bytesOf_len, bytesOf_len, h]) 0#16 0#16
  rw [BitVec.xor_self] at this
  exact this

set_option maxHeartbeats 4000000 in
theorem linear_law (a b : ByteArray) (w : World) :
    Calls Try.prog 6 #[.string a, .string b] w fun e w' => e = .returned (.bool true) ∧ Below w.heap.size w w' := by
  by_cases ha : a.size > 300
  · have ha' : (300 : Int) < a.size := by omega
    clear ha
    go_enter Try.func6, Try.ntmps6
    go_wp2_with fail
    refine (awake_any _).mono ?_
    rintro e w1 ⟨rfl, f1⟩
    have HF1 := Lib.hid f1
    clear f1
    go_wp2_with fail
    go_ret
    exact ⟨rfl, HF1.out.belowNone (Nat.le_refl _)⟩
  have ha' : ¬ (300 : Int) < a.size := by omega
  by_cases hb : b.size = a.size
  case neg =>
    have hb' : ((b.size : Int) == (a.size : Int)) = false := by rw [beq_eq_false_iff_ne]; omega
    have hb2 : ((b.size : Int) != (a.size : Int)) = true := by simp [bne, hb']
    clear ha hb
    go_enter Try.func6, Try.ntmps6
    go_wp2_with fail
    refine (awake_any _).mono ?_
    rintro e w1 ⟨rfl, f1⟩
    have HF1 := Lib.hid f1
    clear f1
    go_wp2_with fail
    go_ret
    exact ⟨rfl, HF1.out.belowNone (Nat.le_refl _)⟩
  have hl : (bytesOf a).length = (bytesOf b).length := by rw [bytesOf_len, bytesOf_len, hb]
  have HL := Lib.hid hl
  have hb' : (b.size : Int) = (a.size : Int) := by omega
  have HA := Lib.hid (show a.size ≤ 300 by omega)
  have HB := Lib.hid hb
  have HZ := Lib.hid (updB_zip a b hb)
  have HX := Lib.hid (bits_xor (updB 0#16 a) (updB 0#16 b))
  clear ha hb hl
  go_enter Try.func6, Try.ntmps6
  go_wp2_with fail
  refine (awake_any _).mono ?_
  rintro e w1 ⟨rfl, f1⟩
  have HF1 := Lib.hid f1
  clear f1
  have hcv := conv_to w1 a
  have HB1 := Lib.hid (Bts.new w1 a)
  have HF2 := Lib.hid (HF1.out.noTrans (Fr.bytes w1 a))
  have HQ := Lib.hid HF1.out.size
  generalize Lib.bytesWorld w1 5 a = w2 at *
  generalize grownCap w1 a.size 0 5 = cap at *
  go_wp2_with fail
  clear hcv HF1
  go_loopw [6, 23] (fun _ i wr => ∃ k : Nat, k ≤ a.size ∧ i = .int .i64 k ∧ Bts wr w1.heap.size (lin (bytesOf a) (bytesOf b) k) ∧ Fr (only w1.heap.size) w2 wr) (fun _ i _ => a.size - (intOf i).toNat)
  case atStart => exact ⟨0, Nat.zero_le _, rfl, HB1.out, Fr.refl _ _⟩
  case round =>
    obtain ⟨k, hk, rfl, hb1, hf⟩ := hrel
    have HR := Lib.hid hb1
    have HF := Lib.hid hf
    clear hb1 hf
    by_cases hlk : k < a.size
    · have hkl : k < (bytesOf a).length := by rw [bytesOf_len]; exact hlk
      have hkb : k < b.size := by have := HB.out; omega
      have hcell := HR.out.cell k (by rw [lin_len _ _ HL.out k (by omega)]; exact hkl)
      have hfz := HR.out.frozen k (by rw [lin_len _ _ HL.out k (by omega)]; exact hkl)
      rw [lin_get _ _ HL.out k hkl, bytesOf_get a k hlk] at hcell
      have HS := Lib.hid (lin_set (bytesOf a) (bytesOf b) HL.out k hkl)
      rw [bytesOf_get a k hlk, bytesOf_get b k hkb] at HS
      have HX2 := Lib.hid (xor_byte _ _ (a[k]).toNat_lt (b[k]).toNat_lt)
      have j0 : ∀ w : World, (Instr.index 9 (.string b) (.int .i64 (k : Int))).run Try.prog w = .ok (.int .u8 ((b[k]).toNat : Int)) w := fun w => by
        have h1 : (k : Int) < b.size := by omega
        go_simp
      clear hkl hb'
      go_wp2_with fail
      go_region
      go_wp2_with fail
      rw [HX2.out]
      go_roundw
      case rel => exact ⟨k + 1, by omega, by go_num, by rw [← HS.out]; exact (HR.out.set k _).drew, (HF.out.setCell (p := ⟨w1.heap.size, k, none⟩) (.inl rfl) _).drew⟩
      case measure => simp [intOf]; omega
    · obtain rfl : k = a.size := by omega
      have hz : (lin (bytesOf a) (bytesOf b) a.size) = List.zipWith (· ^^^ ·) (bytesOf a) (bytesOf b) := by rw [← bytesOf_len, lin_end _ _ HL.out]
      have hcv := conv_back (cap := cap) (n := a.size) HR.out (by rw [hz]; exact zip_lt _ _ (bytesOf_lt a) (bytesOf_lt b)) (by rw [lin_len _ _ HL.out _ (by rw [bytesOf_len]; exact Nat.le_refl _), bytesOf_len])
      rw [hz] at hcv
      have HFF := Lib.hid (HF2.out.trans (S := no) (c := wr) (S' := fun k => w1.heap.size ≤ k) (HF.out.mono (fun k _ h => by rw [show k = _ from h]; exact Nat.le_refl _)) (fun i hi h => by have : w1.heap.size ≤ i := h; have := HQ.out; omega))
      have HZ1 := Lib.hid (show (strOf (List.zipWith (· ^^^ ·) (bytesOf a) (bytesOf b))).size ≤ 300 by
        rw [← bytesOf_len, bytesOf_str _ (zip_lt _ _ (bytesOf_lt a) (bytesOf_lt b))]; have := HA.out; simp [bytesOf_len]; omega)
      clear hz
      generalize strOf (List.zipWith (· ^^^ ·) (bytesOf a) (bytesOf b)) = x at *
      go_wp2_with fail
      refine (sum_any x _ (by have := HZ1.out; omega)).mono ?_
      rintro e w3 ⟨rfl, f3⟩
      have HF3 := Lib.hid (HFF.out.noTrans f3)
      clear f3 hcv
      rw [HZ.out]
      go_wp2_with fail
      refine (sum_any a _ (by have := HA.out; omega)).mono ?_
      rintro e w4 ⟨rfl, f4⟩
      have HF4 := Lib.hid (HF3.out.noTrans f4)
      clear f4
      go_wp2_with fail
      refine (sum_any b _ (by have := HA.out; have := HB.out; omega)).mono ?_
      rintro e w5 ⟨rfl, f5⟩
      have HF5 := Lib.hid (HF4.out.noTrans f5)
      clear f5
      have hx := HX.out
      go_wp2_with fail
      go_ret
      exact ⟨rfl, HF5.out.belowNone (Nat.le_refl _)⟩
end Go.Proofs.Ythkklnphchajdaa
