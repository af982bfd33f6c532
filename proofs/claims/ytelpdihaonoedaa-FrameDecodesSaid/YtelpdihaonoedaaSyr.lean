/- The document's Syndrome and Check of check sums. -/
import Derived.Test.YtelpdihaonoedaaUpdR
import Derived.Test.YtelpdihaonoedaaJoin
import Derived.Test.YtelpdihaonoedaaHlp
import Derived.Deep.RegionHeld3
namespace Go.Proofs.Ytelpdihaonoedaa
open Go.RowKit
set_option linter.unusedVariables false
set_option maxRecDepth 20000

theorem or_join (a b : Nat) (ha : a < 256) (hb : b < 256) : BitVec.ofNat 16 (256 * a) ||| BitVec.ofNat 16 b = BitVec.ofNat 16 (256 * a) ^^^ BitVec.ofNat 16 b := by
  have h : ∀ i, ¬ ((BitVec.ofNat 16 (256 * a)).getLsbD i = true ∧ (BitVec.ofNat 16 b).getLsbD i = true) := by
    rintro i ⟨h1, h2⟩
    rw [BitVec.getLsbD_ofNat] at h1 h2
    simp only [Bool.and_eq_true, decide_eq_true_eq] at h1 h2
    have e : 256 * a = 2 ^ 8 * a := by omega
    rw [e, Nat.testBit_two_pow_mul] at h1
    simp only [Bool.and_eq_true, decide_eq_true_eq] at h1
    have := Nat.testBit_lt_two_pow (x := b) (i := i) (Nat.lt_of_lt_of_le hb (Nat.pow_le_pow_right (n := 2) (by decide) h1.2.1))
    rw [this] at h2
    exact absurd h2.2 (by decide)
  apply BitVec.eq_of_getLsbD_eq
  intro i _
  have := h i
  rw [BitVec.getLsbD_or, BitVec.getLsbD_xor]
  cases h1 : (BitVec.ofNat 16 (256 * a)).getLsbD i <;> cases h2 : (BitVec.ofNat 16 b).getLsbD i <;> simp_all
theorem bits_or (x y : Wd) : bits .or .u16 (x.toNat : Int) (y.toNat : Int) = ((x ||| y).toNat : Int) := by
  show IntKind.u16.wrap ((BitVec.ofInt 16 (x.toNat : Int) ||| BitVec.ofInt 16 (y.toNat : Int)).toNat : Int) = _
  rw [ofInt_toNat, ofInt_toNat, wrap_toNat]
set_option maxHeartbeats 2000000 in
theorem syndromeR_any (d : ByteArray) (w : World) (hd : d.size ≤ 1000000) :
    Calls Try.prog 97 #[.string d] w fun e w' => e = .returned (.tuple #[.int .u16 (if d.size < 2 then 0 else ((synL (bytesOf d)).toNat : Int)), .int .i64 (if d.size < 2 then 9 else 0)]) ∧ Fr no w w' := by
  by_cases h2 : d.size < 2
  · rw [if_pos h2, if_pos h2]
    have h2' : (d.size : Int) < 2 := by omega
    clear h2
    go_enter Try.func97, Try.ntmps97
    go_wp2_with fail
    go_ret2
    exact ⟨rfl, Fr.refl _ _⟩
  · rw [if_neg h2, if_neg h2]
    obtain ⟨n, hn⟩ : ∃ n : Nat, d.size = n + 2 := ⟨d.size - 2, by omega⟩
    have hn' : (d.size : Int) = (n : Int) + 2 := by omega
    clear h2
    have HF := Lib.hid (Fr.refl no w)
    go_enter Try.func97, Try.ntmps97
    go_wp2_with fail
    have a0 : (0 : Int) ≤ n := by omega
    have a1 : (n : Int) ≤ (n : Int) + 2 := by omega
    have a2 : (n : Int) < (n : Int) + 2 := by omega
    have a3 : (n : Int) + 1 < (n : Int) + 2 := by omega
    have a4 : (0 : Int) ≤ (n : Int) + 1 := by omega
    have a5 : ((n : Int) + 1).toNat = n + 1 := by omega
    have b0 : n < d.size := by omega
    have b1 : n + 1 < d.size := by omega
    have hw : IntKind.i64.wrap ((n : Int) + 1) = (n : Int) + 1 := IntWalk.i64_in _ (by omega)
    have j0 : ∀ w : World, (Instr.index 9 (.string d) (.int .i64 (n : Int))).run Try.prog w = .ok (.int .u8 ((d[n]).toNat : Int)) w := fun w => by go_simp
    have j1 : ∀ w : World, (Instr.index 9 (.string d) (.int .i64 ((n : Int) + 1))).run Try.prog w = .ok (.int .u8 ((d[n + 1]).toNat : Int)) w := fun w => by go_simp
    have HE := Lib.hid (bytesOf_extract d n)
    have HS := Lib.hid (show (synL (bytesOf d)) = upd 0#16 ((bytesOf d).take n) ^^^ BitVec.ofNat 16 (256 * (d[n]).toNat) ^^^ BitVec.ofNat 16 (d[n + 1]).toNat by
      rw [synL, bytesOf_len, show d.size - 2 = n by omega, show d.size - 1 = n + 1 by omega, bytesOf_get d n b0, bytesOf_get d (n + 1) b1])
    have HR := Lib.hid (show bits .xor .u16 ((updB 0#16 (d.extract 0 n)).toNat : Int) (bits .or .u16 (IntKind.u16.wrap (IntKind.u16.wrap ((d[n]).toNat : Int) * (256 : Int))) (IntKind.u16.wrap ((d[n + 1]).toNat : Int))) = ((synL (bytesOf d)).toNat : Int) by
      have c0 := (d[n]).toNat_lt
      have c1 := (d[n + 1]).toNat_lt
      have e1 : IntKind.u16.wrap (IntKind.u16.wrap ((d[n]).toNat : Int) * (256 : Int)) = ((BitVec.ofNat 16 (256 * (d[n]).toNat)).toNat : Int) := by
        rw [BitVec.toNat_ofNat, IntKind.wrap_u16, IntKind.wrap_u16]; omega
      have e2 : IntKind.u16.wrap ((d[n + 1]).toNat : Int) = ((BitVec.ofNat 16 (d[n + 1]).toNat).toNat : Int) := by
        rw [BitVec.toNat_ofNat, IntKind.wrap_u16]; omega
      rw [e1, e2, bits_or, or_join _ _ c0 c1, bits_xor, HS.out, ← HE.out, show upd 0#16 (bytesOf (d.extract 0 n)) = updB 0#16 (d.extract 0 n) from rfl, BitVec.xor_assoc])
    have HQ := Lib.hid (fun w => sumR_any (d.extract 0 n) w (by simp only [ByteArray.size_extract]; omega))
    have hw0 : IntKind.i64.wrap (n : Int) = (n : Int) := IntWalk.i64_in _ (by omega)
    have hw1 : (n : Int) ≤ 1000000 := by omega
    have hw2 : (n : Int) + 2 - 1 = (n : Int) + 1 := by omega
    have hw3 : IntKind.i64.wrap ((n : Int) + 2 - 1) = (n : Int) + 1 := by rw [hw2]; exact hw
    go_region_held3 (fun _ => True) (trivial) (first | (go_at_call 83; refine (HQ.out _).mono ?_; rintro e w1 ⟨rfl, hw1⟩))
    all_goals
      have HF3 := Lib.hid (show Fr no w w1 by rw [hw1]; exact HF.out.drew)
      clear hw1
      go_wp2_with fail
      go_ret2
      rw [← HR.out]
      first | exact ⟨rfl, HF3.out⟩ | exact ⟨rfl, HF.out.drew⟩
theorem checkR_any (d : ByteArray) (w : World) (hd : d.size ≤ 1000000) :
    Calls Try.prog 48 #[.string d] w fun e w' => e = .returned (.tuple #[.string (chkV d), .int .i64 (chkE d)]) ∧ Fr no w w' := by
  have HS := syndromeR_any d w hd
  by_cases h2 : d.size < 2
  · rw [if_pos h2, if_pos h2] at HS
    have HS := Lib.hid HS
    have HV := Lib.hid (show chkV d = ⟨#[]⟩ by rw [chkV, if_pos h2]; rfl)
    have HE := Lib.hid (show chkE d = 9 by simp [chkE, h2])
    clear h2
    go_enter Try.func48, Try.ntmps48
    go_wp2_with fail
    refine HS.out.mono ?_
    rintro e w1 ⟨rfl, f1⟩
    have HF := Lib.hid f1
    clear f1
    go_wp2_with fail
    go_ret2
    rw [HV.out, HE.out]
    exact ⟨rfl, HF.out⟩
  · rw [if_neg h2, if_neg h2] at HS
    have HS := Lib.hid HS
    by_cases h0 : synL (bytesOf d) = 0#16
    · have HV := Lib.hid (show chkV d = d.extract 0 (d.size - 2) by rw [chkV, if_neg h2, if_pos h0])
      have HE := Lib.hid (show chkE d = 0 by rw [chkE, if_neg h2, if_pos h0])
      have hz : ((synL (bytesOf d)).toNat : Int) = 0 := by rw [h0]; rfl
      obtain ⟨n, hn⟩ : ∃ n : Nat, d.size = n + 2 := ⟨d.size - 2, by omega⟩
      have hn' : (d.size : Int) = (n : Int) + 2 := by omega
      rw [hz] at HS
      rw [show d.size - 2 = n by omega] at HV
      have a0 : (0 : Int) ≤ n := by omega
      have a1 : (n : Int) ≤ (n : Int) + 2 := by omega
      clear h2 h0 hz
      go_enter Try.func48, Try.ntmps48
      go_wp2_with fail
      refine HS.out.mono ?_
      rintro e w1 ⟨rfl, f1⟩
      have HF := Lib.hid f1
      clear f1
      go_wp2_with fail
      go_ret2
      rw [HV.out, HE.out]
      exact ⟨rfl, HF.out⟩
    · have HV := Lib.hid (show chkV d = ⟨#[]⟩ by rw [chkV, if_neg h2, if_neg h0]; rfl)
      have HE := Lib.hid (show chkE d = 10 by rw [chkE, if_neg h2, if_neg h0])
      have hz : (((synL (bytesOf d)).toNat : Int) != 0) = true := by
        simp only [bne_iff_ne, ne_eq]
        intro e
        exact h0 (BitVec.eq_of_toNat_eq (by have : (synL (bytesOf d)).toNat = 0 := by omega
                                            rw [this]; rfl))
      generalize (synL (bytesOf d)).toNat = z at *
      clear h2 h0
      go_enter Try.func48, Try.ntmps48
      go_wp2_with fail
      refine HS.out.mono ?_
      rintro e w1 ⟨rfl, f1⟩
      have HF := Lib.hid f1
      clear f1
      go_wp2_with fail
      go_ret2
      rw [HV.out, HE.out]
      exact ⟨rfl, HF.out⟩
end Go.Proofs.Ytelpdihaonoedaa
