/- The law of protected strings. -/
import Derived.Test.YthkklnphchajdaaJoin
import Derived.Test.YthkklnphchajdaaLaw1
namespace Go.Proofs.Ythkklnphchajdaa
open Go.RowKit

theorem str_ne {a b : ByteArray} (h : a ≠ b) : (a.toList == b.toList) = false := by
  rw [ByteArray.toList_eq, ByteArray.toList_eq, beq_eq_false_iff_ne]
  intro e
  apply h
  obtain ⟨⟨a⟩⟩ := a
  obtain ⟨⟨b⟩⟩ := b
  exact congrArg (fun l : List UInt8 => ByteArray.mk l.toArray) e
set_option maxHeartbeats 4000000 in
theorem protects_big (d : ByteArray) (w : World) (ha : d.size > 300) :
    Calls Try.prog 8 #[.string d] w fun e w' => e = .returned (.bool true) ∧ Below w.heap.size w w' := by
  have ha' : (300 : Int) < d.size := by omega
  clear ha
  go_enter Try.func8, Try.ntmps8
  go_wp2_with fail
  refine (awake_any _).mono ?_
  rintro e w1 ⟨rfl, f1⟩
  have HF1 := Lib.hid f1
  clear f1
  go_wp2_with fail
  go_ret
  exact ⟨rfl, HF1.out.belowNone (Nat.le_refl _)⟩
set_option maxHeartbeats 4000000 in
theorem protects_short (P d : ByteArray) (w : World) (hd : d.size ≤ 300) (hp : P.size = d.size + 2)
    (hP : ∀ w : World, Calls Try.prog 22 #[.string d] w fun e w' => e = .returned (.string P) ∧ Fr no w w')
    (hC : ∀ w : World, Calls Try.prog 23 #[.string P] w fun e w' => e = .returned (.tuple #[.string d, .int .i64 0]) ∧ Fr no w w')
    (hD : ∀ w : World, Calls Try.prog 23 #[.string d] w fun e w' => e = .returned (.tuple #[.string ⟨#[]⟩, .int .i64 9]) ∧ Fr no w w')
    (hY : ∀ w : World, Calls Try.prog 24 #[.string d] w fun e w' => e = .returned (.tuple #[.int .u16 0, .int .i64 9]) ∧ Fr no w w')
    (h2 : d.size < 2) :
    Calls Try.prog 8 #[.string d] w fun e w' => e = .returned (.bool true) ∧ Below w.heap.size w w' := by
  have HP := Lib.hid hP
  have HC := Lib.hid hC
  have HD := Lib.hid hD
  have HY := Lib.hid hY
  have hd' : ¬ (300 : Int) < d.size := by omega
  have hp' : (P.size : Int) = (d.size : Int) + 2 := by omega
  clear hP hC hD hY hd hp
  have h2' : (d.size : Int) < 2 := by omega
  clear h2
  go_enter Try.func8, Try.ntmps8
  go_wp2_with fail
  refine (awake_any _).mono ?_
  rintro e w1 ⟨rfl, f1⟩
  have HF1 := Lib.hid f1
  clear f1
  go_wp2_with fail
  refine (HP.out _).mono ?_
  rintro e w2 ⟨rfl, f2⟩
  have HF2 := Lib.hid (HF1.out.noTrans f2)
  clear f2 HF1
  go_wp2_with fail
  refine (HC.out _).mono ?_
  rintro e w3 ⟨rfl, f3⟩
  have HF3 := Lib.hid (HF2.out.noTrans f3)
  clear f3 HF2
  go_wp2_with fail
  refine (HD.out _).mono ?_
  rintro e w4 ⟨rfl, f4⟩
  have HF4 := Lib.hid (HF3.out.noTrans f4)
  clear f4 HF3
  go_wp2_with fail
  refine (HY.out _).mono ?_
  rintro e w5 ⟨rfl, f5⟩
  have HF5 := Lib.hid (HF4.out.noTrans f5)
  clear f5 HF4
  go_wp2_with fail
  go_ret
  exact ⟨rfl, HF5.out.belowNone (Nat.le_refl _)⟩
set_option maxHeartbeats 4000000 in
theorem protects_right (P d : ByteArray) (w : World) (hd : d.size ≤ 300) (hp : P.size = d.size + 2)
    (hP : ∀ w : World, Calls Try.prog 22 #[.string d] w fun e w' => e = .returned (.string P) ∧ Fr no w w')
    (hC : ∀ w : World, Calls Try.prog 23 #[.string P] w fun e w' => e = .returned (.tuple #[.string d, .int .i64 0]) ∧ Fr no w w')
    (n : Nat) (hn : d.size = n + 2)
    (hD : ∀ w : World, Calls Try.prog 23 #[.string d] w fun e w' => e = .returned (.tuple #[.string (d.extract 0 n), .int .i64 0]) ∧ Fr no w w')
    (hY : ∀ w : World, Calls Try.prog 24 #[.string d] w fun e w' => e = .returned (.tuple #[.int .u16 0, .int .i64 0]) ∧ Fr no w w')
    (hQ : ∀ w : World, Calls Try.prog 22 #[.string (d.extract 0 n)] w fun e w' => e = .returned (.string d) ∧ Fr no w w') :
    Calls Try.prog 8 #[.string d] w fun e w' => e = .returned (.bool true) ∧ Below w.heap.size w w' := by
  have HP := Lib.hid hP
  have HC := Lib.hid hC
  have HD := Lib.hid hD
  have HY := Lib.hid hY
  have hd' : ¬ (300 : Int) < d.size := by omega
  have hp' : (P.size : Int) = (d.size : Int) + 2 := by omega
  clear hP hC hD hY hd hp
  have HQ := Lib.hid hQ
  have hn' : (d.size : Int) - 2 = (n : Int) := by omega
  have a0 : (0 : Int) ≤ n := by omega
  have a1 : (n : Int) ≤ (d.size : Int) := by omega
  have a2 : ¬ (d.size : Int) < 2 := by omega
  clear hQ hn
  go_enter Try.func8, Try.ntmps8
  go_wp2_with fail
  refine (awake_any _).mono ?_
  rintro e w1 ⟨rfl, f1⟩
  have HF1 := Lib.hid f1
  clear f1
  go_wp2_with fail
  refine (HP.out _).mono ?_
  rintro e w2 ⟨rfl, f2⟩
  have HF2 := Lib.hid (HF1.out.noTrans f2)
  clear f2 HF1
  go_wp2_with fail
  refine (HC.out _).mono ?_
  rintro e w3 ⟨rfl, f3⟩
  have HF3 := Lib.hid (HF2.out.noTrans f3)
  clear f3 HF2
  go_wp2_with fail
  refine (HD.out _).mono ?_
  rintro e w4 ⟨rfl, f4⟩
  have HF4 := Lib.hid (HF3.out.noTrans f4)
  clear f4 HF3
  go_wp2_with fail
  refine (HY.out _).mono ?_
  rintro e w5 ⟨rfl, f5⟩
  have HF5 := Lib.hid (HF4.out.noTrans f5)
  clear f5 HF4
  go_wp2_with fail
  refine (HQ.out _).mono ?_
  rintro e w6 ⟨rfl, f6⟩
  have HF6 := Lib.hid (HF5.out.noTrans f6)
  clear f6 HF5
  go_wp2_with fail
  go_ret
  exact ⟨rfl, HF6.out.belowNone (Nat.le_refl _)⟩
set_option maxHeartbeats 4000000 in
theorem protects_wrong (P d : ByteArray) (w : World) (hd : d.size ≤ 300) (hp : P.size = d.size + 2)
    (hP : ∀ w : World, Calls Try.prog 22 #[.string d] w fun e w' => e = .returned (.string P) ∧ Fr no w w')
    (hC : ∀ w : World, Calls Try.prog 23 #[.string P] w fun e w' => e = .returned (.tuple #[.string d, .int .i64 0]) ∧ Fr no w w')
    (n : Nat) (hn : d.size = n + 2) (Q : ByteArray) (hq : Q ≠ d) (s : Wd) (hs : s ≠ 0#16)
    (hD : ∀ w : World, Calls Try.prog 23 #[.string d] w fun e w' => e = .returned (.tuple #[.string ⟨#[]⟩, .int .i64 10]) ∧ Fr no w w')
    (hY : ∀ w : World, Calls Try.prog 24 #[.string d] w fun e w' => e = .returned (.tuple #[.int .u16 (s.toNat : Int), .int .i64 0]) ∧ Fr no w w')
    (hQ : ∀ w : World, Calls Try.prog 22 #[.string (d.extract 0 n)] w fun e w' => e = .returned (.string Q) ∧ Fr no w w') :
    Calls Try.prog 8 #[.string d] w fun e w' => e = .returned (.bool true) ∧ Below w.heap.size w w' := by
  have HP := Lib.hid hP
  have HC := Lib.hid hC
  have HD := Lib.hid hD
  have HY := Lib.hid hY
  have hd' : ¬ (300 : Int) < d.size := by omega
  have hp' : (P.size : Int) = (d.size : Int) + 2 := by omega
  clear hP hC hD hY hd hp
  have HQ := Lib.hid hQ
  have hn' : (d.size : Int) - 2 = (n : Int) := by omega
  have a0 : (0 : Int) ≤ n := by omega
  have a1 : (n : Int) ≤ (d.size : Int) := by omega
  have a2 : ¬ (d.size : Int) < 2 := by omega
  have hql := str_ne hq
  have hb : ((s.toNat : Int) == 0) = false := word_ne hs
  have hb0 : ¬ (s.toNat : Int) = 0 := fun h => hs (BitVec.eq_of_toNat_eq (by simp; omega))
  clear hQ hn hs hq
  go_enter Try.func8, Try.ntmps8
  go_wp2_with fail
  refine (awake_any _).mono ?_
  rintro e w1 ⟨rfl, f1⟩
  have HF1 := Lib.hid f1
  clear f1
  go_wp2_with fail
  refine (HP.out _).mono ?_
  rintro e w2 ⟨rfl, f2⟩
  have HF2 := Lib.hid (HF1.out.noTrans f2)
  clear f2 HF1
  go_wp2_with fail
  refine (HC.out _).mono ?_
  rintro e w3 ⟨rfl, f3⟩
  have HF3 := Lib.hid (HF2.out.noTrans f3)
  clear f3 HF2
  go_wp2_with fail
  refine (HD.out _).mono ?_
  rintro e w4 ⟨rfl, f4⟩
  have HF4 := Lib.hid (HF3.out.noTrans f4)
  clear f4 HF3
  go_wp2_with fail
  refine (HY.out _).mono ?_
  rintro e w5 ⟨rfl, f5⟩
  have HF5 := Lib.hid (HF4.out.noTrans f5)
  clear f5 HF4
  go_wp2_with fail
  refine (HQ.out _).mono ?_
  rintro e w6 ⟨rfl, f6⟩
  have HF6 := Lib.hid (HF5.out.noTrans f6)
  clear f6 HF5
  go_wp2_with fail
  go_ret
  exact ⟨rfl, HF6.out.belowNone (Nat.le_refl _)⟩
theorem protects_law (d : ByteArray) (w : World) :
    Calls Try.prog 8 #[.string d] w fun e w' => e = .returned (.bool true) ∧ Below w.heap.size w w' := by
  by_cases hd : d.size > 300
  · exact protects_big d w hd
  have hp := prot_size d
  have hP : ∀ w : World, Calls Try.prog 22 #[.string d] w fun e w' => e = .returned (.string (protB d)) ∧ Fr no w w' := fun w => protect_any d w (by omega)
  have hC : ∀ w : World, Calls Try.prog 23 #[.string (protB d)] w fun e w' => e = .returned (.tuple #[.string d, .int .i64 0]) ∧ Fr no w w' := fun w => by
    have := check_any (protB d) w (by omega)
    rwa [chkV_prot, chkE_prot] at this
  have hD : ∀ w : World, _ := fun w => check_any d w (by omega)
  have hY : ∀ w : World, _ := fun w => syndrome_any d w (by omega)
  by_cases h2 : d.size < 2
  · rw [chkV, chkE, if_pos h2, if_pos h2] at hD
    rw [if_pos h2, if_pos h2] at hY
    exact protects_short (protB d) d w (by omega) hp hP hC hD hY h2
  · obtain ⟨n, hn⟩ : ∃ n : Nat, d.size = n + 2 := ⟨d.size - 2, by omega⟩
    rw [chkV, chkE, if_neg h2, if_neg h2, show d.size - 2 = n by omega] at hD
    rw [if_neg h2, if_neg h2] at hY
    have hQ : ∀ w : World, Calls Try.prog 22 #[.string (d.extract 0 n)] w fun e w' => e = .returned (.string (protB (d.extract 0 n))) ∧ Fr no w w' := fun w => protect_any _ w (by simp only [ByteArray.size_extract]; omega)
    by_cases hz : synL (bytesOf d) = 0#16
    · rw [if_pos hz, if_pos hz] at hD
      rw [hz] at hY
      rw [(prot_iff d n hn).2 hz] at hQ
      exact protects_right (protB d) d w (by omega) hp hP hC n hn hD hY hQ
    · rw [if_neg hz, if_neg hz] at hD
      exact protects_wrong (protB d) d w (by omega) hp hP hC n hn _ (fun e => hz ((prot_iff d n hn).1 e)) _ hz hD hY hQ
end Go.Proofs.Ythkklnphchajdaa
