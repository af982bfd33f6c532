/- The law of joined strings. -/
import Derived.Test.YthkklnphchajdaaJoin
import Derived.Test.YthkklnphchajdaaLaw1
namespace Go.Proofs.Ythkklnphchajdaa
open Go.RowKit

set_option maxHeartbeats 4000000 in
theorem joins_law (a b : ByteArray) (w : World) :
    Calls Try.prog 7 #[.string a, .string b] w fun e w' => e = .returned (.bool true) ∧ Below w.heap.size w w' := by
  by_cases ha : a.size > 300
  · have ha' : (300 : Int) < a.size := by omega
    clear ha
    go_enter Try.func7, Try.ntmps7
    go_wp2_with fail
    refine (awake_any _).mono ?_
    rintro e w1 ⟨rfl, f1⟩
    have HF1 := Lib.hid f1
    clear f1
    go_wp2_with fail
    go_ret
    exact ⟨rfl, HF1.out.belowNone (Nat.le_refl _)⟩
  by_cases hb : b.size > 300
  · have hb' : (300 : Int) < b.size := by omega
    have ha' : ¬ (300 : Int) < a.size := by omega
    clear ha hb
    go_enter Try.func7, Try.ntmps7
    go_wp2_with fail
    refine (awake_any _).mono ?_
    rintro e w1 ⟨rfl, f1⟩
    have HF1 := Lib.hid f1
    clear f1
    go_wp2_with fail
    go_ret
    exact ⟨rfl, HF1.out.belowNone (Nat.le_refl _)⟩
  have ha' : ¬ (300 : Int) < a.size := by omega
  have hb' : ¬ (300 : Int) < b.size := by omega
  have HA := Lib.hid (show a.size ≤ 300 by omega)
  have HB := Lib.hid (show b.size ≤ 300 by omega)
  have HS := Lib.hid (updB_append 0#16 a b)
  have HC := Lib.hid (cmb_sum (updB 0#16 a) b)
  clear ha hb
  go_enter Try.func7, Try.ntmps7
  go_wp2_with fail
  refine (awake_any _).mono ?_
  rintro e w1 ⟨rfl, f1⟩
  have HF1 := Lib.hid f1
  clear f1
  go_wp2_with fail
  refine (sum_any (a ++ b) _ (by have := HA.out; have := HB.out; simp; omega)).mono ?_
  rintro e w2 ⟨rfl, f2⟩
  have HF2 := Lib.hid (HF1.out.noTrans f2)
  clear f2 HF1
  rw [HS.out]
  go_wp2_with fail
  refine (sum_any a _ (by have := HA.out; omega)).mono ?_
  rintro e w3 ⟨rfl, f3⟩
  have HF3 := Lib.hid (HF2.out.noTrans f3)
  clear f3 HF2
  go_wp2_with fail
  refine (update_any _ b _ (by have := HB.out; omega)).mono ?_
  rintro e w4 ⟨rfl, f4⟩
  have HF4 := Lib.hid (HF3.out.noTrans f4)
  clear f4 HF3
  go_wp2_with fail
  refine (sum_any a _ (by have := HA.out; omega)).mono ?_
  rintro e w5 ⟨rfl, f5⟩
  have HF5 := Lib.hid (HF4.out.noTrans f5)
  clear f5 HF4
  go_wp2_with fail
  refine (sum_any b _ (by have := HB.out; omega)).mono ?_
  rintro e w6 ⟨rfl, f6⟩
  have HF6 := Lib.hid (HF5.out.noTrans f6)
  clear f6 HF5
  go_wp2_with fail
  refine (combine_any _ _ _ _ (by omega) (by have := HB.out; omega)).mono ?_
  rintro e w' ⟨rfl, rfl⟩
  rw [HC.out]
  go_wp2_with fail
  refine (update_any 0#16 a _ (by have := HA.out; omega)).mono ?_
  rintro e w7 ⟨rfl, f7⟩
  have HF7 := Lib.hid (HF6.out.noTrans f7)
  clear f7 HF6
  go_wp2_with fail
  refine (sum_any a _ (by have := HA.out; omega)).mono ?_
  rintro e w8 ⟨rfl, f8⟩
  have HF8 := Lib.hid (HF7.out.noTrans f8)
  clear f8 HF7
  go_wp2_with fail
  go_ret
  exact ⟨rfl, HF8.out.belowNone (Nat.le_refl _)⟩
end Go.Proofs.Ythkklnphchajdaa
