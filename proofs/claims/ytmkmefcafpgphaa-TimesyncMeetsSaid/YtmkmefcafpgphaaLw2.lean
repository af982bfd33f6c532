/- Meets. -/
import Derived.Test.YtmkmefcafpgphaaMe1
import Derived.Test.YtmkmefcafpgphaaMe2
import Derived.Test.YtmkmefcafpgphaaMe3
import Derived.Test.YtmkmefcafpgphaaMe4
import Derived.Test.YtmkmefcafpgphaaMe5
import Derived.Test.YtmkmefcafpgphaaMe6
namespace Go.Proofs.Ytmkmefcafpgphaa
set_option linter.unusedVariables false
open Go.RowKit

set_option maxRecDepth 20000 in
set_option maxHeartbeats 2000000 in
theorem meets_law (oc dc sc cc op dp sp cp sl : Int) (w : World) : Calls Try.prog 5 #[.agg #[.int .i64 oc, .int .i64 dc, .int .i64 sc, .int .i64 cc], .agg #[.int .i64 op, .int .i64 dp, .int .i64 sp, .int .i64 cp], .int .i64 sl] w fun e w' => e = .returned (.bool true) ∧ Fr no w w' := by
  cases hkc : okS oc dc sc cc
  · obtain ⟨W, hW, hF, ⟨c0_0, c1_0, c2_0, c3_0⟩, ⟨p0_0, p1_0, p2_0, p3_0⟩⟩ := two_sync w oc dc sc cc op dp sp cp
    have HW := Lib.hid hW
    have HF0 := Lib.hid hF
    clear hW hF
    have K1 := Lib.hid (fun w => ckS_any oc dc sc cc w)
    rw [ckS_1 hkc] at K1
    go_enter Try.func5, Try.ntmps5
    go_wp2_with fail
    rw [← HW.out]
    refine (awake_any _).mono ?_
    rintro e w1 ⟨rfl, f1⟩
    have HF1 := Lib.hid (HF0.out.noTrans f1)
    have c0_1 := f1.keepc c0_0
    have c1_1 := f1.keepc c1_0
    have c2_1 := f1.keepc c2_0
    have c3_1 := f1.keepc c3_0
    have p0_1 := f1.keepc p0_0
    have p1_1 := f1.keepc p1_0
    have p2_1 := f1.keepc p2_0
    have p3_1 := f1.keepc p3_0
    have hlc1 := World.block_lt_of_cell? _ _ c0_1
    have hlp1 := World.block_lt_of_cell? _ _ p0_1
    clear f1 HF0 c0_0 c1_0 c2_0 c3_0 p0_0 p1_0 p2_0 p3_0
    go_wp2_with fail
    refine (K1.out _).mono ?_
    rintro e w2 ⟨rfl, f2⟩
    have HF2 := Lib.hid (HF1.out.noTrans f2)
    have c0_2 := f2.keepc c0_1
    have c1_2 := f2.keepc c1_1
    have c2_2 := f2.keepc c2_1
    have c3_2 := f2.keepc c3_1
    have p0_2 := f2.keepc p0_1
    have p1_2 := f2.keepc p1_1
    have p2_2 := f2.keepc p2_1
    have p3_2 := f2.keepc p3_1
    have hlc2 := World.block_lt_of_cell? _ _ c0_2
    have hlp2 := World.block_lt_of_cell? _ _ p0_2
    clear f2 HF1 c0_1 c1_1 c2_1 c3_1 p0_1 p1_1 p2_1 p3_1
    go_wp2_with fail
    go_ret
    exact ⟨by first | rfl | (simp; done) | (simp; omega), HF2.out⟩

  cases hkp : okS op dp sp cp
  · obtain ⟨W, hW, hF, ⟨c0_0, c1_0, c2_0, c3_0⟩, ⟨p0_0, p1_0, p2_0, p3_0⟩⟩ := two_sync w oc dc sc cc op dp sp cp
    have HW := Lib.hid hW
    have HF0 := Lib.hid hF
    clear hW hF
    have K1 := Lib.hid (fun w => ckS_any oc dc sc cc w)
    have K2 := Lib.hid (fun w => ckS_any op dp sp cp w)
    rw [ckS_0 hkc] at K1
    rw [ckS_1 hkp] at K2
    go_enter Try.func5, Try.ntmps5
    go_wp2_with fail
    rw [← HW.out]
    refine (awake_any _).mono ?_
    rintro e w1 ⟨rfl, f1⟩
    have HF1 := Lib.hid (HF0.out.noTrans f1)
    have c0_1 := f1.keepc c0_0
    have c1_1 := f1.keepc c1_0
    have c2_1 := f1.keepc c2_0
    have c3_1 := f1.keepc c3_0
    have p0_1 := f1.keepc p0_0
    have p1_1 := f1.keepc p1_0
    have p2_1 := f1.keepc p2_0
    have p3_1 := f1.keepc p3_0
    have hlc1 := World.block_lt_of_cell? _ _ c0_1
    have hlp1 := World.block_lt_of_cell? _ _ p0_1
    clear f1 HF0 c0_0 c1_0 c2_0 c3_0 p0_0 p1_0 p2_0 p3_0
    go_wp2_with fail
    refine (K1.out _).mono ?_
    rintro e w2 ⟨rfl, f2⟩
    have HF2 := Lib.hid (HF1.out.noTrans f2)
    have c0_2 := f2.keepc c0_1
    have c1_2 := f2.keepc c1_1
    have c2_2 := f2.keepc c2_1
    have c3_2 := f2.keepc c3_1
    have p0_2 := f2.keepc p0_1
    have p1_2 := f2.keepc p1_1
    have p2_2 := f2.keepc p2_1
    have p3_2 := f2.keepc p3_1
    have hlc2 := World.block_lt_of_cell? _ _ c0_2
    have hlp2 := World.block_lt_of_cell? _ _ p0_2
    clear f2 HF1 c0_1 c1_1 c2_1 c3_1 p0_1 p1_1 p2_1 p3_1
    go_wp2_with fail
    refine (K2.out _).mono ?_
    rintro e w3 ⟨rfl, f3⟩
    have HF3 := Lib.hid (HF2.out.noTrans f3)
    have c0_3 := f3.keepc c0_2
    have c1_3 := f3.keepc c1_2
    have c2_3 := f3.keepc c2_2
    have c3_3 := f3.keepc c3_2
    have p0_3 := f3.keepc p0_2
    have p1_3 := f3.keepc p1_2
    have p2_3 := f3.keepc p2_2
    have p3_3 := f3.keepc p3_2
    have hlc3 := World.block_lt_of_cell? _ _ c0_3
    have hlp3 := World.block_lt_of_cell? _ _ p0_3
    clear f3 HF2 c0_2 c1_2 c2_2 c3_2 p0_2 p1_2 p2_2 p3_2
    go_wp2_with fail
    go_ret
    exact ⟨by first | rfl | (simp; done) | (simp; omega), HF3.out⟩

  by_cases h : inE op dp sl 2120 = 0
  · by_cases h2 : inV op dp sl 2120 = 0
    · exact meets_zero oc dc sc cc op dp sp cp sl w hkc hkp h h2
    · obtain ⟨-, -, ⟨s0, s1⟩, -, ⟨v0, v1⟩, -⟩ := in_ok h
      have h3 : 0 < inV op dp sl 2120 := by omega
      by_cases hc : heE oc dc sc cc sl (inV op dp sl 2120) = 0
      · exact meets_ok oc dc sc cc op dp sp cp sl w hkc hkp h h3 hc
      · have hq : heE oc dc sc cc sl (inV op dp sl 2120) = 5 ∨ heE oc dc sc cc sl (inV op dp sl 2120) = 15 ∨ heE oc dc sc cc sl (inV op dp sl 2120) = 13 ∨ heE oc dc sc cc sl (inV op dp sl 2120) = 1 := by
          have e := (hear_0 hkc (me_0 (okS_t hkc).1 (isS_t.2 ⟨s0, s1⟩) (isT_t.2 ⟨v0, v1⟩)).1).1
          rw [e] at hc ⊢
          exact co_c hc
        rcases hq with hc | hc | hc | hc
        · exact meets_err5 oc dc sc cc op dp sp cp sl w hkc hkp h h3 hc
        · exact meets_err15 oc dc sc cc op dp sp cp sl w hkc hkp h h3 hc
        · exact meets_err13 oc dc sc cc op dp sp cp sl w hkc hkp h h3 hc
        · exact meets_err1 oc dc sc cc op dp sp cp sl w hkc hkp h h3 hc
  · exact meets_no oc dc sc cc op dp sp cp sl w hkc hkp h

end Go.Proofs.Ytmkmefcafpgphaa
