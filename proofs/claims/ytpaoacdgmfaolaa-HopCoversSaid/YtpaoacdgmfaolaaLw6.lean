/- Sequences. -/
import Derived.Test.YtpaoacdgmfaolaaAwk
import Derived.Test.YtpaoacdgmfaolaaFwc
import Derived.Test.YtpaoacdgmfaolaaCpy
import Derived.Test.YtpaoacdgmfaolaaInR
import Derived.Test.YtpaoacdgmfaolaaSam
namespace Go.Proofs.Ytpaoacdgmfaolaa
set_option linter.unusedVariables false
open Go.RowKit


theorem few_c {len : Nat} {xs : List Hv} (hl : xs.length = len) (h : fewB xs = true) : len ≤ 10 ∧ FewC len xs := by
  obtain ⟨h1, h2⟩ := fewB_t h
  exact ⟨by omega, fun i hi => by have := h2 i (by omega); omega⟩
set_option maxRecDepth 20000 in
set_option maxHeartbeats 16000000 in
theorem sequences_all (ao : Option Addr) (len cap : Nat) (xs : List Hv) (s : Int) (w : World) (h : HvsIn w ao len xs) :
    Calls Try.prog 4 #[.slice ao len cap, .int .i64 s] w fun e w' => e = .returned (.bool true) ∧ Fr no w w' := by
  have KF := Lib.hid (fun y (hy : HvsIn y ao len xs) => few_any ao len cap xs y hy)
  have HX := Lib.hid h
  have HXL := Lib.hid h.1
  clear h
  cases hfw : fewB xs
  · rw [hfw] at KF
    clear hfw
    go_enter Try.func4, Try.ntmps4
    go_wp2_with fail
    refine (awake_any w).mono ?_
    rintro e w0 ⟨rfl, f0⟩
    have F0 := Lib.hid f0
    clear f0
    go_wp2_with fail
    refine (KF.out _ (HX.out.kept F0.out)).mono ?_
    rintro e w1 ⟨rfl, f1⟩
    have F1 := Lib.hid (F0.out.noTrans f1)
    clear f1
    go_wp2_with fail
    go_ret
    exact ⟨rfl, F1.out⟩
  · obtain ⟨hl, hc⟩ := few_c HXL.out hfw
    rw [hfw] at KF
    have KP := Lib.hid (fun y (hy : HvsIn y ao len xs) => cp_any ao len cap xs y hy (by omega) hc)
    have KI := Lib.hid (fun bo bc y (hy : HvsIn y bo len xs) => inForceL_any bo len bc xs s y hy (by omega) hc)
    have KJ := Lib.hid (fun y (hy : HvsIn y ao len xs) => inForceR_any ao len cap xs s y hy (by omega) hc)
    have KA := Lib.hid (fun bo bc y (hy : HvsIn y bo len xs) => checkAll_any bo len bc xs y hy (by omega) hc)
    have KB := Lib.hid (fun y (hy : HvsIn y ao len xs) => checkAllR_any ao len cap xs y hy (by omega) hc)
    have HXC := Lib.hid (show (ifV xs s).chs.length ≤ 100 by
      unfold ifV
      split
      · simp [z0]
      · cases q : xs.find? (ifP s) with
        | none => simp [z0]
        | some x =>
          obtain ⟨i, hi, rfl⟩ := List.mem_iff_getElem.1 (List.mem_of_find?_eq_some q)
          have := hc i (by have := HXL.out; omega)
          simp only [hvAt, List.getD_eq_getElem?_getD, List.getElem?_eq_getElem hi, Option.getD_some] at this
          simpa using this)
    have HSM := Lib.hid (fun (va vb : Option Addr) (vc vd : Nat) y (h1 : IntsIn y va (ifV xs s).chs.length (ifV xs s).chs) (h2 : IntsIn y vb (ifV xs s).chs.length (ifV xs s).chs) => same_any (ifV xs s).v (ifV xs s).f (ifV xs s).u va (ifV xs s).chs.length vc (ifV xs s).chs (ifV xs s).v (ifV xs s).f (ifV xs s).u vb (ifV xs s).chs.length vd (ifV xs s).chs y h1 h2 HXC.out)
    have HRF : ∀ x : Hv, eqH ⟨x.v, x.f, x.u, x.chs⟩ ⟨x.v, x.f, x.u, x.chs⟩ = true := fun x => eqH_refl _
    simp only [HRF] at HSM
    generalize ifV xs s = x at *
    generalize ifE xs s = E at *
    generalize caE xs = C at *
    clear hfw HRF hc hl HXC
    go_enter Try.func4, Try.ntmps4
    go_wp2_with fail
    refine (awake_any w).mono ?_
    rintro e w0 ⟨rfl, f0⟩
    have F0 := Lib.hid f0
    clear f0
    go_wp2_with fail
    refine (KF.out _ (HX.out.kept F0.out)).mono ?_
    rintro e w1 ⟨rfl, f1⟩
    have F1 := Lib.hid (F0.out.noTrans f1)
    clear f1
    go_wp2_with fail
    refine (KP.out _ (HX.out.kept F1.out)).mono ?_
    rintro e w2 ⟨bo, bc, rfl, hb, f2⟩
    have F2 := Lib.hid (F1.out.noTrans f2)
    have HB2 := Lib.hid hb
    clear f2 hb
    go_wp2_with fail
    refine (KI.out bo bc _ HB2.out).mono ?_
    rintro e w3 ⟨va, vc, rfl, hv, f3⟩
    have F3 := Lib.hid (F2.out.noTrans f3)
    have HV3 := Lib.hid hv
    clear f3 hv
    go_wp2_with fail
    refine (KJ.out _ (HX.out.kept (F3.out.alloc _))).mono ?_
    rintro e w4 ⟨vb, vd, rfl, hu, f4⟩
    have hx4 := f4.blk (heap_alloc_new w3 (.cells #[.int .i64 x.v, .int .i64 x.f, .int .i64 x.u, .slice va x.chs.length vc] 24 (0, 0))) (fun h => h)
    have F34 := Lib.hid (((Fr.refl no w3).alloc (.cells #[.int .i64 x.v, .int .i64 x.f, .int .i64 x.u, .slice va x.chs.length vc] 24 (0, 0))).noTrans f4)
    have F4 := Lib.hid (F3.out.noTrans F34.out)
    have HX4 := Lib.hid hx4
    have HU4 := Lib.hid hu
    have HV4 := Lib.hid (HV3.out.kept F34.out)
    clear f4 hx4 hu
    go_wp2_with fail
    refine (KP.out _ (HX.out.kept (F4.out.alloc _))).mono ?_
    rintro e w5 ⟨co, cc, rfl, hc5, f5⟩
    have hy5 := f5.blk (heap_alloc_new w4 (.cells #[.int .i64 x.v, .int .i64 x.f, .int .i64 x.u, .slice vb x.chs.length vd] 24 (0, 0))) (fun h => h)
    have F45 := Lib.hid (((Fr.refl no w4).alloc (.cells #[.int .i64 x.v, .int .i64 x.f, .int .i64 x.u, .slice vb x.chs.length vd] 24 (0, 0))).noTrans f5)
    have F5 := Lib.hid (F4.out.noTrans F45.out)
    have HC5 := Lib.hid hc5
    have HX5 := Lib.hid (F45.out.blk HX4.out (fun h => h))
    have HY5 := Lib.hid hy5
    clear f5 hc5 hy5
    go_wp2_with fail
    refine (KA.out co cc _ HC5.out).mono ?_
    rintro e w6 ⟨rfl, f6⟩
    have F46 := Lib.hid (F45.out.noTrans f6)
    have HX6 := Lib.hid (f6.blk HX5.out (fun h => h))
    have HY6 := Lib.hid (f6.blk HY5.out (fun h => h))
    clear f6
    go_wp2_with fail
    refine (KB.out _ (HX.out.kept (F4.out.noTrans F46.out))).mono ?_
    rintro e w7 ⟨rfl, f7⟩
    have F47 := Lib.hid (F46.out.noTrans f7)
    obtain ⟨a0, a1, a2, a3⟩ := four_cells (f7.blk HX6.out (fun h => h))
    obtain ⟨b0, b1, b2, b3⟩ := four_cells (f7.blk HY6.out (fun h => h))
    have F7 := Lib.hid (F4.out.noTrans F47.out)
    clear f7
    go_wp2_with fail
    refine (HSM.out va vb vc vd _ (HV4.out.kept F47.out) (HU4.out.kept F47.out)).mono ?_
    rintro e w8 ⟨rfl, f8⟩
    have F8 := Lib.hid (F7.out.noTrans f8)
    clear f8 a0 a1 a2 a3 b0 b1 b2 b3
    go_wp2_with fail
    go_ret
    exact ⟨by simp, F8.out⟩

end Go.Proofs.Ytpaoacdgmfaolaa
