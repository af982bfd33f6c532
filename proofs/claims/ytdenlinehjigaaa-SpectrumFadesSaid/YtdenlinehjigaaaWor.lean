/- Worst. -/
import Derived.Test.YtdenlinehjigaaaUnf
namespace Go.Proofs.Ytdenlinehjigaaa
open Go.RowKit
set_option linter.unusedVariables false

set_option maxHeartbeats 8000000 in
theorem worst_any (n0 : Option Addr) (m0 h0 : Nat) (n1 : Option Addr) (m1 h1 : Nat) (n2 : Option Addr) (m2 h2 : Nat) (e o th : Int) (ps : List Pt) (zs : List Int) (ws : List Wl) (a0 : Option Addr) (l0 k0 : Nat) (a1 : Option Addr) (l1 k1 : Nat) (ss : List Src) (fs : List Fd) (a b : Int) (w : World) (hst : StIn w n0 m0 n1 m1 n2 m2 ps zs ws) (hsp : SpIn w a0 l0 a1 l1 ss fs) :
    Calls Try.prog 39 #[.agg #[.slice n0 m0 h0, .slice n1 m1 h1, .slice n2 m2 h2, .int .i64 e, .int .i64 o, .int .i64 th], .agg #[.slice a0 l0 k0, .slice a1 l1 k1], .int .i64 a, .int .i64 b] w fun e' w' => e' = .returned (.tuple #[.int .i64 (wsV (ckS l0 l1 ss fs) (ckB m0 m1 m2 e o th ps zs ws) m0 e ps zs ws a b fs), .int .i64 (unE (ckS l0 l1 ss fs) (ckB m0 m1 m2 e o th ps zs ws) m0 a b)]) ∧ Fr no w w' := by
  have hB := box2 w (.cells #[.slice n0 m0 h0, .slice n1 m1 h1, .slice n2 m2 h2, .int .i64 e, .int .i64 o, .int .i64 th] 26 (0, 0)) (.cells #[.slice a0 l0 k0, .slice a1 l1 k1] 47 (0, 0))
  obtain ⟨W, hW⟩ : ∃ W, W = (w.alloc (.cells #[.slice n0 m0 h0, .slice n1 m1 h1, .slice n2 m2 h2, .int .i64 e, .int .i64 o, .int .i64 th] 26 (0, 0))).alloc (.cells #[.slice a0 l0 k0, .slice a1 l1 k1] 47 (0, 0)) := ⟨_, rfl⟩
  rw [← hW] at hB
  have HST := Lib.hid (hst.kept hB.f)
  have HSP := Lib.hid (hsp.kept hB.f)
  obtain ⟨c0, c1⟩ := two_cells hB.x
  obtain ⟨d0, d1, d2, d3, d4, d5⟩ := six_cellsS hB.s
  have HB := Lib.hid hB
  have HW := Lib.hid hW
  have HU := unfaded_any n0 m0 h0 n1 m1 h1 n2 m2 h2 e o th ps zs ws a0 l0 k0 a1 l1 k1 ss fs a b W HST.out HSP.out
  have HZ := Lib.hid hst.z.1
  clear hst hsp hB hW
  by_cases hu : unE (ckS l0 l1 ss fs) (ckB m0 m1 m2 e o th ps zs ws) m0 a b = 0
  · have hbd := unV_bd (e := e) (o := o) (th := th) (ps := ps) (ws := ws) (a := a) (b := b) HZ.out hu
    have hfd := (ckS_len (unE_0 hu).1).2.2.2
    have HL := Lib.hid (show l1 ≤ 80 by have := (ckS_len (unE_0 hu).1).2.1; omega)
    have hsc := sc_ok hbd (lsF_bd (wtP a b) fs hfd)
    rw [show lsF (wtP a b) fs = wtF a b fs from rfl] at hsc
    rw [hu] at HU
    have HU := Lib.hid HU
    have HR := Lib.hid (show wsV (ckS l0 l1 ss fs) (ckB m0 m1 m2 e o th ps zs ws) m0 e ps zs ws a b fs = unV (ckS l0 l1 ss fs) (ckB m0 m1 m2 e o th ps zs ws) m0 e ps zs ws a b * wtF a b fs / 1000 by simp [wsV, hu])
    have HRE := Lib.hid hu
    have HSC := Lib.hid hsc
    clear hu hbd hfd hsc
    generalize unV (ckS l0 l1 ss fs) (ckB m0 m1 m2 e o th ps zs ws) m0 e ps zs ws a b = uv at *
    go_enter Try.func39, Try.ntmps39
    go_wp2_with fail
    rw [← HW.out]
    refine HU.out.mono ?_
    rintro e w1 ⟨rfl, f1⟩
    have g0 := f1.keepc c0
    have g1 := f1.keepc c1
    have HF1 := Lib.hid (HB.out.f.noTrans f1)
    have HSP1 := Lib.hid (HSP.out.kept f1)
    clear f1 c0 c1 d0 d1 d2 d3 d4 d5
    go_wp2_with fail
    go_region_held3 (fun w' => w'.cell? ⟨w.heap.size + 1, 0, none⟩ = some (.slice a0 l0 k0) ∧ w'.cell? ⟨w.heap.size + 1, 1, none⟩ = some (.slice a1 l1 k1)) (go_keep)
      (first
        | (go_at_call 92; refine (mkBtw_any a b _).mono ?_; rintro e w4 ⟨rfl, h4, f4⟩; have x0 := f4.keepc g0; have x1 := f4.keepc g1)
        | (go_at_call 102; refine (mkEver_any _).mono ?_; rintro e w6 ⟨rfl, f6⟩; have z0 := f6.keepc x0; have z1 := f6.keepc x1)
        | (go_at_call 91; refine (least2 a1 l1 k1 fs w6 _ _ a b (HSP1.out.f.kept (((Fr.refl no _).drew.noTrans f4).noTrans f6)) HL.out (f6.keepc h4.1) (f6.keepc h4.2)).mono ?_; rintro e w7 ⟨rfl, f7⟩; have q0 := f7.keepc z0; have q1 := f7.keepc z1)
        | (go_at_call 99; refine (scale_any uv (wtF a b fs) _).mono ?_; rintro e w8 ⟨rfl, rfl⟩))
    have HF7 := Lib.hid ((HF1.out.drew.noTrans f4).noTrans (f6.noTrans f7))
    clear f4 f6 f7
    go_wp2_with fail
    go_ret2
    rw [HR.out, HRE.out, HSC.out.1, HSC.out.2]
    exact ⟨rfl, HF7.out⟩
  · have hr2 : (unE (ckS l0 l1 ss fs) (ckB m0 m1 m2 e o th ps zs ws) m0 a b == 0) = false := by simpa using hu
    have HR := Lib.hid (show wsV (ckS l0 l1 ss fs) (ckB m0 m1 m2 e o th ps zs ws) m0 e ps zs ws a b fs = 0 ∧ unE (ckS l0 l1 ss fs) (ckB m0 m1 m2 e o th ps zs ws) m0 a b = unE (ckS l0 l1 ss fs) (ckB m0 m1 m2 e o th ps zs ws) m0 a b by simp [wsV, hu])
    have HU := Lib.hid HU
    clear hu
    generalize unE (ckS l0 l1 ss fs) (ckB m0 m1 m2 e o th ps zs ws) m0 a b = r at *
    generalize unV (ckS l0 l1 ss fs) (ckB m0 m1 m2 e o th ps zs ws) m0 e ps zs ws a b = uv at *
    go_enter Try.func39, Try.ntmps39
    go_wp2_with fail
    rw [← HW.out]
    refine HU.out.mono ?_
    rintro e w1 ⟨rfl, f1⟩
    have g0 := f1.keepc c0
    have g1 := f1.keepc c1
    have HF1 := Lib.hid (HB.out.f.noTrans f1)
    have HSP1 := Lib.hid (HSP.out.kept f1)
    clear f1 c0 c1 d0 d1 d2 d3 d4 d5
    go_wp2_with fail
    go_ret2
    rw [HR.out.1]
    exact ⟨rfl, HF1.out⟩
end Go.Proofs.Ytdenlinehjigaaa
