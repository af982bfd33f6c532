/- Worst, by the document. -/
import Derived.Test.YtdenlinehjigaaaNds
namespace Go.Proofs.Ytdenlinehjigaaa
open Go.RowKit
set_option linter.unusedVariables false

set_option maxHeartbeats 16000000 in
theorem worstR_any (n0 : Option Addr) (m0 h0 : Nat) (n1 : Option Addr) (m1 h1 : Nat) (n2 : Option Addr) (m2 h2 : Nat) (e o th : Int) (ps : List Pt) (zs : List Int) (ws : List Wl) (a0 : Option Addr) (l0 k0 : Nat) (a1 : Option Addr) (l1 k1 : Nat) (ss : List Src) (fs : List Fd) (a b : Int) (w : World) (hst : StIn w n0 m0 n1 m1 n2 m2 ps zs ws) (hsp : SpIn w a0 l0 a1 l1 ss fs) :
    Calls Try.prog 40 #[.agg #[.slice n0 m0 h0, .slice n1 m1 h1, .slice n2 m2 h2, .int .i64 e, .int .i64 o, .int .i64 th], .agg #[.slice a0 l0 k0, .slice a1 l1 k1], .int .i64 a, .int .i64 b] w fun e' w' => e' = .returned (.tuple #[.int .i64 (wsV (ckS l0 l1 ss fs) (ckB m0 m1 m2 e o th ps zs ws) m0 e ps zs ws a b fs), .int .i64 (unE (ckS l0 l1 ss fs) (ckB m0 m1 m2 e o th ps zs ws) m0 a b)]) ∧ Fr no w w' := by
  have hB := box2 w (.cells #[.slice n0 m0 h0, .slice n1 m1 h1, .slice n2 m2 h2, .int .i64 e, .int .i64 o, .int .i64 th] 26 (0, 0)) (.cells #[.slice a0 l0 k0, .slice a1 l1 k1] 47 (0, 0))
  obtain ⟨W, hW⟩ : ∃ W, W = (w.alloc (.cells #[.slice n0 m0 h0, .slice n1 m1 h1, .slice n2 m2 h2, .int .i64 e, .int .i64 o, .int .i64 th] 26 (0, 0))).alloc (.cells #[.slice a0 l0 k0, .slice a1 l1 k1] 47 (0, 0)) := ⟨_, rfl⟩
  rw [← hW] at hB
  have HST := Lib.hid (hst.kept hB.f)
  have HSP := Lib.hid (hsp.kept hB.f)
  obtain ⟨c0, c1⟩ := two_cells hB.x
  obtain ⟨d0, d1, d2, d3, d4, d5⟩ := six_cellsS hB.s
  have HB := Lib.hid hB
  have HW := Lib.hid hW
  have HU := nodesR_any n0 m0 h0 n1 m1 h1 n2 m2 h2 e o th ps zs ws a0 l0 k0 a1 l1 k1 ss fs a b W HST.out HSP.out
  have HZ := Lib.hid hst.z.1
  clear hst hsp hB hW
  by_cases hu : unE (ckS l0 l1 ss fs) (ckB m0 m1 m2 e o th ps zs ws) m0 a b = 0
  · obtain ⟨t1, t2, t3, t4⟩ := unE_0 hu
    have hbd := unV_bd (e := e) (o := o) (th := th) (ps := ps) (ws := ws) (a := a) (b := b) HZ.out hu
    have hfd := (ckS_len t1).2.2.2
    have HL := Lib.hid (show l1 ≤ 80 by have := (ckS_len t1).2.1; omega)
    have hbv : bwV (ckB m0 m1 m2 e o th ps zs ws) m0 e ps zs ws a b = unV (ckS l0 l1 ss fs) (ckB m0 m1 m2 e o th ps zs ws) m0 e ps zs ws a b ∧ bwE (ckB m0 m1 m2 e o th ps zs ws) m0 a b = 0 := by simp [unV, bwE, bwB, t1, t2, t3, t4]
    rw [hu] at HU
    have HU := Lib.hid HU
    have hlf := lsF_bd (wtP a b) fs hfd
    have hpm := mul_bound (unV (ckS l0 l1 ss fs) (ckB m0 m1 m2 e o th ps zs ws) m0 e ps zs ws a b) (lsF (wtP a b) fs) 68719476736 1000 hbd.1 hbd.2 hlf.1 hlf.2
    obtain ⟨hp0, hp1⟩ := hpm
    have hp2 : unV (ckS l0 l1 ss fs) (ckB m0 m1 m2 e o th ps zs ws) m0 e ps zs ws a b * lsF (wtP a b) fs ≤ 68719476736000 := by omega
    have HBT := Lib.hid (fun w h => by have := betweenR_any n0 m0 h0 n1 m1 h1 n2 m2 h2 e o th ps zs ws a b w (StIn.p h) (StIn.z h) (StIn.v h); rw [hbv.1, hbv.2] at this; exact this)
    have HR := Lib.hid (show wsV (ckS l0 l1 ss fs) (ckB m0 m1 m2 e o th ps zs ws) m0 e ps zs ws a b fs = unV (ckS l0 l1 ss fs) (ckB m0 m1 m2 e o th ps zs ws) m0 e ps zs ws a b * lsF (wtP a b) fs / 1000 by simp [wsV, hu, wtF])
    have HRE := Lib.hid hu
    clear hu hbd hfd hlf hp1 hbv t1 t2 t3 t4
    generalize unV (ckS l0 l1 ss fs) (ckB m0 m1 m2 e o th ps zs ws) m0 e ps zs ws a b = uv at *
    obtain ⟨lw, hlw⟩ : ∃ lw, lw = lsF (wtP a b) fs := ⟨_, rfl⟩
    rw [← hlw] at hp0 hp2 HR
    have HLW := Lib.hid hlw
    clear hlw
    go_enter Try.func40, Try.ntmps40
    go_wp2_with fail
    rw [← HW.out]
    refine HU.out.mono ?_
    rintro e w1 ⟨rfl, f1⟩
    have HB1 := Lib.hid (HB.out.kept f1)
    have HSP1 := Lib.hid (HSP.out.kept f1)
    have HST1 := Lib.hid (HST.out.kept f1)
    have HF1 := Lib.hid HB1.out.f
    obtain ⟨g0, g1⟩ := two_cells HB1.out.x
    obtain ⟨s0, s1, s2, s3, s4, s5⟩ := six_cellsS HB1.out.s
    clear f1 c0 c1 d0 d1 d2 d3 d4 d5
    go_wp2_with fail
    have HFD1 := Lib.hid HSP1.out.f
    have HFL := Lib.hid HSP1.out.f.1
    go_loopw [11, 12, 13] (fun m i _ wr => ∃ k : Nat, k ≤ l1 ∧ i = .int .i64 k ∧ m = .int .i64 (lsF (wtP a b) (fs.take k)) ∧ Hid (Fr no w1 wr)) (fun _ i _ _ => l1 - (intOf i).toNat)
    case atStart => exact ⟨0, Nat.zero_le _, rfl, by simp [lsF], Lib.hid (Fr.refl _ _)⟩
    case round =>
      obtain ⟨k, hk, rfl, rfl, F⟩ := hrel
      have d1 := F.out.keepc g1
      have e6 := F.out.keepc s0
      have e7 := F.out.keepc s1
      have e8 := F.out.keepc s2
      have e9 := F.out.keepc s3
      have e10 := F.out.keepc s4
      have e11 := F.out.keepc s5
      clear g0 g1 s0 s1 s2 s3 s4 s5
      by_cases hlt : k < l1
      · obtain ⟨b', off, rfl, e0, e1, e2, e3, e4, e5⟩ := (HFD1.out.kept F.out).2 k hlt
        have HT := Lib.hid (lsF_succ (wtP a b) fs k (by have := HFL.out; omega))
        have hkn : (k : Int) < (l1 : Int) := by omega
        have hk8 : (k : Int) ≤ 79 := by have := HL.out; omega
        generalize fdAt fs k = f at *
        obtain ⟨fr, to, ch, fi, un, fa⟩ := f
        dsimp only at e0 e1 e2 e3 e4 e5
        generalize lsF (wtP a b) (fs.take k) = m at *
        have hlt0 := World.block_lt_of_cell? wr _ e0
        have hlt1 := World.block_lt_of_cell? wr _ d1
        clear e6 e7 e8 e9 e10 e11
        go_wp2_with fail
        all_goals
          go_roundw
          case rel => exact ⟨k + 1, by omega, by go_num, by first | (rw [HT.out]; simp [lsS, wtP, btwF, evrF, *]; done) | (rw [HT.out]; simp_all [lsS, wtP, btwF, evrF]; done) | (rw [HT.out]; simp [lsS, wtP, btwF, evrF, *]; omega), Lib.hid (F.out.alloc _)⟩
          case measure => simp [intOf]; omega
      · have HV := Lib.hid ((lsF_all (wtP a b) fs k (by have := HFL.out; omega)).trans HLW.out.symm)
        rw [HV.out]
        have HK := HBT.out wr (HST1.out.kept F.out)
        have HK := Lib.hid HK
        go_wp2_with fail
        refine HK.out.mono ?_
        rintro e w4 ⟨rfl, f4⟩
        have HF4 := Lib.hid ((HF1.out.noTrans F.out).noTrans f4)
        clear f4
        go_wp2_with fail
        go_ret2
        rw [HR.out, HRE.out]
        exact ⟨rfl, HF4.out⟩
  · have hr2 : (unE (ckS l0 l1 ss fs) (ckB m0 m1 m2 e o th ps zs ws) m0 a b == 0) = false := by simpa using hu
    have HR := Lib.hid (show wsV (ckS l0 l1 ss fs) (ckB m0 m1 m2 e o th ps zs ws) m0 e ps zs ws a b fs = 0 ∧ unE (ckS l0 l1 ss fs) (ckB m0 m1 m2 e o th ps zs ws) m0 a b = unE (ckS l0 l1 ss fs) (ckB m0 m1 m2 e o th ps zs ws) m0 a b by simp [wsV, hu])
    have HU := Lib.hid HU
    clear hu
    generalize unE (ckS l0 l1 ss fs) (ckB m0 m1 m2 e o th ps zs ws) m0 a b = r at *
    go_enter Try.func40, Try.ntmps40
    go_wp2_with fail
    rw [← HW.out]
    refine HU.out.mono ?_
    rintro e w1 ⟨rfl, f1⟩
    have HB1 := Lib.hid (HB.out.kept f1)
    have HSP1 := Lib.hid (HSP.out.kept f1)
    have HST1 := Lib.hid (HST.out.kept f1)
    have HF1 := Lib.hid HB1.out.f
    obtain ⟨g0, g1⟩ := two_cells HB1.out.x
    obtain ⟨s0, s1, s2, s3, s4, s5⟩ := six_cellsS HB1.out.s
    clear f1 c0 c1 d0 d1 d2 d3 d4 d5
    go_wp2_with fail
    go_ret2
    rw [HR.out.1]
    exact ⟨rfl, HF1.out⟩
end Go.Proofs.Ytdenlinehjigaaa
