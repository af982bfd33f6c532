/- One. -/
import Derived.Test.YtmkmefcafpgphaaOnm
import Derived.Deep.RegionHeld3
import Derived.StillTailTactics
import Derived.BigRegion
import Derived.Deep.RegionWith
import Derived.BigQuiet
import Derived.BigGuardPart
namespace Go.Proofs.Ytmkmefcafpgphaa
set_option linter.unusedVariables false
open Go.RowKit


theorem sns_take {w : World} {ao : Option Addr} {len k : Nat} {l : List Sn} (h : SnsIn w ao len l) (hk : k ≤ len) : SnsIn w ao k (l.take k) := ⟨by rw [List.length_take, h.1]; omega, fun i hi => by
  obtain ⟨b, off, ha, hc⟩ := h.2 i (by omega)
  exact ⟨b, off, ha, by rw [snAt_take l k i hi]; exact hc⟩⟩
theorem sns_drop {w : World} {b off len k : Nat} {l : List Sn} (h : SnsIn w (some ⟨b, off, none⟩) len l) (hk : k ≤ len) : SnsIn w (some ⟨b, off + k * 3, none⟩) (len - k) (l.drop k) := ⟨by rw [List.length_drop, h.1], fun i hi => by
  obtain ⟨b', off', ha, hc⟩ := h.2 (k + i) (by omega)
  cases ha
  exact ⟨b, off + k * 3, rfl, by rw [snAt_drop, show off + k * 3 + i * 3 = off + (k + i) * 3 by omega]; exact hc⟩⟩
theorem one_cellF {w : World} {B T : Nat} {a : Value} (h : w.heap[B]? = some (.cells #[a] T (0, 0))) : w.cell? ⟨B, 0, none⟩ = some a := by
  simp [World.cell?, h]
theorem sns_drop2 {w : World} {aa : Addr} {len k : Nat} {l : List Sn} (h : SnsIn w (some aa) len l) (hk : k ≤ len) (h0 : 0 < len) : SnsIn w (some (aa.add (k * 3))) (len - k) (l.drop k) := by
  obtain ⟨b, off, ha, _⟩ := h.2 0 h0
  cases ha
  rw [add_at]
  exact sns_drop h hk
theorem sns_nil {w : World} (ao : Option Addr) : SnsIn w ao 0 [] := ⟨rfl, fun i hi => by omega⟩
set_option maxRecDepth 20000 in
set_option maxHeartbeats 8000000 in
theorem one_law (a0 : Option Addr) (l0 k0 : Nat) (a1 : Option Addr) (l1 k1 : Nat) (a2 : Option Addr) (l2 k2 : Nat) (l : List Sy) (zs : List Int) (xs : List Sn) (c : Int) (w : World) (hs : SysIn w a0 l0 l) (hz : IntsIn w a1 l1 zs) (hx : SnsIn w a2 l2 xs) (hc : l1 ≤ k1) (hc2 : l2 ≤ k2) (m0 : (l0 : Int) ≤ 9223372036854775807) (m1 : (l1 : Int) ≤ 9223372036854775807) (m2 : (l2 : Int) ≤ 9223372036854775807) (hnn : a2 = none → k2 = 0) (c0 : 0 ≤ c) (c1 : c ≤ 255) :
    Calls Try.prog 6 #[.agg #[.slice a0 l0 k0, .slice a1 l1 k1], .slice a2 l2 k2, .int .u8 c] w fun e w' => e = .returned (.bool true) ∧ Fr no w w' := by
  have hsl := hs.1
  have hzl := hz.1
  have hxl := hx.1
  subst hsl hzl hxl
  have HS := Lib.hid hs
  have HZ := Lib.hid hz
  have HX := Lib.hid hx
  obtain ⟨W, hW⟩ : ∃ W, W = w.alloc (.cells #[.slice a0 l.length k0, .slice a1 zs.length k1] 39 (0, 0)) := ⟨_, rfl⟩
  have HF0 := Lib.hid (show Fr no w W by rw [hW]; exact (Fr.refl no w).alloc _)
  obtain ⟨b0_0, b1_0, -, -⟩ := two_cells (show W.heap[w.heap.size]? = some (.cells #[.slice a0 l.length k0, .slice a1 zs.length k1] 39 (0, 0)) by rw [hW]; exact heap_alloc_new w _)
  have HW := Lib.hid hW
  clear hs hz hx hW
  by_cases n0 : l.length ≤ 40
  · by_cases n1 : zs.length ≤ 40
    · by_cases n2 : xs.length ≤ 40
      · have i0 : (l.length : Int) ≤ 40 := by omega
        have i1 : (zs.length : Int) ≤ 40 := by omega
        have i2 : (xs.length : Int) ≤ 40 := by omega
        have q0 : decide (40 < (l.length : Int)) = false := by simp; omega
        have q1 : decide (40 < (zs.length : Int)) = false := by simp; omega
        have q2 : decide (40 < (xs.length : Int)) = false := by simp; omega
        clear m0 m1 m2
        go_enter Try.func6, Try.ntmps6
        go_wp2_with fail
        rw [← HW.out]
        refine (awake_any _).mono ?_
        rintro e w1 ⟨rfl, f1⟩
        have HF1 := Lib.hid (HF0.out.noTrans f1)
        have b0_1 := f1.keepc b0_0
        have b1_1 := f1.keepc b1_0
        clear f1 b0_0 b1_0 HF0
        go_wp2_with fail
        have tAp : True := trivial
        have tBp : True := trivial
        have tCp : True := trivial
        have tDp : True := trivial
        go_region_held3 (fun w' => w'.cell? ⟨w.heap.size, 0, none⟩ = some (.slice a0 l.length k0) ∧ w'.cell? ⟨w.heap.size, 1, none⟩ = some (.slice a1 zs.length k1)) (go_keep)
          (first
            | (go_at_call 25; have _tk := tAp; refine (cloneS_any a0 l.length k0 l (w1.drewN _) ((HS.out.kept HF1.out).kept ((Fr.refl no w1).drewN _)) n0).mono ?_; rintro e y5 ⟨v5, rfl, hr5, f5⟩; clear _tk tAp; obtain ⟨s5, c5, rfl, hc5, hi5⟩ := rowS_in hr5; have d0 := f5.keepc b0_1; have d1 := f5.keepc b1_1)
            | (go_at_call 22; have _tk := tBp; refine (cloneI_any a1 zs.length k1 zs y5 (HZ.out.kept (HF1.out.noTrans (((Fr.refl no w1).drewN _).noTrans f5))) n1).mono ?_; rintro e y6 ⟨v6, rfl, hr6, f6⟩; clear _tk tBp; obtain ⟨s6, c6, rfl, hc6, hi6⟩ := rowI_ints hr6; have e0 := f6.keepc d0; have e1 := f6.keepc d1)
            | (go_at_call 26; have _tk := tCp; refine (cloneN_any a2 xs.length k2 xs y6 ((HX.out.kept HF1.out).kept ((((Fr.refl no w1).drewN _).noTrans f5).noTrans f6)) n2).mono ?_; rintro e y7 ⟨v7, rfl, hr7, f7⟩; clear _tk tCp; obtain ⟨s7, c7, rfl, hc7, hi7⟩ := rowN_in hr7; have g0 := f7.keepc e0; have g1 := f7.keepc e1)
            | (go_at_call 24; have _tk := tDp; refine (runV_any s5 _ c5 s6 _ c6 s7 _ c7 l zs _ y7 (hi5.kept (f6.noTrans f7)) (hi6.kept f7) hi7 hc6 n0 n1 n2).mono ?_; rintro e y8 ⟨v8, i8, er8, rfl, hv8, f8⟩; clear _tk tDp; have h0 := f8.keepc g0; have h1 := f8.keepc g1))

        have FY := Lib.hid (show Fr no w1 y8 from (((((Fr.refl no w1).drewN _).noTrans f5).noTrans f6).noTrans f7).noTrans f8)
        have HF8 := Lib.hid (HF1.out.noTrans FY.out)
        have HV := Lib.hid hv8
        have HS7 := Lib.hid (show w.heap.size ≤ y7.heap.size from Nat.le_trans HF1.out.size (Nat.le_trans f5.size (Nat.le_trans f6.size f7.size)))
        clear hv8 f5 f6 f7 f8 hr5 hr6 hr7 hi5 hi6 hi7 d0 d1 e0 e1 g0 g1 b0_1 b1_1 HF1 FY
        rcases HV.out with ⟨hno, rfl, rfl, rfl⟩ | ⟨hok, hall, rfl, rfl, hrow⟩ | ⟨hok, rfl, k, hk, rfl, hek, hee⟩
        · clear HV hno h0 h1
          go_wp2_with fail
          go_ret
          exact ⟨by first | rfl | (simp; done) | (simp; omega), HF8.out⟩
        · obtain ⟨sa, ca, rfl, hca, hia⟩ := rowS_in hrow
          rw [runL_len] at hca hia
          rw [runL_len]
          have HI := Lib.hid hia
          have HOK := Lib.hid hok
          have HALL := Lib.hid hall
          clear HV hrow hia hok hall
          obtain ⟨kk, hkk, hk2⟩ : ∃ kk : Nat, c % ((xs.length : Int) + 1) = (kk : Int) ∧ kk ≤ xs.length := by
            have z0 := Int.emod_nonneg c (show ((xs.length : Int) + 1) ≠ 0 by omega)
            have z1 := Int.emod_lt_of_pos c (show 0 < ((xs.length : Int) + 1) by omega)
            exact ⟨(c % ((xs.length : Int) + 1)).toNat, by omega, by omega⟩
          have z2 : ((xs.length : Int) + 1 == 0) = false := by simp; omega
          go_wp2_with fail
          rw [hkk]
          obtain ⟨ys, hys, hyl⟩ : ∃ ys, ys = xs.take kk ∧ ys.length = kk := ⟨_, rfl, by rw [List.length_take]; omega⟩
          subst hyl
          have HYS := Lib.hid hys
          have hk3 : ys.length ≤ k2 := by omega
          have hkI : (ys.length : Int) ≤ (k2 : Int) := by omega
          have hy40 : ys.length ≤ 40 := by omega
          have HX9 := Lib.hid (show SnsIn y8 a2 ys.length ys by have := sns_take (HX.out.kept HF8.out) hk2; rwa [← hys] at this)
          clear hkk hys
          have tAq : True := trivial
          have tBq : True := trivial
          have tCq : True := trivial
          have tDq : True := trivial
          go_region_held3 (fun w' => w'.cell? ⟨w.heap.size, 0, none⟩ = some (.slice a0 l.length k0) ∧ w'.cell? ⟨w.heap.size, 1, none⟩ = some (.slice a1 zs.length k1)) (go_keep)
            (first
              | (go_at_call 25; have _tk := tAq; refine (cloneS_any a0 l.length k0 l (y8.drewN _) ((HS.out.kept HF8.out).kept ((Fr.refl no y8).drewN _)) n0).mono ?_; rintro e u5 ⟨v5, rfl, hr5, f5⟩; clear _tk tAq; obtain ⟨s5, c5, rfl, hc5, hi5⟩ := rowS_in hr5; have d0 := f5.keepc h0; have d1 := f5.keepc h1)
              | (go_at_call 22; have _tk := tBq; refine (cloneI_any a1 zs.length k1 zs u5 (HZ.out.kept (HF8.out.noTrans (((Fr.refl no y8).drewN _).noTrans f5))) n1).mono ?_; rintro e u6 ⟨v6, rfl, hr6, f6⟩; clear _tk tBq; obtain ⟨s6, c6, rfl, hc6, hi6⟩ := rowI_ints hr6; have e0 := f6.keepc d0; have e1 := f6.keepc d1)
              | (go_at_call 26; have _tk := tCq; refine (cloneN_any a2 ys.length k2 ys u6 (HX9.out.kept ((((Fr.refl no y8).drewN _).noTrans f5).noTrans f6)) hy40).mono ?_; rintro e u7 ⟨v7, rfl, hr7, f7⟩; clear _tk tCq; obtain ⟨s7, c7, rfl, hc7, hi7⟩ := rowN_in hr7; have g0 := f7.keepc e0; have g1 := f7.keepc e1)
              | (go_at_call 24; have _tk := tDq; refine (runV_any s5 _ c5 s6 _ c6 s7 _ c7 l zs _ u7 (hi5.kept (f6.noTrans f7)) (hi6.kept f7) hi7 hc6 n0 n1 hy40).mono ?_; rintro e u8 ⟨v9, i9, er9, rfl, hv9, f8⟩; clear _tk tDq; have p0 := f8.keepc g0; have p1 := f8.keepc g1))

          have FY9 := Lib.hid (show Fr no y8 u8 from (((((Fr.refl no y8).drewN _).noTrans f5).noTrans f6).noTrans f7).noTrans f8)
          have HF9 := Lib.hid (HF8.out.noTrans FY9.out)
          have HV9 := Lib.hid hv9
          have HI9 := Lib.hid (HI.out.kept FY9.out)
          clear hv9 f5 f6 f7 f8 hr5 hr6 hr7 hi5 hi6 hi7 d0 d1 e0 e1 g0 g1 h0 h1 FY9 HI
          obtain ⟨rfl, rfl, hrow9⟩ : i9 = -1 ∧ er9 = 0 ∧ RowS u7.heap.size u8 v9 (runL zs l ys ys.length) := by
            rcases HV9.out with ⟨hno, -⟩ | ⟨-, -, h1, h2, h3⟩ | ⟨-, -, k, hk, -, hek, -⟩
            · exact absurd (by have := run_ok_take ys.length (by omega) HOK.out; rwa [← HYS.out] at this) hno
            · exact ⟨h1, h2, h3⟩
            · have := runE_take zs l xs ys.length k hk
              rw [← HYS.out, HALL.out k (by omega)] at this
              exact absurd this hek
          obtain ⟨L1, hL1, hL1l⟩ : ∃ L1, L1 = runL zs l xs ys.length ∧ L1.length = l.length := ⟨_, rfl, runL_len _ _ _ _⟩
          have hL1e : runL zs l ys ys.length = L1 := by
            rw [hL1]
            have := runL_take zs l xs ys.length ys.length (Nat.le_refl _)
            rwa [← HYS.out] at this
          rw [hL1e] at hrow9
          obtain ⟨s9, c9, rfl, hc9, hi9⟩ := rowS_in hrow9
          have HL1 := Lib.hid hL1
          have HL1l := Lib.hid hL1l
          have hL40 : L1.length ≤ 40 := by omega
          clear hL1l
          have HI1 := Lib.hid hi9
          obtain ⟨ds, hds, hdl⟩ : ∃ ds, ds = xs.drop ys.length ∧ ds.length = xs.length - ys.length := ⟨_, rfl, List.length_drop⟩
          have HDS := Lib.hid hds
          have hd40 : ds.length ≤ 40 := by omega
          have HDL := Lib.hid hdl
          clear hdl
          clear HV9 hrow9 hi9 hL1 hL1e hds
          go_wp2_with fail
          have HXu := Lib.hid (HX.out.kept HF9.out)
          have HZu := Lib.hid (HZ.out.kept HF9.out)
          have HDN := Lib.hid (show ∀ W ao, xs.length - ys.length = 0 → SnsIn W ao (xs.length - ys.length) ds from fun W ao h => by
            have hd0 : ds = [] := List.length_eq_zero_iff.1 (by have := HDL.out; omega)
            rw [h, hd0]; exact sns_nil ao)
          have hlen40 : xs.length - ys.length ≤ 40 := by omega
          have HE10 := Lib.hid (show runL zs L1 ds ds.length = runL zs l xs xs.length by
            have := runL_drop zs l xs ys.length ds.length
            rw [← HL1.out, ← HDS.out] at this
            rw [this]; congr 1; have := HDL.out; omega)
          have HR10 := Lib.hid (show RunOk zs L1 ds.length by
            have := run_ok_drop ys.length (by omega) HOK.out HALL.out
            rwa [← HL1.out, ← HDS.out] at this)
          have HC10 := Lib.hid (show ∀ k, k < ds.length → runE zs L1 ds k = 0 from fun k hk => by
            have := runE_drop zs l xs ys.length k
            rw [← HL1.out, ← HDS.out] at this
            rw [this]; exact HALL.out _ (by have := HDL.out; omega))
          obtain ⟨LA, hLA⟩ : ∃ LA, LA = runL zs l xs xs.length := ⟨_, rfl⟩
          have HLAl := Lib.hid (show LA.length = l.length by rw [hLA, runL_len])
          rw [← hLA] at HI9 HE10
          have HUN := Lib.hid (show ∀ n : Nat, namB xs (n : Int) = false → syAt LA n = syAt l n from fun n h => by rw [hLA]; exact run_unnamed h xs.length (Nat.le_refl _) (fun j hj => HALL.out j hj))
          clear hLA
          by_cases hkk : k2 = ys.length
          · have HZZ := Lib.hid (show xs.length - ys.length = 0 by omega)
            subst hkk
            have HDN0 := Lib.hid (show ∀ W ao, SnsIn W ao 0 ds from fun W ao => by have := HDN.out W ao HZZ.out; rwa [HZZ.out] at this)
            have tAr : True := trivial
            have tBr : True := trivial
            have tCr : True := trivial
            have tDr : True := trivial
            go_region_held3 (fun w' => w'.cell? ⟨w.heap.size, 0, none⟩ = some (.slice a0 l.length k0) ∧ w'.cell? ⟨w.heap.size, 1, none⟩ = some (.slice a1 zs.length k1)) (go_keep)
              (first
                | (go_at_call 25; have _tk := tAr; refine (cloneS_any s9 L1.length c9 L1 (u8.drewN _) (HI1.out.kept ((Fr.refl no u8).drewN _)) hL40).mono ?_; rintro e x5 ⟨v5, rfl, hr5, f5⟩; clear _tk tAr; obtain ⟨s5, c5, rfl, hc5, hi5⟩ := rowS_in hr5; have d0 := f5.keepc p0; have d1 := f5.keepc p1)
                | (go_at_call 22; have _tk := tBr; refine (cloneI_any a1 zs.length k1 zs x5 (HZu.out.kept (((Fr.refl no u8).drewN _).noTrans f5)) n1).mono ?_; rintro e x6 ⟨v6, rfl, hr6, f6⟩; clear _tk tBr; obtain ⟨s6, c6, rfl, hc6, hi6⟩ := rowI_ints hr6; have e0 := f6.keepc d0; have e1 := f6.keepc d1)
                | (go_at_call 26; have _tk := tCr; refine (cloneN_any a2 0 _ ds x6 (HDN0.out _ _) (by omega)).mono ?_; rintro e x7 ⟨v7, rfl, hr7, f7⟩; clear _tk tCr; obtain ⟨s7, c7, rfl, hc7, hi7⟩ := rowN_in hr7; have g0 := f7.keepc e0; have g1 := f7.keepc e1)
                | (go_at_call 24; have _tk := tDr; refine (runV_any s5 _ c5 s6 _ c6 s7 _ c7 L1 zs _ x7 (hi5.kept (f6.noTrans f7)) (hi6.kept f7) hi7 hc6 hL40 n1 hd40).mono ?_; rintro e x8 ⟨v10, i10, er10, rfl, hv10, f8⟩; clear _tk tDr; have r0 := f8.keepc g0; have r1 := f8.keepc g1))
            have FYx := Lib.hid (show Fr no u8 x8 from (((((Fr.refl no u8).drewN _).noTrans f5).noTrans f6).noTrans f7).noTrans f8)
            have HFx := Lib.hid (HF9.out.noTrans FYx.out)
            have HV10 := Lib.hid hv10
            have HIA := Lib.hid (HI9.out.kept FYx.out)
            clear hv10 f5 f6 f7 f8 hr5 hr6 hr7 hi5 hi6 hi7 d0 d1 e0 e1 g0 g1 p0 p1 FYx HI9 HI1
            obtain ⟨rfl, rfl, hrow10⟩ : i10 = -1 ∧ er10 = 0 ∧ RowS x7.heap.size x8 v10 LA := by
              rcases HV10.out with ⟨hno, -⟩ | ⟨-, -, h1, h2, h3⟩ | ⟨-, -, k, hk, -, hek, -⟩
              · exact absurd HR10.out hno
              · rw [HE10.out] at h3; exact ⟨h1, h2, h3⟩
              · exact absurd (HC10.out k hk) hek
            obtain ⟨s10, c10, rfl, hc10, hi10⟩ := rowS_in hrow10
            rw [HLAl.out] at hi10 hc10 ⊢
            have HI10 := Lib.hid hi10
            have HSx := Lib.hid (HS.out.kept HFx.out)
            have HXx := Lib.hid (HX.out.kept HFx.out)
            have KE := Lib.hid (equalS_same s10 sa l.length c10 ca LA x8 HI10.out HIA.out n0)
            clear HV10 hrow10 hi10 HE10 HR10 HC10 HDN HXu HZu
            go_wp2_with fail
            refine KE.out.mono ?_
            rintro e z1 ⟨rfl, fz⟩
            have HFz := Lib.hid (HFx.out.noTrans fz)
            have t0 := fz.keepc r0
            have t1 := fz.keepc r1
            have HIz := Lib.hid (HIA.out.kept fz)
            have HSz := Lib.hid (HSx.out.kept fz)
            have HXz := Lib.hid (HXx.out.kept fz)
            clear fz r0 r1 HIA HSx HXx KE
            go_wp2_with fail
            go_loopw [17, 18, 126] (fun _ _ i wr => ∃ n : Nat, n ≤ l.length ∧ i = .int .i64 n ∧ Hid (Fr no z1 wr)) (fun _ _ i _ => l.length - (intOf i).toNat)
            case atStart => exact ⟨0, by omega, rfl, Lib.hid (Fr.refl no _)⟩
            case round =>
              obtain ⟨n, hn, rfl, F⟩ := hrel
              by_cases hlt : n < l.length
              · have hnI : (n : Int) < (l.length : Int) := by omega
                obtain ⟨W2, hW2⟩ : ∃ W2, W2 = wr.alloc (.cells #[.int .i64 (n : Int)] 3 (0, 0)) := ⟨_, rfl⟩
                have hcn : W2.cell? ⟨wr.heap.size, 0, none⟩ = some (.int .i64 (n : Int)) := by rw [hW2]; exact one_cellF (heap_alloc_new wr _)
                have FA := Lib.hid (show Fr no z1 W2 by rw [hW2]; exact F.out.alloc _)
                have KN := Lib.hid (contains_any _ xs.length ys.length xs (n : Int) wr.heap.size W2 (HXz.out.kept FA.out) hcn n2)
                have u0 := F.out.keepc t0
                have u1 := F.out.keepc t1
                have HW2 := Lib.hid hW2
                have hT : wr.heap.size < W2.heap.size := by rw [hW2]; simp
                clear hW2
                cases hnam : namB xs (n : Int)
                · rw [hnam] at KN
                  have HEQ := Lib.hid (HUN.out n hnam)
                  go_wp2_with fail
                  rw [← HW2.out]
                  refine KN.out.mono ?_
                  rintro e z2 ⟨rfl, f2⟩
                  have F2 := Lib.hid (FA.out.noTrans f2)
                  have hcn2 := f2.keepc hcn
                  have w0 := F2.out.keepc t0
                  obtain ⟨b3, off3, hb3, -, hc3⟩ := sys_at (HIz.out.kept F2.out) (by omega)
                  obtain ⟨b4, off4, hb4, -, hc4⟩ := sys_at (HSz.out.kept F2.out) (by omega)
                  obtain ⟨y0, y1, y2, y3⟩ := hc3 n hlt
                  obtain ⟨v0, v1, v2, v3⟩ := hc4 n hlt
                  rw [HEQ.out] at y0 y1 y2 y3
                  subst hb3 hb4
                  generalize syAt l n = V at *
                  clear f2 hc3 hc4 u0 u1 hcn HEQ hnam
                  go_wp2_with fail
                  go_quiet (fail)
                  rename_i nq
                  have FQ := Lib.hid (F2.out.drewN nq)
                  go_wp2_with fail
                  go_roundw
                  case rel => exact ⟨n + 1, by omega, by go_num, FQ⟩
                  case measure => simp [intOf]; omega
                · rw [hnam] at KN
                  go_wp2_with fail
                  rw [← HW2.out]
                  refine KN.out.mono ?_
                  rintro e z2 ⟨rfl, f2⟩
                  have F2 := Lib.hid (FA.out.noTrans f2)
                  clear f2 u0 u1 hcn hnam
                  go_wp2_with fail
                  go_quiet (fail)
                  rename_i nq
                  have FQ := Lib.hid (F2.out.drewN nq)
                  go_wp2_with fail
                  go_roundw
                  case rel => exact ⟨n + 1, by omega, by go_num, FQ⟩
                  case measure => simp [intOf]; omega
              · have hnI : ¬ (n : Int) < (l.length : Int) := by omega
                go_wp2_with fail
                go_ret
                exact ⟨rfl, HFz.out.noTrans F.out⟩

          · have hk1 : (k2 == ys.length) = false := by simpa using hkk
            have hk5 : ys.length < k2 := by omega
            cases a2 with
            | none => exact absurd (hnn rfl) (by omega)
            | some aa =>
              have HDC := Lib.hid (show SnsIn u8 (some (aa.add (ys.length * 3))) (xs.length - ys.length) ds by
                by_cases h : xs.length - ys.length = 0
                · exact HDN.out _ _ h
                · have := sns_drop2 HXu.out hk2 (by omega)
                  rw [HDS.out]; exact this)
              have tAr : True := trivial
              have tBr : True := trivial
              have tCr : True := trivial
              have tDr : True := trivial
              go_region_held3 (fun w' => w'.cell? ⟨w.heap.size, 0, none⟩ = some (.slice a0 l.length k0) ∧ w'.cell? ⟨w.heap.size, 1, none⟩ = some (.slice a1 zs.length k1)) (go_keep)
                (first
                  | (go_at_call 25; have _tk := tAr; refine (cloneS_any s9 L1.length c9 L1 (u8.drewN _) (HI1.out.kept ((Fr.refl no u8).drewN _)) hL40).mono ?_; rintro e x5 ⟨v5, rfl, hr5, f5⟩; clear _tk tAr; obtain ⟨s5, c5, rfl, hc5, hi5⟩ := rowS_in hr5; have d0 := f5.keepc p0; have d1 := f5.keepc p1)
                  | (go_at_call 22; have _tk := tBr; refine (cloneI_any a1 zs.length k1 zs x5 (HZu.out.kept (((Fr.refl no u8).drewN _).noTrans f5)) n1).mono ?_; rintro e x6 ⟨v6, rfl, hr6, f6⟩; clear _tk tBr; obtain ⟨s6, c6, rfl, hc6, hi6⟩ := rowI_ints hr6; have e0 := f6.keepc d0; have e1 := f6.keepc d1)
                  | (go_at_call 26; have _tk := tCr; refine (cloneN_any (some (aa.add (ys.length * 3))) (xs.length - ys.length) (k2 - ys.length) ds x6 (HDC.out.kept ((((Fr.refl no u8).drewN _).noTrans f5).noTrans f6)) hlen40).mono ?_; rintro e x7 ⟨v7, rfl, hr7, f7⟩; clear _tk tCr; obtain ⟨s7, c7, rfl, hc7, hi7⟩ := rowN_in hr7; have g0 := f7.keepc e0; have g1 := f7.keepc e1)
                  | (go_at_call 24; have _tk := tDr; refine (runV_any s5 _ c5 s6 _ c6 s7 _ c7 L1 zs _ x7 (hi5.kept (f6.noTrans f7)) (hi6.kept f7) hi7 hc6 hL40 n1 hd40).mono ?_; rintro e x8 ⟨v10, i10, er10, rfl, hv10, f8⟩; clear _tk tDr; have r0 := f8.keepc g0; have r1 := f8.keepc g1))
              have FYx := Lib.hid (show Fr no u8 x8 from (((((Fr.refl no u8).drewN _).noTrans f5).noTrans f6).noTrans f7).noTrans f8)
              have HFx := Lib.hid (HF9.out.noTrans FYx.out)
              have HV10 := Lib.hid hv10
              have HIA := Lib.hid (HI9.out.kept FYx.out)
              clear hv10 f5 f6 f7 f8 hr5 hr6 hr7 hi5 hi6 hi7 d0 d1 e0 e1 g0 g1 p0 p1 FYx HI9 HI1
              obtain ⟨rfl, rfl, hrow10⟩ : i10 = -1 ∧ er10 = 0 ∧ RowS x7.heap.size x8 v10 LA := by
                rcases HV10.out with ⟨hno, -⟩ | ⟨-, -, h1, h2, h3⟩ | ⟨-, -, k, hk, -, hek, -⟩
                · exact absurd HR10.out hno
                · rw [HE10.out] at h3; exact ⟨h1, h2, h3⟩
                · exact absurd (HC10.out k hk) hek
              obtain ⟨s10, c10, rfl, hc10, hi10⟩ := rowS_in hrow10
              rw [HLAl.out] at hi10 hc10 ⊢
              have HI10 := Lib.hid hi10
              have HSx := Lib.hid (HS.out.kept HFx.out)
              have HXx := Lib.hid (HX.out.kept HFx.out)
              have KE := Lib.hid (equalS_same s10 sa l.length c10 ca LA x8 HI10.out HIA.out n0)
              clear HV10 hrow10 hi10 HE10 HR10 HC10 HDN HXu HZu
              go_wp2_with fail
              refine KE.out.mono ?_
              rintro e z1 ⟨rfl, fz⟩
              have HFz := Lib.hid (HFx.out.noTrans fz)
              have t0 := fz.keepc r0
              have t1 := fz.keepc r1
              have HIz := Lib.hid (HIA.out.kept fz)
              have HSz := Lib.hid (HSx.out.kept fz)
              have HXz := Lib.hid (HXx.out.kept fz)
              clear fz r0 r1 HIA HSx HXx KE
              go_wp2_with fail
              go_loopw [17, 18, 126] (fun _ _ i wr => ∃ n : Nat, n ≤ l.length ∧ i = .int .i64 n ∧ Hid (Fr no z1 wr)) (fun _ _ i _ => l.length - (intOf i).toNat)
              case atStart => exact ⟨0, by omega, rfl, Lib.hid (Fr.refl no _)⟩
              case round =>
                obtain ⟨n, hn, rfl, F⟩ := hrel
                by_cases hlt : n < l.length
                · have hnI : (n : Int) < (l.length : Int) := by omega
                  obtain ⟨W2, hW2⟩ : ∃ W2, W2 = wr.alloc (.cells #[.int .i64 (n : Int)] 3 (0, 0)) := ⟨_, rfl⟩
                  have hcn : W2.cell? ⟨wr.heap.size, 0, none⟩ = some (.int .i64 (n : Int)) := by rw [hW2]; exact one_cellF (heap_alloc_new wr _)
                  have FA := Lib.hid (show Fr no z1 W2 by rw [hW2]; exact F.out.alloc _)
                  have KN := Lib.hid (contains_any _ xs.length k2 xs (n : Int) wr.heap.size W2 (HXz.out.kept FA.out) hcn n2)
                  have u0 := F.out.keepc t0
                  have u1 := F.out.keepc t1
                  have HW2 := Lib.hid hW2
                  have hT : wr.heap.size < W2.heap.size := by rw [hW2]; simp
                  clear hW2
                  cases hnam : namB xs (n : Int)
                  · rw [hnam] at KN
                    have HEQ := Lib.hid (HUN.out n hnam)
                    go_wp2_with fail
                    rw [← HW2.out]
                    refine KN.out.mono ?_
                    rintro e z2 ⟨rfl, f2⟩
                    have F2 := Lib.hid (FA.out.noTrans f2)
                    have hcn2 := f2.keepc hcn
                    have w0 := F2.out.keepc t0
                    obtain ⟨b3, off3, hb3, -, hc3⟩ := sys_at (HIz.out.kept F2.out) (by omega)
                    obtain ⟨b4, off4, hb4, -, hc4⟩ := sys_at (HSz.out.kept F2.out) (by omega)
                    obtain ⟨y0, y1, y2, y3⟩ := hc3 n hlt
                    obtain ⟨v0, v1, v2, v3⟩ := hc4 n hlt
                    rw [HEQ.out] at y0 y1 y2 y3
                    subst hb3 hb4
                    generalize syAt l n = V at *
                    clear f2 hc3 hc4 u0 u1 hcn HEQ hnam
                    go_wp2_with fail
                    go_quiet (fail)
                    rename_i nq
                    have FQ := Lib.hid (F2.out.drewN nq)
                    go_wp2_with fail
                    go_roundw
                    case rel => exact ⟨n + 1, by omega, by go_num, FQ⟩
                    case measure => simp [intOf]; omega
                  · rw [hnam] at KN
                    go_wp2_with fail
                    rw [← HW2.out]
                    refine KN.out.mono ?_
                    rintro e z2 ⟨rfl, f2⟩
                    have F2 := Lib.hid (FA.out.noTrans f2)
                    clear f2 u0 u1 hcn hnam
                    go_wp2_with fail
                    go_quiet (fail)
                    rename_i nq
                    have FQ := Lib.hid (F2.out.drewN nq)
                    go_wp2_with fail
                    go_roundw
                    case rel => exact ⟨n + 1, by omega, by go_num, FQ⟩
                    case measure => simp [intOf]; omega
                · have hnI : ¬ (n : Int) < (l.length : Int) := by omega
                  go_wp2_with fail
                  go_ret
                  exact ⟨rfl, HFz.out.noTrans F.out⟩

        · have hr2 : (er8 == 0) = false := by
            have : er8 ≠ 0 := by rw [hee]; exact hek
            simpa using this
          have hkI : (k : Int) < (xs.length : Int) := by omega
          clear HV hek hee h0 h1
          go_wp2_with fail
          go_ret
          exact ⟨by first | rfl | (simp; done) | (simp; omega), HF8.out⟩
      · have i2 : (40 : Int) < (xs.length : Int) := by omega
        have i0 : (l.length : Int) ≤ 40 := by omega
        have i1 : (zs.length : Int) ≤ 40 := by omega
        have q0 : decide (40 < (l.length : Int)) = false := by simp; omega
        have q1 : decide (40 < (zs.length : Int)) = false := by simp; omega
        clear m0 m1 m2
        go_enter Try.func6, Try.ntmps6
        go_wp2_with fail
        rw [← HW.out]
        refine (awake_any _).mono ?_
        rintro e w1 ⟨rfl, f1⟩
        have HF1 := Lib.hid (HF0.out.noTrans f1)
        have b0_1 := f1.keepc b0_0
        have b1_1 := f1.keepc b1_0
        clear f1 b0_0 b1_0 HF0
        go_wp2_with fail
        go_ret
        exact ⟨rfl, HF1.out⟩

    · have i1 : (40 : Int) < (zs.length : Int) := by omega
      have i0 : (l.length : Int) ≤ 40 := by omega
      have q0 : decide (40 < (l.length : Int)) = false := by simp; omega
      clear m0 m1 m2
      go_enter Try.func6, Try.ntmps6
      go_wp2_with fail
      rw [← HW.out]
      refine (awake_any _).mono ?_
      rintro e w1 ⟨rfl, f1⟩
      have HF1 := Lib.hid (HF0.out.noTrans f1)
      have b0_1 := f1.keepc b0_0
      have b1_1 := f1.keepc b1_0
      clear f1 b0_0 b1_0 HF0
      go_wp2_with fail
      go_ret
      exact ⟨rfl, HF1.out⟩

  · have i0 : (40 : Int) < (l.length : Int) := by omega
    clear m0 m1 m2
    go_enter Try.func6, Try.ntmps6
    go_wp2_with fail
    rw [← HW.out]
    refine (awake_any _).mono ?_
    rintro e w1 ⟨rfl, f1⟩
    have HF1 := Lib.hid (HF0.out.noTrans f1)
    have b0_1 := f1.keepc b0_0
    have b1_1 := f1.keepc b1_0
    clear f1 b0_0 b1_0 HF0
    go_wp2_with fail
    go_ret
    exact ⟨rfl, HF1.out⟩


end Go.Proofs.Ytmkmefcafpgphaa
