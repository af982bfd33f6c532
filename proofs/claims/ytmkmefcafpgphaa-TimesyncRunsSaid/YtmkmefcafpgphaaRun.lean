/- Run. -/
import Derived.Test.YtmkmefcafpgphaaLsn
import Derived.Test.YtmkmefcafpgphaaLw4
import Derived.Deep.RegionHeld3
import Derived.StillTailTactics
import Derived.BigRegion
import Derived.Deep.RegionWith
namespace Go.Proofs.Ytmkmefcafpgphaa
set_option linter.unusedVariables false
open Go.RowKit


set_option maxRecDepth 20000 in
set_option maxHeartbeats 8000000 in
theorem run_any (a0 : Option Addr) (l0 k0 : Nat) (a1 : Option Addr) (l1 k1 : Nat) (a2 : Option Addr) (l2 k2 : Nat) (l : List Sy) (zs : List Int) (xs : List Sn) (w : World) (hs : SysIn w a0 l0 l) (hz : IntsIn w a1 l1 zs) (hx : SnsIn w a2 l2 xs) (hc : l1 ≤ k1) (n0 : l0 ≤ 40) (n1 : l1 ≤ 40) (n2 : l2 ≤ 40) :
    Calls Try.prog 24 #[.slice a0 l0 k0, .slice a1 l1 k1, .slice a2 l2 k2] w (fun e w' => RunR w w' zs l xs e) := by
  have KD := Lib.hid (depths_any a1 l1 k1 zs w hz hc n1)
  have KV := Lib.hid (fun w' hf => areValid_any a0 l0 k0 l w' (hs.kept (w' := w') hf) n0)
  have KC := Lib.hid (fun w' hf => cloneS_any a0 l0 k0 l w' (hs.kept (w' := w') hf) n0)
  have HS := Lib.hid hs
  have HZ := Lib.hid hz
  have HX := Lib.hid hx
  have hsl := hs.1
  have hzl := hz.1
  have hxl := hx.1
  have hX2 : (l2 : Int) ≤ 1024 := by omega
  have hX3 : decide (1024 < (l2 : Int)) = false := by simp; omega
  clear hs hz hx
  go_enter Try.func24, Try.ntmps24
  go_wp2_with fail
  refine KD.out.mono ?_
  rintro e w1 ⟨f1, ⟨hT, v, rfl, hrow⟩ | ⟨hT, rfl⟩⟩
  · have HF1 := Lib.hid f1
    have HT := Lib.hid hT
    clear f1 hrow hT
    by_cases hll : l0 = l1
    · subst hll
      cases hv : l.all syOk
      · have HR := Lib.hid (show ¬ RunOk zs l xs.length from fun h => by rw [h.2.2.1] at hv; cases hv)
        have KV1 := KV.out w1 HF1.out
        rw [hv] at KV1
        have KV1 := Lib.hid KV1
        clear hv
        go_wp2_with fail
        refine KV1.out.mono ?_
        rintro e w2 ⟨rfl, f2⟩
        have HF2 := Lib.hid (HF1.out.noTrans f2)
        clear f2
        go_wp2_with fail
        go_ret3
        exact ⟨HF2.out, .inl ⟨HR.out, rfl⟩⟩
      · have HR := Lib.hid (show RunOk zs l xs.length from ⟨HT.out, by omega, hv, by omega⟩)
        have KV1 := KV.out w1 HF1.out
        rw [hv] at KV1
        have KV1 := Lib.hid KV1
        clear hv
        go_wp2_with fail
        refine KV1.out.mono ?_
        rintro e w2 ⟨rfl, f2⟩
        have HF2 := Lib.hid (HF1.out.noTrans f2)
        have KC2 := Lib.hid (KC.out w2 HF2.out)
        clear f2
        go_wp2_with fail
        refine KC2.out.mono ?_
        rintro e w3 ⟨v3, rfl, hrow, f3⟩
        have HF3 := Lib.hid (HF2.out.noTrans f3)
        obtain ⟨n1', n2', z0⟩ := tree_len HT.out
        rw [hzl] at n1' n2'
        have hrow' : World.ownsRow w3 w2.heap.size 25 4 v3 l.length (flatS l) := hrow
        rw [hsl] at hrow'
        obtain ⟨g, cap, rfl, hg⟩ : ∃ g cap, v3 = .slice (some ⟨g, 0, none⟩) l0 cap ∧ w2.heap.size ≤ g := by
          rcases hrow'.2 with ⟨_, h0⟩ | ⟨g, cap', cur, hv, hq1, hq2⟩
          · omega
          · exact ⟨g, cap', hv, hq1⟩
        have HO3 := Lib.hid hrow'
        have HP := Lib.hid (hpB_t HT.out.1).2.2
        have HG := Lib.hid (show w.heap.size ≤ g from Nat.le_trans HF2.out.size hg)
        clear hrow hrow' f3 z0
        go_wp2_with fail
        go_loopw [12, 13, 14, 15, 43] (fun _ _ _ _ i wr => ∃ k : Nat, k ≤ l2 ∧ i = .int .i64 k ∧ Hid (∀ j, j < k → runE zs l xs j = 0) ∧ Hid (World.ownsRow wr w2.heap.size 25 4 (.slice (some ⟨g, 0, none⟩) l0 cap) l0 (flatS (runL zs l xs k))) ∧ Hid (Fr no w wr)) (fun _ _ _ _ i _ => l2 - (intOf i).toNat)
        case atStart => exact ⟨0, by omega, rfl, Lib.hid (fun j hj => by omega), HO3, HF3⟩
        case round =>
          obtain ⟨k, hk, rfl, I, O, F⟩ := hrel
          by_cases hlt : k < l2
          · obtain ⟨b2, off2, rfl, -, hxc⟩ := sns_at (HX.out.kept F.out) (by omega)
            obtain ⟨x0, x1, x2⟩ := hxc k hlt
            have HE := Lib.hid (show runE zs l xs k = stE zs (runL zs l xs k) (snAt xs k) from rfl)
            have HL := Lib.hid (show runL zs l xs (k + 1) = stL zs (runL zs l xs k) (snAt xs k) from rfl)
            have hLl : (runL zs l xs k).length = l0 := by rw [runL_len]; exact hsl
            obtain ⟨L, hL⟩ : ∃ L, runL zs l xs k = L := ⟨_, rfl⟩
            obtain ⟨⟨xn, xt, xa⟩, hxx⟩ : ∃ x, snAt xs k = x := ⟨_, rfl⟩
            rw [hL] at HE HL O hLl
            rw [hxx] at HE HL x0 x1 x2
            have KW := Lib.hid (fun w => twithin_any xn 1 ((l0 : Int) - 1) w)
            have hkI : (k : Int) < (l2 : Int) := by omega
            have HLl := Lib.hid hLl
            clear hxc hL hxx hLl
            cases hin : inR xn 1 ((l0 : Int) - 1)
            · rw [hin] at KW
              have HR7 := Lib.hid (show runE zs l xs k = 7 by rw [HE.out, stE, HLl.out, hin]; rfl)
              clear hin
              go_wp2_with fail
              refine (KW.out _).mono ?_
              rintro e w4 ⟨rfl, rfl⟩
              go_wp2_with fail
              go_ret3
              refine ⟨F.out.alloc _, .inr (.inr ⟨HR.out, k, by omega, I.out, by rw [HR7.out]; decide, ?_⟩)⟩
              rw [HR7.out]
              rfl
            · rw [hin] at KW
              obtain ⟨m, rfl⟩ : ∃ m : Nat, xn = (m : Int) := ⟨xn.toNat, by have := (inR_t.1 hin).1; omega⟩
              obtain ⟨i1, i2⟩ := inR_t.1 hin
              have hm1 : 1 ≤ m := by omega
              have hm2 : m < l0 := by omega
              obtain ⟨p0, p1⟩ := HP.out m hm1 (by omega)
              obtain ⟨q, hq⟩ : ∃ q : Nat, zs.getD m 0 = (q : Int) := ⟨(zs.getD m 0).toNat, by omega⟩
              have hq2 : q < l0 := by omega
              have HEE := Lib.hid (show runE zs l xs k = coxE (syAt L m) (syAt L q) ⟨(m : Int), xt, xa⟩ by
                rw [HE.out, stE, HLl.out, hin, if_pos rfl, show ((m : Int)).toNat = m by omega, hq, show ((q : Int)).toNat = q by omega])
              have HLL := Lib.hid (show runL zs l xs (k + 1) = L.set m (coxV (syAt L m) (syAt L q) ⟨(m : Int), xt, xa⟩) by
                rw [HL.out, stL, show ((m : Int)).toNat = m by omega, hq, show ((q : Int)).toNat = q by omega])
              have HZr := HZ.out.kept F.out
              obtain ⟨b1, off1, rfl, -, hzc⟩ := slice_1 HZr (by omega)
              have zc := hzc m (by omega)
              rw [hq] at zc
              have hca : ∀ i j, i < l0 → j < 4 → World.cell? _ ⟨g, i * 4 + j, none⟩ = (syVals (syAt L i))[j]? := fun i j hi hj => by
                rw [O.out.cellAt (i * 4 + j) (by omega), flatS_at L i j (by rw [HLl.out]; exact hi) hj]
              have u0 := hca m 0 hm2 (by omega)
              have u1 := hca m 1 hm2 (by omega)
              have u2 := hca m 2 hm2 (by omega)
              have u3 := hca m 3 hm2 (by omega)
              have v0 := hca q 0 hq2 (by omega)
              have v1 := hca q 1 hq2 (by omega)
              have v2 := hca q 2 hq2 (by omega)
              have v3 := hca q 3 hq2 (by omega)
              obtain ⟨⟨so, sd, ss, sc⟩, hsm⟩ : ∃ v, syAt L m = v := ⟨_, rfl⟩
              obtain ⟨⟨po, pd, ps, pc⟩, hsq⟩ : ∃ v, syAt L q = v := ⟨_, rfl⟩
              rw [hsm] at u0 u1 u2 u3 HEE HLL
              rw [hsq] at v0 v1 v2 v3 HEE HLL
              simp only [syVals, List.getElem?_cons_zero, List.getElem?_cons_succ, Nat.add_zero] at u0 u1 u2 u3 v0 v1 v2 v3
              have hmI : (m : Int) < (l0 : Int) := by omega
              have hqI : (q : Int) < (l0 : Int) := by omega
              clear hca hzc HZr hsm hsq HE HL hq p0 p1 hin
              go_wp2_with fail
              refine (KW.out _).mono ?_
              rintro e w4 ⟨rfl, rfl⟩
              go_wp2_with fail
              obtain ⟨wS, hwS⟩ : ∃ wS, wS = wr.alloc (.cells #[.int .i64 (m : Int), .int .i64 xt, .bool xa] 49 (0, 0)) := ⟨_, rfl⟩
              obtain ⟨T, hT⟩ : ∃ T, T = wr.heap.size := ⟨_, rfl⟩
              have FS := Lib.hid (show Fr no w wS by rw [hwS]; exact F.out.alloc _)
              have OS := Lib.hid (show World.ownsRow wS w2.heap.size 25 4 (.slice (some ⟨g, 0, none⟩) l0 cap) l0 (flatS L) by rw [hwS]; exact O.out.alloc _)
              obtain ⟨t0, t1, t2, -⟩ := three_cells (show wS.heap[T]? = some (.cells #[.int .i64 (m : Int), .int .i64 xt, .bool xa] 49 (0, 0)) by rw [hwS, hT]; exact heap_alloc_new wr _)
              have U0 := cell_alloc (.cells #[.int .i64 (m : Int), .int .i64 xt, .bool xa] 49 (0, 0)) u0
              have U1 := cell_alloc (.cells #[.int .i64 (m : Int), .int .i64 xt, .bool xa] 49 (0, 0)) u1
              have U2 := cell_alloc (.cells #[.int .i64 (m : Int), .int .i64 xt, .bool xa] 49 (0, 0)) u2
              have U3 := cell_alloc (.cells #[.int .i64 (m : Int), .int .i64 xt, .bool xa] 49 (0, 0)) u3
              have V0 := cell_alloc (.cells #[.int .i64 (m : Int), .int .i64 xt, .bool xa] 49 (0, 0)) v0
              have V1 := cell_alloc (.cells #[.int .i64 (m : Int), .int .i64 xt, .bool xa] 49 (0, 0)) v1
              have V2 := cell_alloc (.cells #[.int .i64 (m : Int), .int .i64 xt, .bool xa] 49 (0, 0)) v2
              have V3 := cell_alloc (.cells #[.int .i64 (m : Int), .int .i64 xt, .bool xa] 49 (0, 0)) v3
              have ZC := cell_alloc (.cells #[.int .i64 (m : Int), .int .i64 xt, .bool xa] 49 (0, 0)) zc
              rw [← hwS] at U0 U1 U2 U3 V0 V1 V2 V3 ZC
              rw [← hwS, ← hT]
              have HSO := Lib.hid (show w.heap.size ≤ wS.heap.size from FS.out.size)
              clear u0 u1 u2 u3 v0 v1 v2 v3 zc hwS hT
              have n0 := World.new_ne wS _ t0
              have n1x := World.new_ne wS _ U0
              have n2x := World.new_ne wS _ ZC
              obtain ⟨Z, hZ⟩ : ∃ Z : Obj, Z = .cells #[.int .i64 0, .int .i64 0, .int .i64 0, .int .i64 0] 25 (0, 0) := ⟨_, rfl⟩
              cases xa
              · have HEF := Lib.hid (show runE zs l xs k = hrE so sd ss sc po pd xt by rw [HEE.out]; rfl)
                have HLF := Lib.hid (show runL zs l xs (k + 1) = L.set m ⟨hrO so sd ss sc po pd xt, hrD so sd ss sc po pd xt, hrS so sd ss sc po pd xt, hrC so sd ss sc po pd xt⟩ by rw [HLL.out]; rfl)
                have KK := Lib.hid (fun W => show Calls Try.prog 55 #[.agg #[.int .i64 (m : Int), .int .i64 xt, .bool false]] W fun e w' => e = .returned (.func (.func 71) #[] #[]) ∧ Fr no W w' from kindOf_any (m : Int) xt false W)
                have KP := Lib.hid (fun W => show Calls Try.prog 71 _ W _ from phear_any so sd ss sc po pd ps pc xt W)
                generalize hrE so sd ss sc po pd xt = rE at *
                generalize hrO so sd ss sc po pd xt = rO at *
                generalize hrD so sd ss sc po pd xt = rD at *
                generalize hrS so sd ss sc po pd xt = rS at *
                generalize hrC so sd ss sc po pd xt = rC at *
                have eg : ∀ args w, (callFunc 71 args).run Try.prog w = .ok (.enter 71 args) w := Go.Proofs.enters_of Try.func71 (by kernel_rfl) rfl
                have tA : True := trivial
                have tB : True := trivial
                clear HEE HLL hZ Z KW
                go_region_held3 (fun w' => w'.cell? ⟨T, 0, none⟩ = some (.int .i64 (m : Int)) ∧ w'.cell? ⟨T, 1, none⟩ = some (.int .i64 xt) ∧ w'.cell? ⟨T, 2, none⟩ = some (.bool false) ∧ w'.cell? ⟨g, m * 4, none⟩ = some (.int .i64 so) ∧ w'.cell? ⟨g, m * 4 + 1, none⟩ = some (.int .i64 sd) ∧ w'.cell? ⟨g, m * 4 + 2, none⟩ = some (.int .i64 ss) ∧ w'.cell? ⟨g, m * 4 + 3, none⟩ = some (.int .i64 sc) ∧ w'.cell? ⟨g, q * 4, none⟩ = some (.int .i64 po) ∧ w'.cell? ⟨g, q * 4 + 1, none⟩ = some (.int .i64 pd) ∧ w'.cell? ⟨g, q * 4 + 2, none⟩ = some (.int .i64 ps) ∧ w'.cell? ⟨g, q * 4 + 3, none⟩ = some (.int .i64 pc) ∧ w'.cell? ⟨b1, off1 + m, none⟩ = some (.int .i64 (q : Int))) (go_keep)
                  (first
                    | (go_at_call 55; have _tk := tA; refine (KK.out (wS.drewN _)).mono ?_; rintro e w5 ⟨rfl, f5⟩; clear _tk tA; have j0 := f5.keepc t0; have j1 := f5.keepc t1; have j2 := f5.keepc t2; have j3 := f5.keepc U0; have j4 := f5.keepc U1; have j5 := f5.keepc U2; have j6 := f5.keepc U3; have j7 := f5.keepc V0; have j8 := f5.keepc V1; have j9 := f5.keepc V2; have j10 := f5.keepc V3; have j11 := f5.keepc ZC; have o0 := World.new_ne w5 _ j0; have o1 := World.new_ne w5 _ j3; have o2 := World.new_ne w5 _ j11)
                    | (go_at_call 55; have _tk := tA; refine (KK.out ((wS.alloc (.cells #[.int .i64 0, .int .i64 0, .int .i64 0, .int .i64 0] 25 (0, 0))).drewN _)).mono ?_; rintro e w5 ⟨rfl, f5⟩; clear _tk tA; have hz5 := f5.blk (heap_alloc_new wS (.cells #[.int .i64 0, .int .i64 0, .int .i64 0, .int .i64 0] 25 (0, 0))) (fun h => h); have j0 := f5.keepc (cell_alloc _ t0); have j1 := f5.keepc (cell_alloc _ t1); have j2 := f5.keepc (cell_alloc _ t2); have j3 := f5.keepc (cell_alloc _ U0); have j4 := f5.keepc (cell_alloc _ U1); have j5 := f5.keepc (cell_alloc _ U2); have j6 := f5.keepc (cell_alloc _ U3); have j7 := f5.keepc (cell_alloc _ V0); have j8 := f5.keepc (cell_alloc _ V1); have j9 := f5.keepc (cell_alloc _ V2); have j10 := f5.keepc (cell_alloc _ V3); have j11 := f5.keepc (cell_alloc _ ZC); have o0 := World.new_ne w5 _ j0; have o1 := World.new_ne w5 _ j3; have o2 := World.new_ne w5 _ j11)
                    | (go_at_fn 71; have _tk := tB; refine (KP.out w5).mono ?_; rintro e w6 ⟨rfl, f6⟩; clear _tk tB; have hz6 := f6.blk hz5 (fun h => h); obtain ⟨y0, y1, y2, y3, yf0, yf1, yf2, yf3⟩ := four_cells hz6; have kk0 := f6.keepc j0; have kk1 := f6.keepc j1; have kk2 := f6.keepc j2; have kk3 := f6.keepc j3; have kk4 := f6.keepc j4; have kk5 := f6.keepc j5; have kk6 := f6.keepc j6; have kk7 := f6.keepc j7; have kk8 := f6.keepc j8; have kk9 := f6.keepc j9; have kk10 := f6.keepc j10; have kk11 := f6.keepc j11; have m0 := World.new_ne w6 _ kk0; have m1 := World.new_ne w6 _ kk3; have m2 := World.new_ne w6 _ kk11)
                    | (go_at_fn 71; have _tk := tB; refine (KP.out w5).mono ?_; rintro e w6 ⟨rfl, f6⟩; clear _tk tB; have kk0 := f6.keepc j0; have kk1 := f6.keepc j1; have kk2 := f6.keepc j2; have kk3 := f6.keepc j3; have kk4 := f6.keepc j4; have kk5 := f6.keepc j5; have kk6 := f6.keepc j6; have kk7 := f6.keepc j7; have kk8 := f6.keepc j8; have kk9 := f6.keepc j9; have kk10 := f6.keepc j10; have kk11 := f6.keepc j11; have m0 := World.new_ne w6 _ kk0; have m1 := World.new_ne w6 _ kk3; have m2 := World.new_ne w6 _ kk11)
                    | (go_at_fn 71; have _tk := tB; refine (KP.out (w5.alloc (.cells #[.int .i64 0, .int .i64 0, .int .i64 0, .int .i64 0] 25 (0, 0)))).mono ?_; rintro e w6 ⟨rfl, f6⟩; clear _tk tB; have hz6 := f6.blk (heap_alloc_new w5 (.cells #[.int .i64 0, .int .i64 0, .int .i64 0, .int .i64 0] 25 (0, 0))) (fun h => h); obtain ⟨y0, y1, y2, y3, yf0, yf1, yf2, yf3⟩ := four_cells hz6; have kk0 := f6.keepc (cell_alloc _ j0); have kk1 := f6.keepc (cell_alloc _ j1); have kk2 := f6.keepc (cell_alloc _ j2); have kk3 := f6.keepc (cell_alloc _ j3); have kk4 := f6.keepc (cell_alloc _ j4); have kk5 := f6.keepc (cell_alloc _ j5); have kk6 := f6.keepc (cell_alloc _ j6); have kk7 := f6.keepc (cell_alloc _ j7); have kk8 := f6.keepc (cell_alloc _ j8); have kk9 := f6.keepc (cell_alloc _ j9); have kk10 := f6.keepc (cell_alloc _ j10); have kk11 := f6.keepc (cell_alloc _ j11); have m0 := World.new_ne w6 _ kk0; have m1 := World.new_ne w6 _ kk3; have m2 := World.new_ne w6 _ kk11))
                · obtain ⟨W, hW⟩ : ∃ W, W = w6.alloc (.cells #[.int .i64 rO, .int .i64 rD, .int .i64 rS, .int .i64 rC] 25 (0, 0)) := ⟨_, rfl⟩
                  have hb : W.heap[w6.heap.size]? = some (.cells #[.int .i64 rO, .int .i64 rD, .int .i64 rS, .int .i64 rC] 25 (0, 0)) := by rw [hW]; exact heap_alloc_new w6 _
                  have FW := Lib.hid (show Fr no wS W by rw [hW]; exact ((((Fr.refl no wS).drewN _).noTrans f5).noTrans f6).alloc _)
                  have HB := Lib.hid (show wS.heap.size ≤ w6.heap.size from Nat.le_trans f5.size f6.size)
                  rw [← hW]
                  clear j0 kk0 j1 kk1 j2 kk2 j3 kk3 j4 kk4 j5 kk5 j6 kk6 j7 kk7 j8 kk8 j9 kk9 j10 kk10 j11 kk11 m0 m1 m2 o0 o1 o2 n0 n1x n2x t1 t2 V0 V1 V2 V3 ZC hW f5 f6
                  have T0 := FW.out.keepc t0
                  have OW := World.ownsRow.kept OS.out FW.out.growNo (Classical.em _)
                  obtain ⟨r0, r1, r2, r3, -⟩ := four_cells hb
                  have HbW := Lib.hid hb
                  have q0 := FW.out.keepc U0
                  have q1 := FW.out.keepc U1
                  have q2 := FW.out.keepc U2
                  have q3 := FW.out.keepc U3
                  have e0 := OW.frozenAt (m * 4)
                  have e1 := OW.frozenAt (m * 4 + 1)
                  have e2 := OW.frozenAt (m * 4 + 2)
                  have e3 := OW.frozenAt (m * 4 + 3)
                  have FWw := Lib.hid (FS.out.noTrans FW.out)
                  have hgB : g ≠ w6.heap.size := by have hgl : g < wS.heap.size := World.block_lt_of_cell? _ _ U0; have := HB.out; omega
                  have hBg := hgB.symm
                  have OWh := Lib.hid OW
                  clear U0 U1 U2 U3 t0 hb OW
                  by_cases hr : rE = 0
                  · have hr2 : (rE == 0) = true := by simp [hr]
                    have HN := Lib.hid (show ∀ j, j < k + 1 → runE zs l xs j = 0 from fun j hj => by
                      by_cases e : j = k
                      · rw [e, HEF.out]; exact hr
                      · exact I.out j (by omega))
                    have HRW := Lib.hid ((((OWh.out.stored (m * 4) (.int .i64 rO)).1.stored (m * 4 + 1) (.int .i64 rD)).1.stored (m * 4 + 2) (.int .i64 rS)).1.stored (m * 4 + 3) (.int .i64 rC)).1
                    have HFn := Lib.hid ((((FWw.out.setCell (p := ⟨g, m * 4, none⟩) (.inr HG.out) (.int .i64 rO)).setCell (p := ⟨g, m * 4 + 1, none⟩) (.inr HG.out) (.int .i64 rD)).setCell (p := ⟨g, m * 4 + 2, none⟩) (.inr HG.out) (.int .i64 rS)).setCell (p := ⟨g, m * 4 + 3, none⟩) (.inr HG.out) (.int .i64 rC))
                    have HFS := Lib.hid (flatS_set L m ⟨rO, rD, rS, rC⟩ (by have := HLl.out; omega))
                    subst hr
                    clear hr2
                    go_wp2_with fail
                    go_roundw
                    case rel => exact ⟨k + 1, by omega, by go_num, HN, Lib.hid (by rw [HLF.out, ← HFS.out]; exact HRW.out), HFn⟩
                    case measure => simp [intOf]; omega
                  · have hr2 : (rE == 0) = false := by simpa using hr
                    have HRn := Lib.hid hr
                    clear hr
                    go_wp2_with fail
                    go_ret3
                    exact ⟨FWw.out, .inr (.inr ⟨HR.out, k, by omega, I.out, by rw [HEF.out]; exact HRn.out, by rw [HEF.out]; rfl⟩)⟩
                · obtain ⟨W, hW⟩ : ∃ W, W = ((((w6.setCell ⟨w5.heap.size, 0, none⟩ (.int .i64 rO)).setCell ⟨w5.heap.size, 1, none⟩ (.int .i64 rD)).setCell ⟨w5.heap.size, 2, none⟩ (.int .i64 rS)).setCell ⟨w5.heap.size, 3, none⟩ (.int .i64 rC)) := ⟨_, rfl⟩
                  have hb : W.heap[w5.heap.size]? = some (.cells #[.int .i64 rO, .int .i64 rD, .int .i64 rS, .int .i64 rC] 25 (0, 0)) := by rw [hW]; exact set_four hz6 _ _ _ _
                  have FW := Lib.hid (show Fr no wS W by rw [hW]; exact set_four_fr (((((Fr.refl no wS).drewN _).noTrans f5).alloc _).noTrans f6) f5.size _ _ _ _)
                  have HB := Lib.hid (show wS.heap.size ≤ w5.heap.size from f5.size)
                  clear y0 y1 y2 y3 yf0 yf1 yf2 yf3 hz6
                  rw [← hW]
                  clear j0 kk0 j1 kk1 j2 kk2 j3 kk3 j4 kk4 j5 kk5 j6 kk6 j7 kk7 j8 kk8 j9 kk9 j10 kk10 j11 kk11 m0 m1 m2 o0 o1 o2 n0 n1x n2x t1 t2 V0 V1 V2 V3 ZC hW f5 f6
                  have T0 := FW.out.keepc t0
                  have OW := World.ownsRow.kept OS.out FW.out.growNo (Classical.em _)
                  obtain ⟨r0, r1, r2, r3, -⟩ := four_cells hb
                  have HbW := Lib.hid hb
                  have q0 := FW.out.keepc U0
                  have q1 := FW.out.keepc U1
                  have q2 := FW.out.keepc U2
                  have q3 := FW.out.keepc U3
                  have e0 := OW.frozenAt (m * 4)
                  have e1 := OW.frozenAt (m * 4 + 1)
                  have e2 := OW.frozenAt (m * 4 + 2)
                  have e3 := OW.frozenAt (m * 4 + 3)
                  have FWw := Lib.hid (FS.out.noTrans FW.out)
                  have hgB : g ≠ w5.heap.size := by have hgl : g < wS.heap.size := World.block_lt_of_cell? _ _ U0; have := HB.out; omega
                  have hBg := hgB.symm
                  have OWh := Lib.hid OW
                  clear U0 U1 U2 U3 t0 hb OW
                  by_cases hr : rE = 0
                  · have hr2 : (rE == 0) = true := by simp [hr]
                    have HN := Lib.hid (show ∀ j, j < k + 1 → runE zs l xs j = 0 from fun j hj => by
                      by_cases e : j = k
                      · rw [e, HEF.out]; exact hr
                      · exact I.out j (by omega))
                    have HRW := Lib.hid ((((OWh.out.stored (m * 4) (.int .i64 rO)).1.stored (m * 4 + 1) (.int .i64 rD)).1.stored (m * 4 + 2) (.int .i64 rS)).1.stored (m * 4 + 3) (.int .i64 rC)).1
                    have HFn := Lib.hid ((((FWw.out.setCell (p := ⟨g, m * 4, none⟩) (.inr HG.out) (.int .i64 rO)).setCell (p := ⟨g, m * 4 + 1, none⟩) (.inr HG.out) (.int .i64 rD)).setCell (p := ⟨g, m * 4 + 2, none⟩) (.inr HG.out) (.int .i64 rS)).setCell (p := ⟨g, m * 4 + 3, none⟩) (.inr HG.out) (.int .i64 rC))
                    have HFS := Lib.hid (flatS_set L m ⟨rO, rD, rS, rC⟩ (by have := HLl.out; omega))
                    subst hr
                    clear hr2
                    go_wp2_with fail
                    go_roundw
                    case rel => exact ⟨k + 1, by omega, by go_num, HN, Lib.hid (by rw [HLF.out, ← HFS.out]; exact HRW.out), HFn⟩
                    case measure => simp [intOf]; omega
                  · have hr2 : (rE == 0) = false := by simpa using hr
                    have HRn := Lib.hid hr
                    clear hr
                    go_wp2_with fail
                    go_ret3
                    exact ⟨FWw.out, .inr (.inr ⟨HR.out, k, by omega, I.out, by rw [HEF.out]; exact HRn.out, by rw [HEF.out]; rfl⟩)⟩
                · obtain ⟨W, hW⟩ : ∃ W, W = ((((w6.setCell ⟨wS.heap.size, 0, none⟩ (.int .i64 rO)).setCell ⟨wS.heap.size, 1, none⟩ (.int .i64 rD)).setCell ⟨wS.heap.size, 2, none⟩ (.int .i64 rS)).setCell ⟨wS.heap.size, 3, none⟩ (.int .i64 rC)) := ⟨_, rfl⟩
                  have hb : W.heap[wS.heap.size]? = some (.cells #[.int .i64 rO, .int .i64 rD, .int .i64 rS, .int .i64 rC] 25 (0, 0)) := by rw [hW]; exact set_four hz6 _ _ _ _
                  have FW := Lib.hid (show Fr no wS W by rw [hW]; exact set_four_fr (((((Fr.refl no wS).alloc _).drewN _).noTrans f5).noTrans f6) (Nat.le_refl _) _ _ _ _)
                  have HB := Lib.hid (show wS.heap.size ≤ wS.heap.size from Nat.le_refl _)
                  clear y0 y1 y2 y3 yf0 yf1 yf2 yf3 hz5 hz6
                  rw [← hW]
                  clear j0 kk0 j1 kk1 j2 kk2 j3 kk3 j4 kk4 j5 kk5 j6 kk6 j7 kk7 j8 kk8 j9 kk9 j10 kk10 j11 kk11 m0 m1 m2 o0 o1 o2 n0 n1x n2x t1 t2 V0 V1 V2 V3 ZC hW f5 f6
                  have T0 := FW.out.keepc t0
                  have OW := World.ownsRow.kept OS.out FW.out.growNo (Classical.em _)
                  obtain ⟨r0, r1, r2, r3, -⟩ := four_cells hb
                  have HbW := Lib.hid hb
                  have q0 := FW.out.keepc U0
                  have q1 := FW.out.keepc U1
                  have q2 := FW.out.keepc U2
                  have q3 := FW.out.keepc U3
                  have e0 := OW.frozenAt (m * 4)
                  have e1 := OW.frozenAt (m * 4 + 1)
                  have e2 := OW.frozenAt (m * 4 + 2)
                  have e3 := OW.frozenAt (m * 4 + 3)
                  have FWw := Lib.hid (FS.out.noTrans FW.out)
                  have hgB : g ≠ wS.heap.size := by have hgl : g < wS.heap.size := World.block_lt_of_cell? _ _ U0; have := HB.out; omega
                  have hBg := hgB.symm
                  have OWh := Lib.hid OW
                  clear U0 U1 U2 U3 t0 hb OW
                  by_cases hr : rE = 0
                  · have hr2 : (rE == 0) = true := by simp [hr]
                    have HN := Lib.hid (show ∀ j, j < k + 1 → runE zs l xs j = 0 from fun j hj => by
                      by_cases e : j = k
                      · rw [e, HEF.out]; exact hr
                      · exact I.out j (by omega))
                    have HRW := Lib.hid ((((OWh.out.stored (m * 4) (.int .i64 rO)).1.stored (m * 4 + 1) (.int .i64 rD)).1.stored (m * 4 + 2) (.int .i64 rS)).1.stored (m * 4 + 3) (.int .i64 rC)).1
                    have HFn := Lib.hid ((((FWw.out.setCell (p := ⟨g, m * 4, none⟩) (.inr HG.out) (.int .i64 rO)).setCell (p := ⟨g, m * 4 + 1, none⟩) (.inr HG.out) (.int .i64 rD)).setCell (p := ⟨g, m * 4 + 2, none⟩) (.inr HG.out) (.int .i64 rS)).setCell (p := ⟨g, m * 4 + 3, none⟩) (.inr HG.out) (.int .i64 rC))
                    have HFS := Lib.hid (flatS_set L m ⟨rO, rD, rS, rC⟩ (by have := HLl.out; omega))
                    subst hr
                    clear hr2
                    go_wp2_with fail
                    go_roundw
                    case rel => exact ⟨k + 1, by omega, by go_num, HN, Lib.hid (by rw [HLF.out, ← HFS.out]; exact HRW.out), HFn⟩
                    case measure => simp [intOf]; omega
                  · have hr2 : (rE == 0) = false := by simpa using hr
                    have HRn := Lib.hid hr
                    clear hr
                    go_wp2_with fail
                    go_ret3
                    exact ⟨FWw.out, .inr (.inr ⟨HR.out, k, by omega, I.out, by rw [HEF.out]; exact HRn.out, by rw [HEF.out]; rfl⟩)⟩
              · have HEF := Lib.hid (show runE zs l xs k = akE so sd ss sc po pd xt by rw [HEE.out]; rfl)
                have HLF := Lib.hid (show runL zs l xs (k + 1) = L.set m ⟨akO so sd ss sc po pd xt, akD so sd ss sc po pd xt, akS so sd ss sc po pd xt, akC so sd ss sc po pd xt⟩ by rw [HLL.out]; rfl)
                have KK := Lib.hid (fun W => show Calls Try.prog 55 #[.agg #[.int .i64 (m : Int), .int .i64 xt, .bool true]] W fun e w' => e = .returned (.func (.func 70) #[] #[]) ∧ Fr no W w' from kindOf_any (m : Int) xt true W)
                have KP := Lib.hid (fun W => show Calls Try.prog 70 _ W _ from packed_any so sd ss sc po pd ps pc xt W)
                generalize akE so sd ss sc po pd xt = rE at *
                generalize akO so sd ss sc po pd xt = rO at *
                generalize akD so sd ss sc po pd xt = rD at *
                generalize akS so sd ss sc po pd xt = rS at *
                generalize akC so sd ss sc po pd xt = rC at *
                have eg : ∀ args w, (callFunc 70 args).run Try.prog w = .ok (.enter 70 args) w := Go.Proofs.enters_of Try.func70 (by kernel_rfl) rfl
                have tA : True := trivial
                have tB : True := trivial
                clear HEE HLL hZ Z KW
                go_region_held3 (fun w' => w'.cell? ⟨T, 0, none⟩ = some (.int .i64 (m : Int)) ∧ w'.cell? ⟨T, 1, none⟩ = some (.int .i64 xt) ∧ w'.cell? ⟨T, 2, none⟩ = some (.bool true) ∧ w'.cell? ⟨g, m * 4, none⟩ = some (.int .i64 so) ∧ w'.cell? ⟨g, m * 4 + 1, none⟩ = some (.int .i64 sd) ∧ w'.cell? ⟨g, m * 4 + 2, none⟩ = some (.int .i64 ss) ∧ w'.cell? ⟨g, m * 4 + 3, none⟩ = some (.int .i64 sc) ∧ w'.cell? ⟨g, q * 4, none⟩ = some (.int .i64 po) ∧ w'.cell? ⟨g, q * 4 + 1, none⟩ = some (.int .i64 pd) ∧ w'.cell? ⟨g, q * 4 + 2, none⟩ = some (.int .i64 ps) ∧ w'.cell? ⟨g, q * 4 + 3, none⟩ = some (.int .i64 pc) ∧ w'.cell? ⟨b1, off1 + m, none⟩ = some (.int .i64 (q : Int))) (go_keep)
                  (first
                    | (go_at_call 55; have _tk := tA; refine (KK.out (wS.drewN _)).mono ?_; rintro e w5 ⟨rfl, f5⟩; clear _tk tA; have j0 := f5.keepc t0; have j1 := f5.keepc t1; have j2 := f5.keepc t2; have j3 := f5.keepc U0; have j4 := f5.keepc U1; have j5 := f5.keepc U2; have j6 := f5.keepc U3; have j7 := f5.keepc V0; have j8 := f5.keepc V1; have j9 := f5.keepc V2; have j10 := f5.keepc V3; have j11 := f5.keepc ZC; have o0 := World.new_ne w5 _ j0; have o1 := World.new_ne w5 _ j3; have o2 := World.new_ne w5 _ j11)
                    | (go_at_call 55; have _tk := tA; refine (KK.out ((wS.alloc (.cells #[.int .i64 0, .int .i64 0, .int .i64 0, .int .i64 0] 25 (0, 0))).drewN _)).mono ?_; rintro e w5 ⟨rfl, f5⟩; clear _tk tA; have hz5 := f5.blk (heap_alloc_new wS (.cells #[.int .i64 0, .int .i64 0, .int .i64 0, .int .i64 0] 25 (0, 0))) (fun h => h); have j0 := f5.keepc (cell_alloc _ t0); have j1 := f5.keepc (cell_alloc _ t1); have j2 := f5.keepc (cell_alloc _ t2); have j3 := f5.keepc (cell_alloc _ U0); have j4 := f5.keepc (cell_alloc _ U1); have j5 := f5.keepc (cell_alloc _ U2); have j6 := f5.keepc (cell_alloc _ U3); have j7 := f5.keepc (cell_alloc _ V0); have j8 := f5.keepc (cell_alloc _ V1); have j9 := f5.keepc (cell_alloc _ V2); have j10 := f5.keepc (cell_alloc _ V3); have j11 := f5.keepc (cell_alloc _ ZC); have o0 := World.new_ne w5 _ j0; have o1 := World.new_ne w5 _ j3; have o2 := World.new_ne w5 _ j11)
                    | (go_at_fn 70; have _tk := tB; refine (KP.out w5).mono ?_; rintro e w6 ⟨rfl, f6⟩; clear _tk tB; have hz6 := f6.blk hz5 (fun h => h); obtain ⟨y0, y1, y2, y3, yf0, yf1, yf2, yf3⟩ := four_cells hz6; have kk0 := f6.keepc j0; have kk1 := f6.keepc j1; have kk2 := f6.keepc j2; have kk3 := f6.keepc j3; have kk4 := f6.keepc j4; have kk5 := f6.keepc j5; have kk6 := f6.keepc j6; have kk7 := f6.keepc j7; have kk8 := f6.keepc j8; have kk9 := f6.keepc j9; have kk10 := f6.keepc j10; have kk11 := f6.keepc j11; have m0 := World.new_ne w6 _ kk0; have m1 := World.new_ne w6 _ kk3; have m2 := World.new_ne w6 _ kk11)
                    | (go_at_fn 70; have _tk := tB; refine (KP.out w5).mono ?_; rintro e w6 ⟨rfl, f6⟩; clear _tk tB; have kk0 := f6.keepc j0; have kk1 := f6.keepc j1; have kk2 := f6.keepc j2; have kk3 := f6.keepc j3; have kk4 := f6.keepc j4; have kk5 := f6.keepc j5; have kk6 := f6.keepc j6; have kk7 := f6.keepc j7; have kk8 := f6.keepc j8; have kk9 := f6.keepc j9; have kk10 := f6.keepc j10; have kk11 := f6.keepc j11; have m0 := World.new_ne w6 _ kk0; have m1 := World.new_ne w6 _ kk3; have m2 := World.new_ne w6 _ kk11)
                    | (go_at_fn 70; have _tk := tB; refine (KP.out (w5.alloc (.cells #[.int .i64 0, .int .i64 0, .int .i64 0, .int .i64 0] 25 (0, 0)))).mono ?_; rintro e w6 ⟨rfl, f6⟩; clear _tk tB; have hz6 := f6.blk (heap_alloc_new w5 (.cells #[.int .i64 0, .int .i64 0, .int .i64 0, .int .i64 0] 25 (0, 0))) (fun h => h); obtain ⟨y0, y1, y2, y3, yf0, yf1, yf2, yf3⟩ := four_cells hz6; have kk0 := f6.keepc (cell_alloc _ j0); have kk1 := f6.keepc (cell_alloc _ j1); have kk2 := f6.keepc (cell_alloc _ j2); have kk3 := f6.keepc (cell_alloc _ j3); have kk4 := f6.keepc (cell_alloc _ j4); have kk5 := f6.keepc (cell_alloc _ j5); have kk6 := f6.keepc (cell_alloc _ j6); have kk7 := f6.keepc (cell_alloc _ j7); have kk8 := f6.keepc (cell_alloc _ j8); have kk9 := f6.keepc (cell_alloc _ j9); have kk10 := f6.keepc (cell_alloc _ j10); have kk11 := f6.keepc (cell_alloc _ j11); have m0 := World.new_ne w6 _ kk0; have m1 := World.new_ne w6 _ kk3; have m2 := World.new_ne w6 _ kk11))
                · obtain ⟨W, hW⟩ : ∃ W, W = w6.alloc (.cells #[.int .i64 rO, .int .i64 rD, .int .i64 rS, .int .i64 rC] 25 (0, 0)) := ⟨_, rfl⟩
                  have hb : W.heap[w6.heap.size]? = some (.cells #[.int .i64 rO, .int .i64 rD, .int .i64 rS, .int .i64 rC] 25 (0, 0)) := by rw [hW]; exact heap_alloc_new w6 _
                  have FW := Lib.hid (show Fr no wS W by rw [hW]; exact ((((Fr.refl no wS).drewN _).noTrans f5).noTrans f6).alloc _)
                  have HB := Lib.hid (show wS.heap.size ≤ w6.heap.size from Nat.le_trans f5.size f6.size)
                  rw [← hW]
                  clear j0 kk0 j1 kk1 j2 kk2 j3 kk3 j4 kk4 j5 kk5 j6 kk6 j7 kk7 j8 kk8 j9 kk9 j10 kk10 j11 kk11 m0 m1 m2 o0 o1 o2 n0 n1x n2x t1 t2 V0 V1 V2 V3 ZC hW f5 f6
                  have T0 := FW.out.keepc t0
                  have OW := World.ownsRow.kept OS.out FW.out.growNo (Classical.em _)
                  obtain ⟨r0, r1, r2, r3, -⟩ := four_cells hb
                  have HbW := Lib.hid hb
                  have q0 := FW.out.keepc U0
                  have q1 := FW.out.keepc U1
                  have q2 := FW.out.keepc U2
                  have q3 := FW.out.keepc U3
                  have e0 := OW.frozenAt (m * 4)
                  have e1 := OW.frozenAt (m * 4 + 1)
                  have e2 := OW.frozenAt (m * 4 + 2)
                  have e3 := OW.frozenAt (m * 4 + 3)
                  have FWw := Lib.hid (FS.out.noTrans FW.out)
                  have hgB : g ≠ w6.heap.size := by have hgl : g < wS.heap.size := World.block_lt_of_cell? _ _ U0; have := HB.out; omega
                  have hBg := hgB.symm
                  have OWh := Lib.hid OW
                  clear U0 U1 U2 U3 t0 hb OW
                  by_cases hr : rE = 0
                  · have hr2 : (rE == 0) = true := by simp [hr]
                    have HN := Lib.hid (show ∀ j, j < k + 1 → runE zs l xs j = 0 from fun j hj => by
                      by_cases e : j = k
                      · rw [e, HEF.out]; exact hr
                      · exact I.out j (by omega))
                    have HRW := Lib.hid ((((OWh.out.stored (m * 4) (.int .i64 rO)).1.stored (m * 4 + 1) (.int .i64 rD)).1.stored (m * 4 + 2) (.int .i64 rS)).1.stored (m * 4 + 3) (.int .i64 rC)).1
                    have HFn := Lib.hid ((((FWw.out.setCell (p := ⟨g, m * 4, none⟩) (.inr HG.out) (.int .i64 rO)).setCell (p := ⟨g, m * 4 + 1, none⟩) (.inr HG.out) (.int .i64 rD)).setCell (p := ⟨g, m * 4 + 2, none⟩) (.inr HG.out) (.int .i64 rS)).setCell (p := ⟨g, m * 4 + 3, none⟩) (.inr HG.out) (.int .i64 rC))
                    have HFS := Lib.hid (flatS_set L m ⟨rO, rD, rS, rC⟩ (by have := HLl.out; omega))
                    subst hr
                    clear hr2
                    go_wp2_with fail
                    go_roundw
                    case rel => exact ⟨k + 1, by omega, by go_num, HN, Lib.hid (by rw [HLF.out, ← HFS.out]; exact HRW.out), HFn⟩
                    case measure => simp [intOf]; omega
                  · have hr2 : (rE == 0) = false := by simpa using hr
                    have HRn := Lib.hid hr
                    clear hr
                    go_wp2_with fail
                    go_ret3
                    exact ⟨FWw.out, .inr (.inr ⟨HR.out, k, by omega, I.out, by rw [HEF.out]; exact HRn.out, by rw [HEF.out]; rfl⟩)⟩
                · obtain ⟨W, hW⟩ : ∃ W, W = ((((w6.setCell ⟨w5.heap.size, 0, none⟩ (.int .i64 rO)).setCell ⟨w5.heap.size, 1, none⟩ (.int .i64 rD)).setCell ⟨w5.heap.size, 2, none⟩ (.int .i64 rS)).setCell ⟨w5.heap.size, 3, none⟩ (.int .i64 rC)) := ⟨_, rfl⟩
                  have hb : W.heap[w5.heap.size]? = some (.cells #[.int .i64 rO, .int .i64 rD, .int .i64 rS, .int .i64 rC] 25 (0, 0)) := by rw [hW]; exact set_four hz6 _ _ _ _
                  have FW := Lib.hid (show Fr no wS W by rw [hW]; exact set_four_fr (((((Fr.refl no wS).drewN _).noTrans f5).alloc _).noTrans f6) f5.size _ _ _ _)
                  have HB := Lib.hid (show wS.heap.size ≤ w5.heap.size from f5.size)
                  clear y0 y1 y2 y3 yf0 yf1 yf2 yf3 hz6
                  rw [← hW]
                  clear j0 kk0 j1 kk1 j2 kk2 j3 kk3 j4 kk4 j5 kk5 j6 kk6 j7 kk7 j8 kk8 j9 kk9 j10 kk10 j11 kk11 m0 m1 m2 o0 o1 o2 n0 n1x n2x t1 t2 V0 V1 V2 V3 ZC hW f5 f6
                  have T0 := FW.out.keepc t0
                  have OW := World.ownsRow.kept OS.out FW.out.growNo (Classical.em _)
                  obtain ⟨r0, r1, r2, r3, -⟩ := four_cells hb
                  have HbW := Lib.hid hb
                  have q0 := FW.out.keepc U0
                  have q1 := FW.out.keepc U1
                  have q2 := FW.out.keepc U2
                  have q3 := FW.out.keepc U3
                  have e0 := OW.frozenAt (m * 4)
                  have e1 := OW.frozenAt (m * 4 + 1)
                  have e2 := OW.frozenAt (m * 4 + 2)
                  have e3 := OW.frozenAt (m * 4 + 3)
                  have FWw := Lib.hid (FS.out.noTrans FW.out)
                  have hgB : g ≠ w5.heap.size := by have hgl : g < wS.heap.size := World.block_lt_of_cell? _ _ U0; have := HB.out; omega
                  have hBg := hgB.symm
                  have OWh := Lib.hid OW
                  clear U0 U1 U2 U3 t0 hb OW
                  by_cases hr : rE = 0
                  · have hr2 : (rE == 0) = true := by simp [hr]
                    have HN := Lib.hid (show ∀ j, j < k + 1 → runE zs l xs j = 0 from fun j hj => by
                      by_cases e : j = k
                      · rw [e, HEF.out]; exact hr
                      · exact I.out j (by omega))
                    have HRW := Lib.hid ((((OWh.out.stored (m * 4) (.int .i64 rO)).1.stored (m * 4 + 1) (.int .i64 rD)).1.stored (m * 4 + 2) (.int .i64 rS)).1.stored (m * 4 + 3) (.int .i64 rC)).1
                    have HFn := Lib.hid ((((FWw.out.setCell (p := ⟨g, m * 4, none⟩) (.inr HG.out) (.int .i64 rO)).setCell (p := ⟨g, m * 4 + 1, none⟩) (.inr HG.out) (.int .i64 rD)).setCell (p := ⟨g, m * 4 + 2, none⟩) (.inr HG.out) (.int .i64 rS)).setCell (p := ⟨g, m * 4 + 3, none⟩) (.inr HG.out) (.int .i64 rC))
                    have HFS := Lib.hid (flatS_set L m ⟨rO, rD, rS, rC⟩ (by have := HLl.out; omega))
                    subst hr
                    clear hr2
                    go_wp2_with fail
                    go_roundw
                    case rel => exact ⟨k + 1, by omega, by go_num, HN, Lib.hid (by rw [HLF.out, ← HFS.out]; exact HRW.out), HFn⟩
                    case measure => simp [intOf]; omega
                  · have hr2 : (rE == 0) = false := by simpa using hr
                    have HRn := Lib.hid hr
                    clear hr
                    go_wp2_with fail
                    go_ret3
                    exact ⟨FWw.out, .inr (.inr ⟨HR.out, k, by omega, I.out, by rw [HEF.out]; exact HRn.out, by rw [HEF.out]; rfl⟩)⟩
                · obtain ⟨W, hW⟩ : ∃ W, W = ((((w6.setCell ⟨wS.heap.size, 0, none⟩ (.int .i64 rO)).setCell ⟨wS.heap.size, 1, none⟩ (.int .i64 rD)).setCell ⟨wS.heap.size, 2, none⟩ (.int .i64 rS)).setCell ⟨wS.heap.size, 3, none⟩ (.int .i64 rC)) := ⟨_, rfl⟩
                  have hb : W.heap[wS.heap.size]? = some (.cells #[.int .i64 rO, .int .i64 rD, .int .i64 rS, .int .i64 rC] 25 (0, 0)) := by rw [hW]; exact set_four hz6 _ _ _ _
                  have FW := Lib.hid (show Fr no wS W by rw [hW]; exact set_four_fr (((((Fr.refl no wS).alloc _).drewN _).noTrans f5).noTrans f6) (Nat.le_refl _) _ _ _ _)
                  have HB := Lib.hid (show wS.heap.size ≤ wS.heap.size from Nat.le_refl _)
                  clear y0 y1 y2 y3 yf0 yf1 yf2 yf3 hz5 hz6
                  rw [← hW]
                  clear j0 kk0 j1 kk1 j2 kk2 j3 kk3 j4 kk4 j5 kk5 j6 kk6 j7 kk7 j8 kk8 j9 kk9 j10 kk10 j11 kk11 m0 m1 m2 o0 o1 o2 n0 n1x n2x t1 t2 V0 V1 V2 V3 ZC hW f5 f6
                  have T0 := FW.out.keepc t0
                  have OW := World.ownsRow.kept OS.out FW.out.growNo (Classical.em _)
                  obtain ⟨r0, r1, r2, r3, -⟩ := four_cells hb
                  have HbW := Lib.hid hb
                  have q0 := FW.out.keepc U0
                  have q1 := FW.out.keepc U1
                  have q2 := FW.out.keepc U2
                  have q3 := FW.out.keepc U3
                  have e0 := OW.frozenAt (m * 4)
                  have e1 := OW.frozenAt (m * 4 + 1)
                  have e2 := OW.frozenAt (m * 4 + 2)
                  have e3 := OW.frozenAt (m * 4 + 3)
                  have FWw := Lib.hid (FS.out.noTrans FW.out)
                  have hgB : g ≠ wS.heap.size := by have hgl : g < wS.heap.size := World.block_lt_of_cell? _ _ U0; have := HB.out; omega
                  have hBg := hgB.symm
                  have OWh := Lib.hid OW
                  clear U0 U1 U2 U3 t0 hb OW
                  by_cases hr : rE = 0
                  · have hr2 : (rE == 0) = true := by simp [hr]
                    have HN := Lib.hid (show ∀ j, j < k + 1 → runE zs l xs j = 0 from fun j hj => by
                      by_cases e : j = k
                      · rw [e, HEF.out]; exact hr
                      · exact I.out j (by omega))
                    have HRW := Lib.hid ((((OWh.out.stored (m * 4) (.int .i64 rO)).1.stored (m * 4 + 1) (.int .i64 rD)).1.stored (m * 4 + 2) (.int .i64 rS)).1.stored (m * 4 + 3) (.int .i64 rC)).1
                    have HFn := Lib.hid ((((FWw.out.setCell (p := ⟨g, m * 4, none⟩) (.inr HG.out) (.int .i64 rO)).setCell (p := ⟨g, m * 4 + 1, none⟩) (.inr HG.out) (.int .i64 rD)).setCell (p := ⟨g, m * 4 + 2, none⟩) (.inr HG.out) (.int .i64 rS)).setCell (p := ⟨g, m * 4 + 3, none⟩) (.inr HG.out) (.int .i64 rC))
                    have HFS := Lib.hid (flatS_set L m ⟨rO, rD, rS, rC⟩ (by have := HLl.out; omega))
                    subst hr
                    clear hr2
                    go_wp2_with fail
                    go_roundw
                    case rel => exact ⟨k + 1, by omega, by go_num, HN, Lib.hid (by rw [HLF.out, ← HFS.out]; exact HRW.out), HFn⟩
                    case measure => simp [intOf]; omega
                  · have hr2 : (rE == 0) = false := by simpa using hr
                    have HRn := Lib.hid hr
                    clear hr
                    go_wp2_with fail
                    go_ret3
                    exact ⟨FWw.out, .inr (.inr ⟨HR.out, k, by omega, I.out, by rw [HEF.out]; exact HRn.out, by rw [HEF.out]; rfl⟩)⟩
          · have hkI : ¬ (k : Int) < (l2 : Int) := by omega
            obtain rfl : k = l2 := by omega
            go_wp2_with fail
            go_ret3
            refine ⟨F.out, .inr (.inl ⟨HR.out, fun j hj => I.out j (by omega), _, rfl, ?_⟩)⟩
            unfold RowS
            rw [runL_len, hsl, hxl]
            exact World.ownsRow.mono O.out HF2.out.size
    · have HR := Lib.hid (show ¬ RunOk zs l xs.length from fun h => by have := h.2.1; omega)
      have h1 : ((l0 : Int) == (l1 : Int)) = false := by simp; omega
      have h2 : decide ((l0 : Int) = (l1 : Int)) = false := by simp; omega
      have h3 : ¬ ((l0 : Int) = (l1 : Int)) := by omega
      go_wp2_with fail
      go_ret3
      exact ⟨HF1.out, .inl ⟨HR.out, rfl⟩⟩
  · have HF1 := Lib.hid f1
    have HR := Lib.hid (show ¬ RunOk zs l xs.length from fun h => hT h.1)
    clear f1 hT
    go_wp2_with fail
    go_ret3
    exact ⟨HF1.out, .inl ⟨HR.out, rfl⟩⟩

end Go.Proofs.Ytmkmefcafpgphaa
