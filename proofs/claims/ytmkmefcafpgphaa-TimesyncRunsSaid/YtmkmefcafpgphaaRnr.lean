/- The document's Run. -/
import Derived.Test.YtmkmefcafpgphaaDpr
import Derived.Test.YtmkmefcafpgphaaOnm
import Derived.Test.YtmkmefcafpgphaaStq
namespace Go.Proofs.Ytmkmefcafpgphaa
set_option linter.unusedVariables false
open Go.RowKit


set_option maxRecDepth 20000 in
set_option maxHeartbeats 8000000 in
theorem runR_any (a0 : Option Addr) (l0 k0 : Nat) (a1 : Option Addr) (l1 k1 : Nat) (a2 : Option Addr) (l2 k2 : Nat) (l : List Sy) (zs : List Int) (xs : List Sn) (w : World) (hs : SysIn w a0 l0 l) (hz : IntsIn w a1 l1 zs) (hx : SnsIn w a2 l2 xs) (n0 : l0 ≤ 40) (n1 : l1 ≤ 40) (n2 : l2 ≤ 40) :
    Calls Try.prog 27 #[.slice a0 l0 k0, .slice a1 l1 k1, .slice a2 l2 k2] w (fun e w' => RunR w w' zs l xs e) := by
  have KD := Lib.hid (depthsR_any a1 l1 k1 zs w hz n1)
  have HS := Lib.hid hs
  have HZ := Lib.hid hz
  have HX := Lib.hid hx
  have hsl := hs.1
  have hzl := hz.1
  have hxl := hx.1
  have hX2 : ¬ ((1024 : Int) < (l2 : Int)) := by omega
  obtain ⟨i0, hi, hz0, hz1, hz2⟩ := info_parts info25
  have KS := Lib.hid (fun (L : List Sy) (x : Sn) (a : Option Addr) (k : Nat) (w' : World) (hf : Fr no w w') (hL : SysIn w' a l0 L) (hT : Tree zs) (h01 : l1 = l0) => stepR_any a l0 k a1 l1 k1 L zs x w' hL (hz.kept hf) hT h01)
  clear hs hz hx
  go_enter Try.func27, Try.ntmps27
  go_wp2_with fail
  refine KD.out.mono ?_
  rintro e w1 ⟨f1, ⟨hT, v, rfl, hrow⟩ | ⟨hT, rfl⟩⟩
  · have HF1 := Lib.hid f1
    have HT := Lib.hid hT
    clear f1 hrow hT
    by_cases hll : l0 = l1
    · subst hll
      obtain ⟨n1', n2', z0⟩ := tree_len HT.out
      have hl1 : 1 ≤ l0 := by rw [hzl] at n1'; exact n1'
      clear n1' n2' z0
      go_wp2_with fail
      go_loopw [11] (fun i wr => ∃ k : Nat, k ≤ l0 ∧ i = .int .i64 k ∧ Hid ((l.take k).all syOk = true) ∧ Hid (Fr no w wr)) (fun i _ => l0 - (intOf i).toNat)
      case atStart => exact ⟨0, by omega, rfl, Lib.hid (by simp), HF1⟩
      case round =>
        obtain ⟨k, hk, rfl, I, F⟩ := hrel
        by_cases hlt : k < l0
        · obtain ⟨b, off, rfl, -, hc⟩ := sys_at (HS.out.kept F.out) (by omega)
          obtain ⟨c0, c1, c2, c3⟩ := hc k hlt
          have hkI : (k : Int) < (l0 : Int) := by omega
          have K := Lib.hid (fun w => ckSR_any (syAt l k).o (syAt l k).d (syAt l k).s (syAt l k).c w)
          have HA := Lib.hid (all_takeS l k (by omega))
          have HN := Lib.hid (fun hx => all_noS l k (by omega) hx)
          have he : syOk (syAt l k) = okS (syAt l k).o (syAt l k).d (syAt l k).s (syAt l k).c := rfl
          cases ho : okS (syAt l k).o (syAt l k).d (syAt l k).s (syAt l k).c
          · rw [ckS_1 ho] at K
            have hal := HN.out (he.trans ho)
            have HR := Lib.hid (show ¬ RunOk zs l xs.length from fun h => by rw [h.2.2.1] at hal; cases hal)
            clear HA HN he ho hc hal
            generalize syAt l k = v at *
            go_wp2_with fail
            refine (K.out _).mono ?_
            rintro e w4 ⟨rfl, f4⟩
            have HF4 := Lib.hid (F.out.noTrans f4)
            clear f4
            go_wp2_with fail
            go_ret3
            exact ⟨HF4.out, .inl ⟨HR.out, rfl⟩⟩
          · rw [ckS_0 ho] at K
            have HJ := Lib.hid (show (l.take (k + 1)).all syOk = true by rw [HA.out, I.out, he, ho]; rfl)
            clear HA HN he ho hc
            generalize syAt l k = v at *
            go_wp2_with fail
            refine (K.out _).mono ?_
            rintro e w4 ⟨rfl, f4⟩
            have HF4 := Lib.hid (F.out.noTrans f4)
            clear f4
            go_wp2_with fail
            go_roundw
            case rel => exact ⟨k + 1, by omega, by go_num, HJ, HF4⟩
            case measure => simp [intOf]; omega
        · have hkI : ¬ (k : Int) < (l0 : Int) := by omega
          have hv : l.all syOk = true := by rw [← I.out, List.take_of_length_le (by omega)]
          have HR := Lib.hid (show RunOk zs l xs.length from ⟨HT.out, by omega, hv, by omega⟩)
          have HSr := HS.out.kept F.out
          obtain ⟨b, off, rfl, -, -⟩ := sys_at HSr hl1
          have HCs := Lib.hid (sys_cells HSr)
          have HW := Lib.hid (F.out.size)
          clear I hv HSr
          go_wp2_with (at_builtin; refine wpList_append_own _ rfl (.tmp 47) (.tmp 48) 36 rfl wr.heap.size 25 i0 _ 4 32 Try.underlying36 hi hz0 hz1 hz2 rfl (by decide) _ _ _ rfl (World.ownsRow_made wr #[] 0 (Nat.le_refl _) (Nat.zero_le _) (by simp)) ⟨b, off, none⟩ l0 k0 (flatS l) rfl ?qc1 ?qc2 ?qc3 ?qc4 ?qc5 ?qc6 ?_)
          case qc1 => rw [flatS_len, hsl]
          case qc2 =>
            intro j u hj
            exact cell_alloc _ (by have := HCs.out j u hj; rwa [add_at] at this)
          case qc3 => exact flatS_one l
          case qc4 => unfold maxLen; omega
          case qc5 => omega
          try (case qc6 => simp)
          intro v' w3 hown hgrow hnil
          have F3 := Lib.hid (show Fr no w w3 from (F.out.alloc _).grown hgrow (fun k hk => by
            simp [Value.ownBlock] at hk
            exact .inr (by have := HW.out; omega)))
          have hown' : World.ownsRow w3 wr.heap.size 25 4 v' l0 (flatS l) := by simpa using hown
          obtain ⟨g, cap, rfl, hg⟩ : ∃ g cap, v' = .slice (some ⟨g, 0, none⟩) l0 cap ∧ wr.heap.size ≤ g := by
            rcases hown'.2 with ⟨_, h0⟩ | ⟨g, cap', cur, hv, hq1, hq2⟩
            · omega
            · exact ⟨g, cap', hv, hq1⟩
          have HO3 := Lib.hid (World.ownsRow.mono hown' (show w.heap.size ≤ wr.heap.size from HW.out))
          have HG := Lib.hid (show w.heap.size ≤ g from Nat.le_trans HW.out hg)
          clear hown hown' hgrow hnil hg HCs
          go_wp2_with fail
          go_loopw [13, 14, 15] (fun i _ _ wx => ∃ k : Nat, k ≤ l2 ∧ i = .int .i64 k ∧ Hid (∀ j, j < k → runE zs l xs j = 0) ∧ Hid (World.ownsRow wx w.heap.size 25 4 (.slice (some ⟨g, 0, none⟩) l0 cap) l0 (flatS (runL zs l xs k))) ∧ Hid (Fr no w wx)) (fun i _ _ _ => l2 - (intOf i).toNat)
          case atStart => exact ⟨0, by omega, rfl, Lib.hid (fun j hj => by omega), HO3, F3⟩
          case round =>
            clear F F3 HO3
            obtain ⟨k, hk, rfl, I, O, F⟩ := hrel
            by_cases hlt : k < l2
            · obtain ⟨b2, off2, rfl, -, hxc⟩ := sns_at (HX.out.kept F.out) (by omega)
              obtain ⟨x0, x1, x2⟩ := hxc k hlt
              have HE := Lib.hid (show runE zs l xs k = stE zs (runL zs l xs k) (snAt xs k) from rfl)
              have HL := Lib.hid (show runL zs l xs (k + 1) = stL zs (runL zs l xs k) (snAt xs k) from rfl)
              have hLl : (runL zs l xs k).length = l0 := by rw [runL_len]; exact hsl
              obtain ⟨L, hL⟩ : ∃ L, runL zs l xs k = L := ⟨_, rfl⟩
              obtain ⟨⟨xn, xt, xa⟩, hxx⟩ : ∃ x, snAt xs k = x := ⟨_, rfl⟩
              rw [hL] at HE HL O hLl
              rw [hxx] at HE HL x0 x1 x2
              have hkI : (k : Int) < (l2 : Int) := by omega
              have hca : SysIn _ (some ⟨g, 0, none⟩) l0 L := ⟨hLl, fun i hi => ⟨g, 0, rfl, by
                have hcc : ∀ j, j < 4 → World.cell? _ ⟨g, 0 + i * 4 + j, none⟩ = (syVals (syAt L i))[j]? := fun j hj => by
                  rw [Nat.zero_add, O.out.cellAt (i * 4 + j) (by omega), flatS_at L i j (by omega) hj]
                exact ⟨hcc 0 (by omega), hcc 1 (by omega), hcc 2 (by omega), hcc 3 (by omega)⟩⟩⟩
              have K := Lib.hid (KS.out L ⟨xn, xt, xa⟩ (some ⟨g, 0, none⟩) cap _ F.out hca HT.out trivial)
              have HLl := Lib.hid hLl
              clear hxc hL hxx hLl hca
              go_wp2_with fail
              refine K.out.mono ?_
              rintro e w4 ⟨⟨vo, vd, vs, vc⟩, rfl, hv, f4⟩
              have HVv := Lib.hid hv
              have HEs := Lib.hid (show stE zs L ⟨xn, xt, xa⟩ = stE zs L ⟨xn, xt, xa⟩ from rfl)
              rw [← HE.out] at hv
              have FW := Lib.hid (F.out.noTrans f4)
              have OW := Lib.hid (World.ownsRow.kept O.out f4.growNo (Classical.em _))
              have T0 := f4.keepc x0
              clear f4 x0 x1 x2 O hv
              by_cases hr : stE zs L ⟨xn, xt, xa⟩ = 0
              · obtain ⟨⟨i1, i2⟩, -⟩ := st_in hr
                obtain ⟨m, rfl⟩ : ∃ m : Nat, xn = (m : Int) := ⟨xn.toNat, by have : 1 ≤ xn := i1; omega⟩
                have hm2 : m < l0 := by have : (m : Int) ≤ (L.length : Int) - 1 := i2; have := HLl.out; omega
                have hmI : (m : Int) < (l0 : Int) := by omega
                have HLF := Lib.hid (show runL zs l xs (k + 1) = L.set m ⟨vo, vd, vs, vc⟩ by
                  rw [HL.out, stL, ← HVv.out hr]
                  show L.set ((m : Nat) : Int).toNat _ = _
                  rw [show ((m : Nat) : Int).toNat = m by omega])
                have HN := Lib.hid (show ∀ j, j < k + 1 → runE zs l xs j = 0 from fun j hj => by
                  by_cases e : j = k
                  · rw [e, HE.out]; exact hr
                  · exact I.out j (by omega))
                rw [hr]
                clear HE HL HVv HEs i1 i2 hr I
                go_wp2_with fail
                obtain ⟨W, hW⟩ : ∃ W, W = w4.alloc (.cells #[.int .i64 vo, .int .i64 vd, .int .i64 vs, .int .i64 vc] 25 (0, 0)) := ⟨_, rfl⟩
                have hb : W.heap[w4.heap.size]? = some (.cells #[.int .i64 vo, .int .i64 vd, .int .i64 vs, .int .i64 vc] 25 (0, 0)) := by rw [hW]; exact heap_alloc_new w4 _
                have f5 : Fr no w4 W := by rw [hW]; exact (Fr.refl no w4).alloc _
                rw [← hW]
                obtain ⟨r0, r1, r2, r3, -⟩ := four_cells hb
                have T1 := f5.keepc T0
                have O5 := World.ownsRow.kept OW.out f5.growNo (Classical.em _)
                have hca : ∀ j, j < 4 → W.cell? ⟨g, m * 4 + j, none⟩ = (syVals (syAt L m))[j]? := fun j hj => by
                  rw [O5.cellAt (m * 4 + j) (by omega), flatS_at L m j (by have := HLl.out; omega) hj]
                have q0 := hca 0 (by omega)
                have q1 := hca 1 (by omega)
                have q2 := hca 2 (by omega)
                have q3 := hca 3 (by omega)
                simp only [syVals, List.getElem?_cons_zero, List.getElem?_cons_succ, Nat.add_zero] at q0 q1 q2 q3
                have e0 := O5.frozenAt (m * 4)
                have e1 := O5.frozenAt (m * 4 + 1)
                have e2 := O5.frozenAt (m * 4 + 2)
                have e3 := O5.frozenAt (m * 4 + 3)
                have hgB : g ≠ w4.heap.size := by
                  have hc0 := OW.out.cellAt (m * 4) (by omega)
                  rw [show m * 4 = m * 4 + 0 by omega, flatS_at L m 0 (by have := HLl.out; omega) (by omega)] at hc0
                  have hlt' : g < w4.heap.size := World.block_lt_of_cell? _ _ (hc0.trans rfl)
                  omega
                have hBg := hgB.symm
                have HRW := Lib.hid ((((O5.stored (m * 4) (.int .i64 vo)).1.stored (m * 4 + 1) (.int .i64 vd)).1.stored (m * 4 + 2) (.int .i64 vs)).1.stored (m * 4 + 3) (.int .i64 vc)).1
                have FWw := Lib.hid (FW.out.noTrans f5)
                have HFS := Lib.hid (flatS_set L m ⟨vo, vd, vs, vc⟩ (by have := HLl.out; omega))
                have O5h := Lib.hid O5
                clear hca hW hb f5 T0 O5
                have HFn := Lib.hid ((((FWw.out.setCell (p := ⟨g, m * 4, none⟩) (.inr HG.out) (.int .i64 vo)).setCell (p := ⟨g, m * 4 + 1, none⟩) (.inr HG.out) (.int .i64 vd)).setCell (p := ⟨g, m * 4 + 2, none⟩) (.inr HG.out) (.int .i64 vs)).setCell (p := ⟨g, m * 4 + 3, none⟩) (.inr HG.out) (.int .i64 vc)).drew
                have HRn := Lib.hid (World.ownsRow.kept HRW.out ((Fr.refl no _).drew).growNo (Classical.em _))
                go_region
                go_wp2_with fail
                exact ⟨⟨k + 1, by omega, by go_num, HN, Lib.hid (by rw [HLF.out, ← HFS.out]; exact HRn.out), HFn⟩, by simp [intOf]; omega⟩
              · have hr2 : (stE zs L ⟨xn, xt, xa⟩ == 0) = false := by simpa using hr
                have HRn := Lib.hid (show runE zs l xs k ≠ 0 by rw [HE.out]; exact hr)
                generalize hxE : stE zs L ⟨xn, xt, xa⟩ = xE at *
                have HXE := Lib.hid hxE
                clear hxE HL HVv HEs
                go_wp2_with fail
                go_ret3
                exact ⟨FW.out.alloc _, .inr (.inr ⟨HR.out, k, by omega, I.out, HRn.out, by rw [HE.out]; rfl⟩)⟩
            · have hkI : ¬ (k : Int) < (l2 : Int) := by omega
              obtain rfl : k = l2 := by omega
              have HO := Lib.hid (show RowS w.heap.size _ (.slice (some ⟨g, 0, none⟩) l0 cap) (runL zs l xs xs.length) by
                unfold RowS
                rw [runL_len, hsl, hxl]
                exact O.out)
              go_wp2_with fail
              go_ret3
              exact ⟨F.out, .inr (.inl ⟨HR.out, by rw [hxl]; exact I.out, _, rfl, HO.out⟩)⟩
        -- end
    · have HR := Lib.hid (show ¬ RunOk zs l xs.length from fun h => hll (by have := h.2.1; omega))
      have h1 : ((l0 : Int) == (l1 : Int)) = false := by simp; omega
      have h2 : ¬ ((l0 : Int) = (l1 : Int)) := by omega
      go_wp2_with fail
      go_ret3
      exact ⟨HF1.out, .inl ⟨HR.out, rfl⟩⟩
  · have HF1 := Lib.hid f1
    have HR := Lib.hid (show ¬ RunOk zs l xs.length from fun h => hT h.1)
    clear f1 hT
    go_wp2_with fail
    go_ret3
    exact ⟨HF1.out, .inl ⟨HR.out, rfl⟩⟩

end Go.Proofs.Ytmkmefcafpgphaa
