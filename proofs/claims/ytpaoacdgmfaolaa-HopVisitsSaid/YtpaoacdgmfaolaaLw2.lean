/- Visits. -/
import Derived.Test.YtpaoacdgmfaolaaAwk
namespace Go.Proofs.Ytpaoacdgmfaolaa
set_option linter.unusedVariables false
open Go.RowKit


/-- What the channels of k slots are. -/
def seL (zs : List Int) (s o : Int) (k : Nat) : List Int := (List.range k).map fun j : Nat => cha zs (s + j) o
theorem seL_len (zs : List Int) (s o : Int) (k : Nat) : (seL zs s o k).length = k := by simp [seL]
theorem seL_succ (zs : List Int) (s o : Int) (k : Nat) : seL zs s o (k + 1) = seL zs s o k ++ [cha zs (s + k) o] := by simp [seL, List.range_succ]
theorem seL_new {zs : List Int} (h : chB zs = true) (s o : Int) (k : Nat) (hk : k < zs.length) : hasZ (seL zs s o k) (cha zs (s + k) o) = false := by
  rw [← Bool.not_eq_true, hasZ_t]
  intro hm
  simp only [seL, List.mem_map, List.mem_range] at hm
  obtain ⟨j, hj, e⟩ := hm
  have := cha_inj h (by omega) (by omega) e
  omega
set_option maxRecDepth 20000 in
set_option maxHeartbeats 16000000 in
theorem visits_all (v f u : Int) (ca : Option Addr) (ck : Nat) (zs : List Int) (s o : Int) (w : World) (hz : IntsIn w ca zs.length zs) (hk : zs.length ≤ ck) :
    Calls Try.prog 7 #[.agg #[.int .i64 v, .int .i64 f, .int .i64 u, .slice ca zs.length ck], .int .i64 s, .int .i64 o] w fun e w' => e = .returned (.bool true) ∧ Fr no w w' := by
  obtain ⟨W, hW⟩ : ∃ W, W = w.alloc (.cells #[.int .i64 v, .int .i64 f, .int .i64 u, .slice ca zs.length ck] 24 (0, 0)) := ⟨_, rfl⟩
  have hF : Fr no w W := by rw [hW]; exact (Fr.refl no w).alloc _
  have h1 : W.heap[w.heap.size]? = some (.cells #[.int .i64 v, .int .i64 f, .int .i64 u, .slice ca zs.length ck] 24 (0, 0)) := by rw [hW]; exact heap_alloc_new w _
  have HF := Lib.hid hF
  have HW := Lib.hid hW
  have H1 := Lib.hid h1
  have HZ := Lib.hid (hz.kept hF)
  have HK := Lib.hid hk
  obtain ⟨ln, hln⟩ : ∃ ln, ln = zs.length := ⟨_, rfl⟩
  simp only [← hln] at HZ HK ⊢
  rw [← hln] at H1 HW
  by_cases h20 : ln ≤ 20
  · have hnI : ¬ ((20 : Int) < (ln : Int)) := by omega
    have hnD : decide ((20 : Int) < (ln : Int)) = false := decide_eq_false hnI
    by_cases hs0 : 0 ≤ s
    · have hsI : ¬ (s < 0) := by omega
      have hsD : decide (s < 0) = false := decide_eq_false hsI
      by_cases hs1 : s ≤ 1099511627776
      · have hsJ : ¬ (1099511627776 < s) := by omega
        have hsE : decide (1099511627776 < s) = false := decide_eq_false hsJ
        have KC := Lib.hid (fun s w hz => channel_any v f u ca ck zs s o w hz (by omega))
        simp only [← hln] at KC
        have HUF := Lib.hid (fun s h => use_0 (v := v) (f := f) (u := u) (zs := zs) (s := s) (os := [o]) h)
        have HCV := Lib.hid (fun s => show chV v f u zs s o = if useL v f u zs s [o] = 0 then cha zs s o else 0 from rfl)
        have HNEW := Lib.hid (fun (h : hlB v f u zs = true) k hk => seL_new (hlB_t h).2.2.2.2.2 s o k hk)
        have HRND := Lib.hid (cha_round (zs := zs) s o)
        have HLN := Lib.hid hln
        rw [← hln] at HRND
        have HH0 := Lib.hid (And.intro hs0 hs1)
        have H20 := Lib.hid h20
        obtain ⟨i0, hi, hz0, hz1, hz2⟩ := info_parts info3
        clear hz hF h1 hW hk hln h20 HK hs0 hs1
        go_enter Try.func7, Try.ntmps7
        go_wp2_with fail
        rw [← HW.out]
        refine (awake_any W).mono ?_
        rintro e w0 ⟨rfl, f0⟩
        obtain ⟨c0, c1, c2, c3⟩ := four_cells (f0.blk H1.out (fun h => h))
        have F0 := Lib.hid f0
        clear f0
        go_wp2_with fail
        clear c0 c1 c2 c3 hnD hsD hsE hsJ hsI hnI
        go_loopw [7, 8, 9, 10, 30] (fun v7 _ _ _ i wr => ∃ k : Nat, k ≤ ln ∧ i = .int .i64 k ∧ Hid (RowI W.heap.size wr v7 (seL zs s o k)) ∧ Hid (0 < k → hlB v f u zs = true) ∧ Hid (Fr no W wr)) (fun _ _ _ _ i _ => ln - (intOf i).toNat)
        case atStart => exact ⟨0, Nat.zero_le _, rfl, Lib.hid (by show World.ownsRow _ _ 3 1 _ 0 []; exact World.ownsRow_nil _ _ _ _), Lib.hid (fun h => by omega), Lib.hid F0.out⟩
        case round =>
          obtain ⟨k, hk, rfl, HO, HV, F⟩ := hrel
          obtain ⟨ra, rc, rfl, -, hri⟩ := rowI_ints HO.out
          have HRI := Lib.hid hri
          rw [seL_len] at HRI ⊢
          have hkI : (k : Int) ≤ 20 := by have := H20.out; omega
          obtain ⟨c0, c1, c2, c3⟩ := four_cells (F.out.blk H1.out (fun h => h))
          clear hri
          by_cases hlt : k < ln
          · have hw1 : IntKind.i64.wrap (s + (k : Int)) = s + (k : Int) := IntWalk.i64_in _ (by have := HH0.out; omega)
            have KCK := KC.out (s + (k : Int))
            have HCK := HCV.out (s + (k : Int))
            have HUK := Lib.hid (HUF.out (s + (k : Int)))
            have HNK := Lib.hid (fun h => HNEW.out h k (by have := HLN.out; omega))
            have HSS := Lib.hid (seL_succ zs s o k)
            have KCON := Lib.hid (fun x w hz => contains_any ra k rc (seL zs s o k) x w hz (by omega))
            generalize hE : useL v f u zs (s + (k : Int)) [o] = E at *
            generalize chV v f u zs (s + (k : Int)) o = x at *
            generalize hC : cha zs (s + (k : Int)) o = c at *
            replace KCK := Lib.hid KCK
            replace HCK := Lib.hid HCK
            clear hE hC
            go_wp2_with fail
            refine (KCK.out _ (HZ.out.kept F.out)).mono ?_
            rintro e w1 ⟨rfl, f1⟩
            have F1 := Lib.hid (F.out.noTrans f1)
            have HO1 := Lib.hid (HO.out.kept f1)
            have HRI1 := Lib.hid (HRI.out.kept f1)
            clear f1
            by_cases hE : E = 0
            · subst hE
              have hx : x = c := HCK.out
              have HHB := Lib.hid (HUK.out rfl).1
              have KCO := KCON.out x
              rw [hx, HNK.out HHB.out] at KCO
              have KCO := Lib.hid KCO
              subst hx
              clear c0 c1 c2 c3
              go_wp2_with fail
              refine (KCO.out _ HRI1.out).mono ?_
              rintro e w2 ⟨rfl, rfl⟩
              have hown : World.ownsRow w2 W.heap.size 3 1 (.slice ra k rc) k (Ints (seL zs s o k)) := by
                have := HO1.out
                unfold RowI at this
                rwa [seL_len] at this
              go_wp2_with (at_builtin; refine wpList_append_own _ rfl (.tmp 47) (.tmp 49) 22 rfl W.heap.size 3 i0 (.int .i64 0) 1 8 Try.underlying22 hi hz0 hz1 hz2 rfl (by decide) _ _ _ rfl (hown.alloc _) ⟨w2.heap.size, 0, none⟩ 1 1 [.int .i64 x] rfl rfl ?_ ?c2 ?c3 ?c4 ?c5 ?_)
              case c2 => simp [Value.oneCell']
              case c3 => have := H20.out; unfold maxLen; omega
              case c4 => have := H20.out; omega
              case c5 => have := F1.out.size; simp; omega
              · intro j u hj
                rcases j with _ | j
                · simp only [List.getElem?_cons_zero, Option.some.injEq] at hj
                  subst hj
                  rw [show (⟨w2.heap.size, 0, none⟩ : Addr).add 0 = ⟨w2.heap.size, 0, none⟩ by simp [Addr.add]]
                  exact cell_new1 _ _ _
                · simp at hj
              · intro v' w7 hown7 hgrow7 _
                have F7 := Lib.hid (show Fr no W w7 from (F1.out.alloc _).grown hgrow7 (fun j hj => .inr (own_geN hown j hj)))
                have HO7 := Lib.hid (show RowI W.heap.size w7 v' (seL zs s o (k + 1)) by
                  rw [HSS.out]
                  unfold RowI Ints
                  rw [List.length_append, List.map_append, seL_len]
                  exact hown7)
                clear hown7 hgrow7 hown
                go_wp2_with fail
                go_roundw
                case rel => exact ⟨k + 1, by omega, by go_num, HO7, Lib.hid (fun _ => HHB.out), F7⟩
                case measure => simp [intOf]; omega
            · have hE1 : (E == 0) = false := by simpa using hE
              have hE2 : decide (E = 0) = false := by simpa using hE
              have FF := Lib.hid (HF.out.noTrans F1.out)
              go_wp2_with fail
              go_ret
              exact ⟨rfl, FF.out⟩
          · have hkl : k = ln := by omega
            have hw1 : IntKind.i64.wrap (s + (ln : Int)) = s + (ln : Int) := IntWalk.i64_in _ (by have := HH0.out; omega)
            have KCK := KC.out (s + (ln : Int))
            have HCK := HCV.out (s + (ln : Int))
            have H00 := Lib.hid (show 0 < k → (seL zs s o k).getD 0 0 = cha zs s o from fun h => by
              simp [seL, List.getD_eq_getElem?_getD, h])
            have HRND := Lib.hid HRND.out
            generalize hE : useL v f u zs (s + (ln : Int)) [o] = E at *
            generalize chV v f u zs (s + (ln : Int)) o = x at *
            have HRX := Lib.hid (show E = 0 → x = cha zs s o from fun h => by rw [HCK, if_pos h, HRND.out])
            replace KCK := Lib.hid KCK
            clear hE HCK
            go_wp2_with fail
            refine (KCK.out _ (HZ.out.kept F.out)).mono ?_
            rintro e w1 ⟨rfl, f1⟩
            have FF := Lib.hid (HF.out.noTrans (F.out.noTrans f1))
            have HRI1 := Lib.hid (HRI.out.kept f1)
            clear f1 c0 c1 c2 c3
            by_cases hk0 : k = 0
            · subst hk0
              go_wp2_with fail
              go_ret
              exact ⟨by simp, FF.out⟩
            · have hk1 : (k == 0) = false := by simpa using hk0
              have hk2 : ((k : Int) == 0) = false := by simp; omega
              have hk3 : decide ((k : Int) = 0) = false := by simp; omega
              have hk4 : ¬ ((k : Int) = 0) := by omega
              by_cases hE : E = 0
              · subst hE
                have hx : x = cha zs s o := HRX.out rfl
                obtain ⟨b, off, rfl, e0⟩ := HRI1.out.2 0 (by omega)
                rw [H00.out (by omega), ← hx] at e0
                rw [Nat.add_zero] at e0
                have hkp : (0 : Int) < (k : Int) := by omega
                clear hx
                go_wp2_with fail
                go_ret
                exact ⟨by simp, FF.out⟩
              · have hE1 : (E == 0) = false := by simpa using hE
                have hE2 : decide (E = 0) = false := by simpa using hE
                go_wp2_with fail
                go_ret
                exact ⟨by simp, FF.out⟩
      · have hsJ : 1099511627776 < s := by omega
        clear hz h1 hF hW hk hln h20 HK HZ hs0 hs1
        go_enter Try.func7, Try.ntmps7
        go_wp2_with fail
        rw [← HW.out]
        refine (awake_any W).mono ?_
        rintro e w0 ⟨rfl, f0⟩
        obtain ⟨c0, c1, c2, c3⟩ := four_cells (f0.blk H1.out (fun h => h))
        have F0 := Lib.hid (HF.out.noTrans f0)
        clear f0
        go_wp2_with fail
        go_ret
        exact ⟨rfl, F0.out⟩
    · have hsI : s < 0 := by omega
      clear hz h1 hF hW hk hln h20 HK HZ hs0
      go_enter Try.func7, Try.ntmps7
      go_wp2_with fail
      rw [← HW.out]
      refine (awake_any W).mono ?_
      rintro e w0 ⟨rfl, f0⟩
      obtain ⟨c0, c1, c2, c3⟩ := four_cells (f0.blk H1.out (fun h => h))
      have F0 := Lib.hid (HF.out.noTrans f0)
      clear f0
      go_wp2_with fail
      go_ret
      exact ⟨rfl, F0.out⟩
  · have hnI : (20 : Int) < (ln : Int) := by omega
    clear hz h1 hF hW hk hln h20 HK HZ
    go_enter Try.func7, Try.ntmps7
    go_wp2_with fail
    rw [← HW.out]
    refine (awake_any W).mono ?_
    rintro e w0 ⟨rfl, f0⟩
    obtain ⟨c0, c1, c2, c3⟩ := four_cells (f0.blk H1.out (fun h => h))
    have F0 := Lib.hid (HF.out.noTrans f0)
    clear f0
    go_wp2_with fail
    go_ret
    exact ⟨rfl, F0.out⟩

end Go.Proofs.Ytpaoacdgmfaolaa
