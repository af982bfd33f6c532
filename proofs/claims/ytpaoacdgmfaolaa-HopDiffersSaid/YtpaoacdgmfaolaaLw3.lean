/- Differs. -/
import Derived.Test.YtpaoacdgmfaolaaAwk
namespace Go.Proofs.Ytpaoacdgmfaolaa
set_option linter.unusedVariables false
open Go.RowKit


def diL (zs : List Int) (s : Int) (k : Nat) : List Int := (List.range k).map fun j : Nat => cha zs s j
theorem diL_len (zs : List Int) (s : Int) (k : Nat) : (diL zs s k).length = k := by simp [diL]
theorem diL_succ (zs : List Int) (s : Int) (k : Nat) : diL zs s (k + 1) = diL zs s k ++ [cha zs s k] := by simp [diL, List.range_succ]
theorem diL_new {zs : List Int} (h : chB zs = true) (s : Int) (k : Nat) (hk : k < zs.length) : hasZ (diL zs s k) (cha zs s k) = false := by
  rw [← Bool.not_eq_true, hasZ_t]
  intro hm
  simp only [diL, List.mem_map, List.mem_range] at hm
  obtain ⟨j, hj, e⟩ := hm
  have := cha_inj h (by omega) (by omega) e
  omega
theorem use_first (v f u : Int) (zs : List Int) (s : Int) : useL v f u zs s [0] = 0 ∨ useL v f u zs s [0] = 1 ∨ useL v f u zs s [0] = 12 := by
  unfold useL
  cases h1 : hlB v f u zs
  · simp
  cases h2 : (decide (f ≤ s) && decide (s < u))
  · simp
  have h3 : inR 0 0 ((zs.length : Int) - 1) = true := inR_t.2 ⟨by omega, by have := (chB_t (hlB_t h1).2.2.2.2.2).1; omega⟩
  simp [h3]
structure UsF (v f u : Int) (zs : List Int) (s : Int) : Prop where
  a : ∀ k : Nat, k < zs.length → useL v f u zs s [(k : Int)] = 0 ∧ useL v f u zs s [0, (k : Int)] = 0 ∧ chV v f u zs s k = cha zs s k ∧ meV v f u zs s 0 k = decide (k = 0) ∧ hasZ (diL zs s k) (cha zs s k) = false ∧ hasZ zs (cha zs s k) = true
  b : useL v f u zs s [(zs.length : Int)] = 2
theorem usF {v f u : Int} {zs : List Int} {s : Int} (h : useL v f u zs s [0] = 0) : UsF v f u zs s := by
  obtain ⟨h1, h2, h3, -⟩ := use_0 h
  have hB := (hlB_t h1).2.2.2.2.2
  have hl := (chB_t hB).1
  have hd : (decide (f ≤ s) && decide (s < u)) = true := by rw [decide_eq_true h2, decide_eq_true h3]; rfl
  have i0 : inR 0 0 ((zs.length : Int) - 1) = true := inR_t.2 ⟨by omega, by omega⟩
  refine ⟨fun k hk => ?_, ?_⟩
  · have ik : inR (k : Int) 0 ((zs.length : Int) - 1) = true := inR_t.2 ⟨by omega, by omega⟩
    have e1 : useL v f u zs s [(k : Int)] = 0 := by simp [useL, h1, hd, ik]
    have e2 : useL v f u zs s [0, (k : Int)] = 0 := by simp [useL, h1, hd, ik, i0]
    refine ⟨e1, e2, by rw [chV, if_pos e1], ?_, diL_new hB s k hk, hasZ_t.2 (cha_mem hl s k)⟩
    unfold meV
    rw [e2]
    rw [show decide ((0 : Int) = 0) = true from rfl, Bool.true_and, Bool.eq_iff_iff, decide_eq_true_eq, decide_eq_true_eq]
    constructor
    · intro e
      have := cha_inj hB (by omega) (by omega) e
      omega
    · rintro rfl; rfl
  · have ik : inR (zs.length : Int) 0 ((zs.length : Int) - 1) = false := by
      cases q : inR (zs.length : Int) 0 ((zs.length : Int) - 1)
      · rfl
      · have := inR_t.1 q; omega
    simp [useL, h1, hd, ik]
set_option maxRecDepth 20000 in
set_option maxHeartbeats 16000000 in
theorem differs_all (v f u : Int) (ca : Option Addr) (ck : Nat) (zs : List Int) (s : Int) (w : World) (hz : IntsIn w ca zs.length zs) (hk : zs.length ≤ ck) :
    Calls Try.prog 6 #[.agg #[.int .i64 v, .int .i64 f, .int .i64 u, .slice ca zs.length ck], .int .i64 s] w fun e w' => e = .returned (.bool true) ∧ Fr no w w' := by
  obtain ⟨W, hW⟩ : ∃ W, W = w.alloc (.cells #[.int .i64 v, .int .i64 f, .int .i64 u, .slice ca zs.length ck] 24 (0, 0)) := ⟨_, rfl⟩
  have hF : Fr no w W := by rw [hW]; exact (Fr.refl no w).alloc _
  have h1 : W.heap[w.heap.size]? = some (.cells #[.int .i64 v, .int .i64 f, .int .i64 u, .slice ca zs.length ck] 24 (0, 0)) := by rw [hW]; exact heap_alloc_new w _
  have HF := Lib.hid hF
  have HW := Lib.hid hW
  have H1 := Lib.hid h1
  have HZ := Lib.hid (hz.kept hF)
  have HK := Lib.hid hk
  obtain ⟨ln, hln⟩ : ∃ ln, ln = zs.length := ⟨_, rfl⟩
  simp only [← hln] at HZ HK ⊢
  rw [← hln] at H1 HW
  by_cases h20 : ln ≤ 20
  · have hnI : ¬ ((20 : Int) < (ln : Int)) := by omega
    have KC := Lib.hid (fun o w hz => channel_any v f u ca ck zs s o w hz (by omega))
    have KM := Lib.hid (fun o w hz => meet_any v f u ca ck zs s 0 o w hz (by omega))
    simp only [← hln] at KC KM
    have HUF := Lib.hid (fun h => usF (v := v) (f := f) (u := u) (zs := zs) (s := s) h)
    have HFI := Lib.hid (use_first v f u zs s)
    have K0 := Lib.hid (KC.out 0)
    have HLN := Lib.hid hln
    have H20 := Lib.hid h20
    obtain ⟨i0, hi, hz0, hz1, hz2⟩ := info_parts info3
    clear hz hF h1 hW hk hln h20 HK
    go_enter Try.func6, Try.ntmps6
    go_wp2_with fail
    rw [← HW.out]
    refine (awake_any W).mono ?_
    rintro e w0 ⟨rfl, f0⟩
    obtain ⟨c0, c1, c2, c3⟩ := four_cells (f0.blk H1.out (fun h => h))
    have F0 := Lib.hid f0
    clear f0
    go_wp2_with fail
    refine (K0.out _ (HZ.out.kept F0.out)).mono ?_
    rintro e w1 ⟨rfl, f1⟩
    have F1 := Lib.hid (F0.out.noTrans f1)
    replace c0 := f1.keepc c0
    replace c1 := f1.keepc c1
    replace c2 := f1.keepc c2
    replace c3 := f1.keepc c3
    clear f1 F0 K0
    generalize chV v f u zs s 0 = x0 at *
    by_cases hE : useL v f u zs s [0] = 0
    · have HU := Lib.hid (HUF.out hE)
      rw [hE]
      clear hE HUF HFI hnI
      go_wp2_with fail
      clear c0 c1 c2 c3
      go_loopw [7, 8, 9, 10, 11, 12, 38] (fun v7 _ _ _ _ _ i wr => ∃ k : Nat, k ≤ ln ∧ i = .int .i64 k ∧ Hid (RowI W.heap.size wr v7 (diL zs s k)) ∧ Hid (Fr no W wr)) (fun _ _ _ _ _ _ i _ => ln - (intOf i).toNat)
      case atStart => exact ⟨0, Nat.zero_le _, rfl, Lib.hid (by show World.ownsRow _ _ 3 1 _ 0 []; exact World.ownsRow_nil _ _ _ _), Lib.hid F1.out⟩
      case round =>
        obtain ⟨k, hk, rfl, HO, F⟩ := hrel
        obtain ⟨ra, rc, rfl, -, hri⟩ := rowI_ints HO.out
        have HRI := Lib.hid hri
        rw [diL_len] at HRI ⊢
        have hkI : (k : Int) ≤ 20 := by have := H20.out; omega
        obtain ⟨c0, c1, c2, c3⟩ := four_cells (F.out.blk H1.out (fun h => h))
        clear hri
        by_cases hlt : k < ln
        · obtain ⟨u1, u2, u3, u4, u5, u6⟩ := HU.out.a k (by have := HLN.out; omega)
          have KCK := KC.out (k : Int)
          have KMK := KM.out (k : Int)
          rw [u1, u3] at KCK
          rw [u2, u4] at KMK
          have HSS := Lib.hid (diL_succ zs s k)
          have KA := fun w hz => contains_any ra k rc (diL zs s k) (cha zs s k) w hz (by omega)
          have KB := fun w hz => contains_any ca ln ck zs (cha zs s k) w hz (by have := H20.out; omega)
          rw [u5] at KA
          rw [u6] at KB
          have KA := Lib.hid KA
          have KB := Lib.hid KB
          replace KCK := Lib.hid KCK
          replace KMK := Lib.hid KMK
          clear u1 u2 u3 u4 u5 u6
          generalize cha zs s (k : Int) = x at *
          go_wp2_with fail
          refine (KCK.out _ (HZ.out.kept F.out)).mono ?_
          rintro e w2 ⟨rfl, f2⟩
          have F2 := Lib.hid (F.out.noTrans f2)
          have HO2 := Lib.hid (HO.out.kept f2)
          have HRI2 := Lib.hid (HRI.out.kept f2)
          replace c0 := f2.keepc c0
          replace c1 := f2.keepc c1
          replace c2 := f2.keepc c2
          replace c3 := f2.keepc c3
          clear f2
          go_wp2_with fail
          refine (KA.out _ HRI2.out).mono ?_
          rintro e w3 ⟨rfl, rfl⟩
          go_wp2_with fail
          refine (KB.out _ (HZ.out.kept F2.out)).mono ?_
          rintro e w4 ⟨rfl, rfl⟩
          have hown : World.ownsRow w4 W.heap.size 3 1 (.slice ra k rc) k (Ints (diL zs s k)) := by
            have := HO2.out
            unfold RowI at this
            rwa [diL_len] at this
          go_wp2_with (at_builtin; refine wpList_append_own _ rfl (.tmp 62) (.tmp 64) 22 rfl W.heap.size 3 i0 (.int .i64 0) 1 8 Try.underlying22 hi hz0 hz1 hz2 rfl (by decide) _ _ _ rfl (hown.alloc _) ⟨w4.heap.size, 0, none⟩ 1 1 [.int .i64 x] rfl rfl ?_ ?c2 ?c3 ?c4 ?c5 ?_)
          case c2 => simp [Value.oneCell']
          case c3 => have := H20.out; unfold maxLen; omega
          case c4 => have := H20.out; omega
          case c5 => have := F2.out.size; simp; omega
          · intro j u hj
            rcases j with _ | j
            · simp only [List.getElem?_cons_zero, Option.some.injEq] at hj
              subst hj
              rw [show (⟨w4.heap.size, 0, none⟩ : Addr).add 0 = ⟨w4.heap.size, 0, none⟩ by simp [Addr.add]]
              exact cell_new1 _ _ _
            · simp at hj
          · intro v' w7 hown7 hgrow7 _
            have F7 := Lib.hid (show Fr no W w7 from (F2.out.alloc _).grown hgrow7 (fun j hj => .inr (own_geN hown j hj)))
            have HO7 := Lib.hid (show RowI W.heap.size w7 v' (diL zs s (k + 1)) by
              rw [HSS.out]
              unfold RowI Ints
              rw [List.length_append, List.map_append, diL_len]
              exact hown7)
            clear hown7 hgrow7 hown c0 c1 c2 c3
            obtain ⟨c0, c1, c2, c3⟩ := four_cells (F7.out.blk H1.out (fun h => h))
            go_wp2_with fail
            refine (KMK.out _ (HZ.out.kept F7.out)).mono ?_
            rintro e w8 ⟨rfl, f8⟩
            have F8 := Lib.hid (F7.out.noTrans f8)
            have HO8 := Lib.hid (HO7.out.kept f8)
            have hdk : decide ((k : Int) = 0) = decide (k = 0) := by rw [Bool.eq_iff_iff, decide_eq_true_eq, decide_eq_true_eq]; omega
            clear f8 c0 c1 c2 c3
            by_cases hk0 : k = 0
            · subst hk0
              go_wp2_with fail
              go_roundw
              case rel => exact ⟨1, by omega, by go_num, HO8, F8⟩
              case measure => simp [intOf]; omega
            · have hk1 : decide (k = 0) = false := decide_eq_false hk0
              have hk2 : ((k : Int) == 0) = false := by simp; omega
              have hk3 : decide ((k : Int) = 0) = false := by simp; omega
              have hk4 : ¬ ((k : Int) = 0) := by omega
              rw [hk1]
              clear hdk
              go_wp2_with fail
              go_roundw
              case rel => exact ⟨k + 1, by omega, by go_num, HO8, F8⟩
              case measure => simp [intOf]; omega
        · have KCL := KC.out (ln : Int)
          have hb := HU.out.b
          rw [← HLN.out] at hb
          rw [hb] at KCL
          replace KCL := Lib.hid KCL
          clear hb
          generalize chV v f u zs s (ln : Int) = x at *
          go_wp2_with fail
          refine (KCL.out _ (HZ.out.kept F.out)).mono ?_
          rintro e w2 ⟨rfl, f2⟩
          have FF := Lib.hid (HF.out.noTrans (F.out.noTrans f2))
          clear f2
          go_wp2_with fail
          go_ret
          exact ⟨rfl, FF.out⟩
    · have HE := Lib.hid hE
      have HFI := Lib.hid (HFI.out.resolve_left hE)
      have FF := Lib.hid (HF.out.noTrans F1.out)
      clear HUF hnI hE c0 c1 c2 c3
      rcases HFI.out with h | h
      · rw [h]
        go_wp2_with fail
        go_ret
        exact ⟨rfl, FF.out⟩
      · rw [h]
        go_wp2_with fail
        go_ret
        exact ⟨rfl, FF.out⟩
  · have hnI : (20 : Int) < (ln : Int) := by omega
    clear hz h1 hF hW hk hln h20 HK HZ
    go_enter Try.func6, Try.ntmps6
    go_wp2_with fail
    rw [← HW.out]
    refine (awake_any W).mono ?_
    rintro e w0 ⟨rfl, f0⟩
    obtain ⟨c0, c1, c2, c3⟩ := four_cells (f0.blk H1.out (fun h => h))
    have F0 := Lib.hid (HF.out.noTrans f0)
    clear f0
    go_wp2_with fail
    go_ret
    exact ⟨rfl, F0.out⟩

end Go.Proofs.Ytpaoacdgmfaolaa
