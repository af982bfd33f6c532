/- What stays. -/
import Derived.Test.YtpaoacdgmfaolaaSto
import Derived.Test.YtpaoacdgmfaolaaSub
import Derived.Test.YtpaoacdgmfaolaaSel
import Derived.Test.YtpaoacdgmfaolaaBkl
import Derived.Test.YtpaoacdgmfaolaaLsm
namespace Go.Proofs.Ytpaoacdgmfaolaa
set_option linter.unusedVariables false
open Go.RowKit


def F1 (chs : List Int) : Nat → Bool := fun d => hasZ chs (d : Int)
def F3 (chs bl : List Int) (l : List Int) : Nat → Bool := fun d => hasZ chs (d : Int) && (!hasZ bl (d : Int) || hasZ l (d : Int))
theorem F3_0 (chs bl : List Int) : (fun d : Nat => F1 chs d && !hasZ bl (d : Int)) = F3 chs bl [] := by
  funext d
  simp [F1, F3, hasZ]
theorem sel_F3 {chs bl l : List Int} (hin : InC chs) : selL (F3 chs bl l) chs = chs.filter fun c => !hasZ bl c || hasZ l c := by
  unfold selL
  refine List.filter_congr fun c hc => ?_
  obtain ⟨k, hk, rfl⟩ := List.mem_iff_getElem.1 hc
  have := hin k hk
  rw [List.getD_eq_getElem?_getD, List.getElem?_eq_getElem hk] at this
  simp only [Option.getD_some] at this
  have e : ((chs[k].toNat : Nat) : Int) = chs[k] := by omega
  simp only [F3, e]
  rw [hasZ_t.2 hc, Bool.true_and]
theorem gd_len {chs bl : List Int} (hin : InC chs) : (selL (F3 chs bl []) chs).length = (gdL chs bl).length := by
  rw [sel_F3 hin]
  unfold gdL
  congr 2
  funext c
  simp [hasZ]
theorem F3_put (chs bl l : List Int) (m : Nat) (h : hasZ chs (m : Int) = true) : (fun d : Nat => if d == m then true else F3 chs bl l d) = F3 chs bl (l ++ [(m : Int)]) := by
  funext d
  by_cases e : d = m
  · subst e
    have : hasZ (l ++ [(d : Int)]) (d : Int) = true := hasZ_t.2 (by simp)
    simp [F3, h, this]
  · have e1 : (d == m) = false := by simpa using e
    have e2 : ((m : Int) == (d : Int)) = false := by simp; omega
    have : hasZ (l ++ [(m : Int)]) (d : Int) = hasZ l (d : Int) := by simp [hasZ]; intro h2; omega
    simp [F3, this, e1]
def WiRes (w w' : World) (l : List Int) (er : Int) (e : Ending) : Prop := ∃ v, e = .returned (.tuple #[v, .int .i64 er]) ∧ RowI w.heap.size w' v l ∧ Fr no w w'
theorem in_chB {zs : List Int} (h : chB zs = true) : InC zs := (chB_t h).2.2.2
theorem in_bkB {zs : List Int} (h : bkB zs = true) : InC zs := (bkB_t h).2
theorem bl_has (bl : List Int) (k m : Nat) (hk : k < bl.length) (h : bl.getD k 0 = (m : Int)) : hasZ bl (m : Int) = true := has_yes bl (m : Int) k hk h
set_option maxRecDepth 20000 in
set_option maxHeartbeats 16000000 in
theorem witho_3 (ao : Option Addr) (al ac : Nat) (chs : List Int) (bo : Option Addr) (bl_ bc : Nat) (bl : List Int) (least : Int) (w : World) (hx : IntsIn w ao al chs) (hy : IntsIn w bo bl_ bl) (h1 : chB chs = true) (h2 : bkB bl = true) (h3 : inR least 1 al = true) :
    Calls Try.prog 25 #[.slice ao al ac, .slice bo bl_ bc, .int .i64 least] w fun e w' => WiRes w w' (wiL chs bl least) 0 e := by
  have hal : al ≤ 16 := by have := (chB_t h1).2.1; have := hx.1; omega
  have hbl : bl_ ≤ 64 := by have := (bkB_t h2).1; have := hy.1; omega
  have KA := Lib.hid (fun w h => areChannels_any ao al ac chs w h (by omega))
  have KB := Lib.hid (fun w h => isBlacklist_any bo bl_ bc bl w h (by omega))
  have KC := Lib.hid (fun w => within_any least 1 al w)
  rw [h1] at KA
  rw [h2] at KB
  rw [h3] at KC
  have HX := Lib.hid hx
  have HY := Lib.hid hy
  have HXL := Lib.hid hx.1
  have HYL := Lib.hid hy.1
  have HI1 := Lib.hid (in_chB h1)
  have HI2 := Lib.hid (in_bkB h2)
  have HLE := Lib.hid (inR_t.1 h3)
  have HAL := Lib.hid hal
  have HBL := Lib.hid hbl
  have HWI := Lib.hid (show wiL chs bl least = chs.filter (fun c => !hasZ bl c || hasZ (wiK chs bl least) c) from rfl)
  have HWK := Lib.hid (show wiK chs bl least = (rsK chs bl (least - (gdL chs bl).length) bl.length).2 from rfl)
  have KD := Lib.hid (fun w h => setOf_any ao al ac chs w h (by omega) (in_chB h1))
  have KE := Lib.hid (fun (V : List Value) (hV : V = flV (F1 chs)) w h => show Calls Try.prog 47 #[.agg V.toArray, .slice bo bl_ bc] w (fun e w' => e = .returned (.agg (flA (F3 chs bl []))) ∧ Fr no w w') by
    rw [hV, ← F3_0]; exact without_any (F1 chs) bo bl_ bc bl w h (by omega) (in_bkB h2))
  have KF := Lib.hid (fun (V : List Value) (l : List Int) (hV : V = flV (F3 chs bl l)) w h => show Calls Try.prog 48 #[.agg V.toArray, .slice ao al ac] w (fun e w' => LstRes w w' (selL (F3 chs bl l) chs) e) by
    rw [hV]; exact of_any (F3 chs bl l) ao al ac chs w h (by omega) (in_chB h1))
  clear hx hy h1 h2 h3 hal hbl
  go_enter Try.func25, Try.ntmps25
  go_wp2_with fail
  refine (KA.out _ HX.out).mono ?_
  rintro e w1 ⟨rfl, f1⟩
  have HF1 := Lib.hid f1
  clear f1
  go_wp2_with fail
  refine (KB.out _ (HY.out.kept HF1.out)).mono ?_
  rintro e w2 ⟨rfl, rfl⟩
  go_wp2_with fail
  refine (KC.out _).mono ?_
  rintro e w3 ⟨rfl, rfl⟩
  go_wp2_with fail
  refine (KD.out _ (HX.out.kept HF1.out)).mono ?_
  rintro e w4 ⟨rfl, f4⟩
  have HF4 := Lib.hid (HF1.out.noTrans f4)
  clear f4 HF1
  obtain ⟨V1, hV1⟩ : ∃ V1, V1 = flV (F1 chs) := ⟨_, rfl⟩
  have hA1 : flA (fun d => hasZ chs (d : Int)) = V1.toArray := by rw [hV1]; rfl
  rw [hA1]
  have hl1 : V1.length = 16 := by rw [hV1]; exact flV_len _
  have hi1 : (Try.prog.info? 66).map (·.size) = some V1.length := by rw [hl1]; exact info66
  have hi1b : (Try.prog.info? 66).map (·.size) = some V1.toArray.size := by rw [List.size_toArray]; exact hi1
  have hsz1 : (#[.bool false, .bool false, .bool false, .bool false, .bool false, .bool false, .bool false, .bool false, .bool false, .bool false, .bool false, .bool false, .bool false, .bool false, .bool false, .bool false] : Array Value).size = V1.toArray.size := by show 16 = V1.toArray.size; rw [List.size_toArray, hl1]
  have h1c1 := all_oneCell_toArray (show ∀ v ∈ V1, v.oneCell' = true by rw [hV1]; exact flV_one _)
  have HA1 := Lib.hid hA1
  have HV1 := Lib.hid hV1
  have hW1 : (w4.alloc (.cells V1.toArray 66 (0, 0))).heap[w4.heap.size]? = some (.cells (flA (F1 chs)) 66 (0, 0)) := by rw [heap_alloc_new w4 _, hV1]; rfl
  have hrg1 := fl_range hW1
  rw [← hV1] at hrg1
  have HW1 := Lib.hid hW1
  clear hV1 hA1 hW1 hl1
  go_wp2_with (first | (refine wpList_store_new rfl 66 (.tmp 8) (.tmp 27) rfl _ V1.toArray ?hx ?hy hi1b hsz1 h1c1 ?_; (case hx => rfl); (case hy => rfl)) | (refine wpList_load_mid rfl 66 (.tmp 8) rfl w4.heap.size 0 ?hx V1 _ hrg1 heap66 rfl hi1 ?_; (case hx => rfl)))
  clear hrg1 hi1 hi1b hsz1 h1c1
  refine (KE.out V1 HV1.out _ (HY.out.kept (HF4.out.alloc _))).mono ?_
  rintro e w5 ⟨rfl, f5⟩
  have HB1 := Lib.hid (f5.blk HW1.out (fun h => h))
  have HF5 := Lib.hid ((HF4.out.alloc _).noTrans f5)
  have HLT := Lib.hid (show w4.heap.size < w5.heap.size from lt_of_blk HB1.out)
  clear f5 HW1
  obtain ⟨V2, hV2⟩ : ∃ V2, V2 = flV (F3 chs bl []) := ⟨_, rfl⟩
  have hA2 : flA (F3 chs bl []) = V2.toArray := by rw [hV2]; rfl
  rw [hA2]
  have hl2 : V2.length = 16 := by rw [hV2]; exact flV_len _
  have hi2 : (Try.prog.info? 66).map (·.size) = some V2.length := by rw [hl2]; exact info66
  have hi2b : (Try.prog.info? 66).map (·.size) = some V2.toArray.size := by rw [List.size_toArray]; exact hi2
  have hsz2 : (#[.bool false, .bool false, .bool false, .bool false, .bool false, .bool false, .bool false, .bool false, .bool false, .bool false, .bool false, .bool false, .bool false, .bool false, .bool false, .bool false] : Array Value).size = V2.toArray.size := by show 16 = V2.toArray.size; rw [List.size_toArray, hl2]
  have h1c2 := all_oneCell_toArray (show ∀ v ∈ V2, v.oneCell' = true by rw [hV2]; exact flV_one _)
  have HV2 := Lib.hid hV2
  have hW2 : (w5.alloc (.cells V2.toArray 66 (0, 0))).heap[w5.heap.size]? = some (.cells (flA (F3 chs bl [])) 66 (0, 0)) := by rw [heap_alloc_new w5 _, hV2]; rfl
  have hrg2 := fl_range hW2
  rw [← hV2] at hrg2
  have HW2 := Lib.hid hW2
  clear hV2 hA2 hW2 hl2
  go_wp2_with (first | (refine wpList_store_new rfl 66 (.tmp 9) (.tmp 30) rfl _ V2.toArray ?hx ?hy hi2b hsz2 h1c2 ?_; (case hx => rfl); (case hy => rfl)) | (refine wpList_load_mid rfl 66 (.tmp 9) rfl w5.heap.size 0 ?hx V2 _ hrg2 heap66 rfl hi2 ?_; (case hx => rfl)))
  clear hrg2 hi2 hi2b hsz2 h1c2
  refine (KF.out V2 [] HV2.out _ (HX.out.kept (HF5.out.alloc _))).mono ?_
  rintro e w6 ⟨v, rfl, hown, f6⟩
  have HB2 := Lib.hid (f6.blk HW2.out (fun h => h))
  have HB3 := Lib.hid ((((Fr.refl no w5).alloc _).noTrans f6).blk HB1.out (fun h => h))
  have HF6 := Lib.hid ((HF5.out.alloc _).noTrans f6)
  have HLT2 := Lib.hid (show w.heap.size ≤ w5.heap.size from HF5.out.size)
  obtain ⟨va, vc, rfl, -, -⟩ := rowI_ints hown
  have HGL := Lib.hid (gd_len HI1.out (bl := bl))
  have HGB := Lib.hid (show (selL (F3 chs bl []) chs).length ≤ 16 from Nat.le_trans (List.length_filter_le _ _) (by have := HXL.out; have := HAL.out; omega))
  rw [← HGL.out] at HWK
  generalize (selL (F3 chs bl []) chs).length = g0 at *
  have hwr : IntKind.i64.wrap (least - (g0 : Int)) = least - (g0 : Int) := IntWalk.i64_in _ (by have := HLE.out; have := HGB.out; have := HAL.out; omega)
  clear hown f6 HW2 HB1 HGL
  go_wp2_with fail
  have HM0 := Lib.hid (show -16 ≤ least - (g0 : Int) ∧ least - (g0 : Int) ≤ 16 by have := HLE.out; have := HGB.out; have := HAL.out; omega)
  obtain ⟨m0, hm0⟩ : ∃ m0, m0 = least - (g0 : Int) := ⟨_, rfl⟩
  rw [← hm0] at HWK HM0 ⊢
  clear hm0 hwr
  go_loopw [10, 12, 39] (fun v _ i wr => ∃ k : Nat, k ≤ bl_ ∧ i = .int .i64 k ∧ v = .int .i64 (rsK chs bl m0 k).1 ∧ Hid (wr.heap[w5.heap.size]? = some (.cells (flA (F3 chs bl (rsK chs bl m0 k).2)) 66 (0, 0))) ∧ Hid (Fr (only w5.heap.size) w6 wr)) (fun _ _ i _ => bl_ - (intOf i).toNat)
  case atStart => exact ⟨0, Nat.zero_le _, rfl, by simp [rsK], Lib.hid (by rw [show (rsK chs bl m0 0).2 = [] by simp [rsK]]; exact HB2.out), Lib.hid (Fr.refl _ _)⟩
  case round =>
    obtain ⟨k, hk, rfl, rfl, HBk, HFk⟩ := hrel
    have HFX := Lib.hid (show Fr no w wr from HF6.out.trans HFk.out (fun i hi h => by have := HLT2.out; simp only [only] at h; omega))
    by_cases hlt : k < bl_
    · obtain ⟨b, off, rfl, e0⟩ := HY.out.2 k hlt
      have e1 := HFX.out.keepc e0
      have hkI : (k : Int) ≤ 63 := by have := HBL.out; omega
      have hin := HI2.out k (by have := HYL.out; omega)
      have HS := Lib.hid (rsK_succ chs bl m0 k (by have := HYL.out; omega))
      have HBH := Lib.hid (fun m h => bl_has bl k m (by have := HYL.out; omega) h)
      have HIV := rsI chs bl m0 k (by have := HYL.out; omega)
      have hq16 : (rsK chs bl m0 k).1 ≤ 16 := by
        have := HIV.s
        have := HM0.out
        omega
      have hq17 : -100 ≤ (rsK chs bl m0 k).1 := by
        have h1 := HIV.s
        have h2 := HM0.out
        by_cases h0 : 0 ≤ m0
        · have := HIV.z h0; omega
        · have h3 := HIV.neg (by omega)
          rw [h3] at h1
          simp at h1
          omega
      clear e0 HIV
      generalize bl.getD k 0 = z at *
      obtain ⟨m, rfl⟩ := Int.eq_ofNat_of_zero_le hin.1
      have hm16 : m < 16 := by omega
      have hmI : (m : Int) < 16 := by omega
      have HBH := Lib.hid (HBH.out m rfl)
      obtain ⟨v0, v1⟩ := fl_cellT HBk.out m hm16
      obtain ⟨u0, -⟩ := fl_cellT (HFk.out.blk HB3.out (by have := HLT.out; simp only [only]; omega)) m hm16
      have HS2 := Lib.hid (by have := three_set HBk.out m (.bool true); rw [flA_put _ m hm16] at this; exact this)
      rw [show F1 chs m = hasZ chs (m : Int) from rfl] at u0
      rw [show F3 chs bl (rsK chs bl m0 k).2 m = (hasZ chs (m : Int) && (!hasZ bl (m : Int) || hasZ (rsK chs bl m0 k).2 (m : Int))) from rfl, HBH.out] at v0
      obtain ⟨q, hq⟩ : ∃ q, q = (rsK chs bl m0 k).1 := ⟨_, rfl⟩
      obtain ⟨l, hl⟩ : ∃ l, l = (rsK chs bl m0 k).2 := ⟨_, rfl⟩
      have HSE := Lib.hid (show rsS chs (rsK chs bl m0 k) (m : Int) = if decide (0 < q) && (hasZ chs (m : Int) && !hasZ l (m : Int)) then (q - 1, l ++ [(m : Int)]) else rsK chs bl m0 k by rw [hq, hl]; rfl)
      have HPUT := Lib.hid (F3_put chs bl l m)
      rw [← hq] at hq16 hq17 ⊢
      rw [← hl] at v0 HS2 HBk
      have HQE := Lib.hid hq
      have HLEQ := Lib.hid hl
      clear hin hq hl
      generalize hasZ chs (m : Int) = L at *
      generalize hasZ l (m : Int) = K at *
      have hwq : IntKind.i64.wrap (q - 1) = q - 1 := IntWalk.i64_in _ (by omega)
      by_cases h0 : 0 < q
      · have hd0 : decide (0 < q) = true := decide_eq_true h0
        cases L
        · have HN := Lib.hid (show rsK chs bl m0 (k + 1) = rsK chs bl m0 k by rw [HS.out, HSE.out]; simp)
          simp only [Bool.false_and] at v0
          clear hd0
          go_wp2_with fail
          go_roundw
          case rel => exact ⟨k + 1, by omega, by go_num, by rw [HN.out, HQE.out], Lib.hid (by rw [HN.out, ← HLEQ.out]; exact HBk.out), HFk⟩
          case measure => simp [intOf]; omega
        · cases K
          · have HN := Lib.hid (show rsK chs bl m0 (k + 1) = (q - 1, l ++ [(m : Int)]) by rw [HS.out, HSE.out, hd0]; simp)
            have HPUT := Lib.hid (HPUT.out rfl)
            simp only [Bool.true_and, Bool.not_true, Bool.or_false] at v0
            clear hd0
            go_wp2_with fail
            go_roundw
            case rel => exact ⟨k + 1, by omega, by go_num, by rw [HN.out], Lib.hid (by rw [HN.out, ← HPUT.out]; exact HS2.out), Lib.hid (HFk.out.setCell (p := ⟨w5.heap.size, m, none⟩) (.inl rfl) _)⟩
            case measure => simp [intOf]; omega
          · have HN := Lib.hid (show rsK chs bl m0 (k + 1) = rsK chs bl m0 k by rw [HS.out, HSE.out, hd0]; simp)
            simp only [Bool.true_and, Bool.not_true, Bool.or_true] at v0
            clear hd0
            go_wp2_with fail
            go_roundw
            case rel => exact ⟨k + 1, by omega, by go_num, by rw [HN.out, HQE.out], Lib.hid (by rw [HN.out, ← HLEQ.out]; exact HBk.out), HFk⟩
            case measure => simp [intOf]; omega
      · have hd0 : decide (0 < q) = false := decide_eq_false h0
        have HN := Lib.hid (show rsK chs bl m0 (k + 1) = rsK chs bl m0 k by rw [HS.out, HSE.out, hd0]; simp)
        clear hd0
        go_wp2_with fail
        go_roundw
        case rel => exact ⟨k + 1, by omega, by go_num, by rw [HN.out, HQE.out], Lib.hid (by rw [HN.out, ← HLEQ.out]; exact HBk.out), HFk⟩
        case measure => simp [intOf]; omega
    · obtain rfl : k = bl_ := by omega
      have HKE := Lib.hid (show wiK chs bl least = (rsK chs bl m0 k).2 by rw [HWK.out, HYL.out])
      obtain ⟨l, hl⟩ : ∃ l, l = (rsK chs bl m0 k).2 := ⟨_, rfl⟩
      rw [← hl] at HBk HKE
      generalize (rsK chs bl m0 k).1 = q at *
      obtain ⟨V3, hV3⟩ : ∃ V3, V3 = flV (F3 chs bl l) := ⟨_, rfl⟩
      have hrg3 := fl_range HBk.out
      rw [← hV3] at hrg3
      have hi3 : (Try.prog.info? 66).map (·.size) = some V3.length := by rw [hV3, flV_len]; exact info66
      have HV3 := Lib.hid hV3
      clear hV3 hl
      go_wp2_with (refine wpList_load_mid rfl 66 (.tmp 9) rfl w5.heap.size 0 ?hx V3 _ hrg3 heap66 rfl hi3 ?_; (case hx => rfl))
      clear hrg3 hi3
      refine (KF.out V3 l HV3.out _ (HX.out.kept HFX.out)).mono ?_
      rintro e w7 ⟨v, rfl, hown, f7⟩
      have HO7 := Lib.hid hown
      have HF7 := Lib.hid f7
      clear hown f7
      go_wp2_with fail
      go_ret2
      exact ⟨_, rfl, by rw [HWI.out, HKE.out, ← sel_F3 HI1.out]; exact HO7.out.mono HFX.out.size, HFX.out.noTrans HF7.out⟩

end Go.Proofs.Ytpaoacdgmfaolaa
