/- The document: Without. -/
import Derived.Test.YtpaoacdgmfaolaaLw4
import Derived.Test.YtpaoacdgmfaolaaChR
namespace Go.Proofs.Ytpaoacdgmfaolaa
set_option linter.unusedVariables false
open Go.RowKit


theorem rsK_0 (chs bl : List Int) (m : Int) : rsK chs bl m 0 = (m, []) := by simp [rsK]
theorem rsS_stop (chs : List Int) (s : Int × List Int) (c : Int) (h : s.1 ≤ 0) : rsS chs s c = s := by
  unfold rsS
  rw [decide_eq_false (by omega)]; simp
theorem rsK_stop (chs bl : List Int) (m : Int) (k n : Nat) (hk : k ≤ n) (hn : n ≤ bl.length) (h : (rsK chs bl m k).1 ≤ 0) : rsK chs bl m n = rsK chs bl m k := by
  induction n with
  | zero => obtain rfl : k = 0 := by omega
            rfl
  | succ n ih =>
    by_cases e : k = n + 1
    · rw [e]
    · have := ih (by omega) (by omega)
      rw [rsK_succ chs bl m n (by omega), this, rsS_stop chs _ _ h]
theorem filt_snoc (P : Int → Bool) (zs : List Int) (k : Nat) (hk : k < zs.length) : (zs.take (k + 1)).filter P = (zs.take k).filter P ++ (if P (zs.getD k 0) then [zs.getD k 0] else []) := by
  rw [take_snoc zs k hk, List.filter_append]
  congr 1
  generalize zs.getD k 0 = c
  cases h : P c <;> simp [h]
set_option maxRecDepth 20000 in
set_option maxHeartbeats 32000000 in
theorem withoR_3 (ao : Option Addr) (al ac : Nat) (chs : List Int) (bo : Option Addr) (bl_ bc : Nat) (bl : List Int) (least : Int) (w : World) (hx : IntsIn w ao al chs) (hy : IntsIn w bo bl_ bl) (hac : al ≤ ac) (h1 : chB chs = true) (h2 : bkB bl = true) (h3 : inR least 1 al = true) :
    Calls Try.prog 27 #[.slice ao al ac, .slice bo bl_ bc, .int .i64 least] w fun e w' => WiRes w w' (wiL chs bl least) 0 e := by
  have hal : al ≤ 16 := by have := (chB_t h1).2.1; have := hx.1; omega
  have hbl : bl_ ≤ 64 := by have := (bkB_t h2).1; have := hy.1; omega
  have KA := Lib.hid (fun w h => different_any ao al ac chs w h (by omega) hac)
  rw [h1] at KA
  have KB := Lib.hid (fun x w h => hasR_any bo bl_ bc bl x w h (by omega))
  have KH := Lib.hid (fun x w h => hasR_any ao al ac chs x w h (by omega))
  have HX := Lib.hid hx
  have HY := Lib.hid hy
  have HXL := Lib.hid hx.1
  have HYL := Lib.hid hy.1
  have HI2 := Lib.hid (in_bkB h2)
  have HLE := Lib.hid (inR_t.1 h3)
  have HAL := Lib.hid hal
  have HBL := Lib.hid hbl
  have HWI := Lib.hid (show wiL chs bl least = chs.filter (fun c => !hasZ bl c || hasZ (wiK chs bl least) c) from rfl)
  have HWK := Lib.hid (show wiK chs bl least = (rsK chs bl (least - (gdL chs bl).length) bl.length).2 from rfl)
  have hb64 : ¬ ((64 : Int) < (bl_ : Int)) := by omega
  have hb64d : decide ((64 : Int) < (bl_ : Int)) = false := decide_eq_false hb64
  obtain ⟨i0, hi, hz0, hz1, hz2⟩ := info_parts info3
  clear hx hy h1 h2 h3 hal hbl hac
  go_enter Try.func27, Try.ntmps27
  go_wp2_with fail
  refine (KA.out _ HX.out).mono ?_
  rintro e w1 ⟨rfl, f1⟩
  have F1 := Lib.hid f1
  clear f1
  go_wp2_with fail
  clear hb64 hb64d
  obtain ⟨w9, hw9⟩ : ∃ w9, w9 = w1 := ⟨_, rfl⟩
  go_loopw [8] (fun i wr => ∃ k : Nat, k ≤ bl_ ∧ i = .int .i64 k ∧ wr = w9) (fun i _ => bl_ - (intOf i).toNat)
  case atStart => exact ⟨0, Nat.zero_le _, rfl, hw9.symm⟩
  case round =>
    obtain ⟨k, hk, rfl, rfl⟩ := hrel
    subst hw9
    by_cases hlt : k < bl_
    · obtain ⟨b, off, rfl, e0⟩ := HY.out.2 k hlt
      have e1 := F1.out.keepc e0
      have hkI : (k : Int) ≤ 63 := by have := HBL.out; omega
      have KC := Lib.hid (fun w => (show Calls Try.prog 49 #[.int .i64 (bl.getD k 0)] w (fun e w' => e = .returned (.bool true) ∧ w' = w) by
        have := channelC_any (bl.getD k 0) w
        rwa [show isC (bl.getD k 0) = true from inR_t.2 (HI2.out k (by have := HYL.out; omega))] at this))
      clear e0
      generalize bl.getD k 0 = z at *
      go_wp2_with fail
      refine (KC.out _).mono ?_
      rintro e w3 ⟨rfl, rfl⟩
      go_wp2_with fail
      go_roundw
      case rel => exact ⟨k + 1, by omega, by go_num, by simp⟩
      case measure => simp [intOf]; omega
    · have hle1 : ¬ (least < 1) := by have := HLE.out; omega
      have hle2 : ¬ ((al : Int) < least) := by have := HLE.out; omega
      have hle1d : decide (least < 1) = false := decide_eq_false hle1
      have hle2d : decide ((al : Int) < least) = false := decide_eq_false hle2
      go_wp2_with fail
      clear hle1 hle2 hle1d hle2d
      obtain ⟨W2, hW2⟩ : ∃ W2, W2 = wr.alloc (.cells #[] 3 (0, 0)) := ⟨_, rfl⟩
      have HR2 := Lib.hid (show RowI wr.heap.size W2 (.slice (some ⟨wr.heap.size, 0, none⟩) 0 0) [] by rw [hW2]; exact World.ownsRow_made wr #[] 0 (Nat.le_refl _) (Nat.zero_le _) (by simp))
      have F2 := Lib.hid (show Fr no w W2 by rw [hW2]; exact F1.out.alloc _)
      have HB1 := Lib.hid (show wr.heap.size ≤ W2.heap.size by rw [hW2]; simp)
      have F12 := Lib.hid (show Fr no wr W2 by rw [hW2]; exact (Fr.refl no wr).alloc _)
      rw [← hW2]
      clear hW2
      obtain ⟨w1, hw1⟩ : ∃ w1, w1 = wr := ⟨_, rfl⟩
      rw [← hw1] at HR2 HB1 F1 F12 ⊢
      clear hw1
      have HGS := Lib.hid (fun i hi => cnt_succ (gdP bl) chs i hi)
      have HGA := Lib.hid (cnt_all (gdP bl) chs)
      have HGL := Lib.hid (show ∀ i, cnt (gdP bl) chs i ≤ 16 from fun i => Nat.le_trans (List.length_filter_le _ _) (by have := HXL.out; have := HAL.out; simp; omega))
      have HPD := Lib.hid (show ∀ c, gdP bl c = !hasZ bl c from fun c => rfl)
      obtain ⟨w8, hw8⟩ : ∃ w8, w8 = W2 := ⟨_, rfl⟩
      have HW8 := Lib.hid (show W2 = w8 from hw8.symm)
      clear hw8
      go_loopw [9, 11] (fun v9 i wr => ∃ k : Nat, k ≤ al ∧ i = .int .i64 k ∧ v9 = .int .i64 (cnt (gdP bl) chs k) ∧ wr = w8) (fun _ i _ => al - (intOf i).toNat)
      case atStart => exact ⟨0, Nat.zero_le _, rfl, by simp [cnt], HW8.out⟩
      case round =>
        obtain ⟨k3, hk3, rfl, rfl, hwr⟩ := hrel
        have hwr2 : W2 = wr := HW8.out.trans hwr.symm
        clear hwr
        subst hwr2
        by_cases hlt3 : k3 < al
        · obtain ⟨b, off, rfl, e0⟩ := HX.out.2 k3 hlt3
          have e1 := F2.out.keepc e0
          have hkI3 : (k3 : Int) ≤ 15 := by have := HAL.out; omega
          have HG1 := Lib.hid (HGS.out k3 (by have := HXL.out; omega))
          have hgb : (cnt (gdP bl) chs k3 : Int) ≤ 16 := by have := HGL.out k3; omega
          clear e0
          generalize chs.getD k3 0 = z at *
          have KB1 := KB.out z
          rw [HPD.out z] at HG1
          generalize hasZ bl z = A at *
          obtain ⟨g, hg⟩ : ∃ g, g = cnt (gdP bl) chs k3 := ⟨_, rfl⟩
          rw [← hg] at HG1 hgb ⊢
          have KB1 := Lib.hid KB1
          clear hg
          cases A
          · have HG1 := Lib.hid (show cnt (gdP bl) chs (k3 + 1) = g + 1 by rw [HG1.out]; rfl)
            go_wp2_with fail
            refine (KB1.out _ (HY.out.kept F2.out)).mono ?_
            rintro e w5 ⟨rfl, rfl⟩
            go_wp2_with fail
            go_roundw
            case rel => exact ⟨k3 + 1, by omega, by go_num, by rw [HG1.out]; go_num, HW8.out⟩
            case measure => simp [intOf]; omega
          · have HG1 := Lib.hid (show cnt (gdP bl) chs (k3 + 1) = g by rw [HG1.out]; rfl)
            go_wp2_with fail
            refine (KB1.out _ (HY.out.kept F2.out)).mono ?_
            rintro e w5 ⟨rfl, rfl⟩
            go_wp2_with fail
            go_roundw
            case rel => exact ⟨k3 + 1, by omega, by go_num, by rw [HG1.out], HW8.out⟩
            case measure => simp [intOf]; omega
        · have hgd : cnt (gdP bl) chs k3 = (gdL chs bl).length := by rw [show k3 = chs.length by have := HXL.out; omega]; exact HGA.out
          have HG16 := Lib.hid (HGL.out k3)
          rw [hgd] at HG16 ⊢
          obtain ⟨g0, hg0⟩ : ∃ g0, g0 = (gdL chs bl).length := ⟨_, rfl⟩
          rw [← hg0] at HWK HG16 ⊢
          obtain ⟨m0, hm0⟩ : ∃ m0, m0 = least - (g0 : Int) := ⟨_, rfl⟩
          rw [← hm0] at HWK
          have HM0 := Lib.hid (show -16 ≤ m0 ∧ m0 ≤ 16 by have := HLE.out; have := HG16.out; have := HAL.out; omega)
          have hg0m : (g0 : Int) = least - m0 := by omega
          rw [hg0m]
          have HLE16 := Lib.hid (show 1 ≤ least ∧ least ≤ 16 by have := HLE.out; have := HAL.out; omega)
          obtain ⟨wq, hwq⟩ : ∃ wq : Int → Bool, wq = fun c => !hasZ bl c || hasZ (wiK chs bl least) c := ⟨_, rfl⟩
          have HWQ := Lib.hid (show ∀ c, wq c = (!hasZ bl c || hasZ (wiK chs bl least) c) from fun c => by rw [hwq])
          rw [← hwq] at HWI
          clear hgd hg0 hm0 hg0m hwq
          go_wp2_with fail
          go_loopw [9, 10, 12] (fun v9 v10 i wr => ∃ k : Nat, k ≤ bl_ ∧ i = .int .i64 k ∧ v9 = .int .i64 (least - (rsK chs bl m0 k).1) ∧ Hid (RowI w1.heap.size wr v10 (rsK chs bl m0 k).2) ∧ Hid (Fr no w1 wr)) (fun _ _ i _ => bl_ - (intOf i).toNat)
          case atStart => exact ⟨0, Nat.zero_le _, rfl, by simp [rsK], by rw [rsK_0]; exact HR2, F12⟩
          case round =>
            obtain ⟨k, hk, rfl, rfl, O, F⟩ := hrel
            have FX := Lib.hid (F1.out.noTrans F.out)
            have HIV := rsI chs bl m0 k (by have := HYL.out; omega)
            have hq16 : (rsK chs bl m0 k).1 ≤ 16 := by
              have := HIV.s
              have := HM0.out
              omega
            have hl64 : (rsK chs bl m0 k).2.length ≤ 32 := by
              have h1 := HIV.s
              have h2 := HM0.out
              by_cases h0 : 0 ≤ m0
              · have := HIV.z h0; omega
              · have h3 := HIV.neg (by omega)
                rw [h3]; simp
            have hq17 : -16 ≤ (rsK chs bl m0 k).1 := by
              have h1 := HIV.s
              have h2 := HM0.out
              by_cases h0 : 0 ≤ m0
              · have := HIV.z h0; omega
              · have h3 := HIV.neg (by omega)
                rw [h3] at h1
                simp at h1
                omega
            have HEND := Lib.hid (show (¬ (k < bl_) ∨ (rsK chs bl m0 k).1 ≤ 0) → wiK chs bl least = (rsK chs bl m0 k).2 from fun h => by
              rw [HWK.out]
              rcases h with h | h
              · rw [show bl.length = k by have := HYL.out; omega]
              · rw [rsK_stop chs bl m0 k bl.length (by have := HYL.out; omega) (Nat.le_refl _) h])
            have HS := Lib.hid (fun hk => rsK_succ chs bl m0 k hk)
            obtain ⟨q, hq⟩ : ∃ q, q = (rsK chs bl m0 k).1 := ⟨_, rfl⟩
            obtain ⟨l, hl⟩ : ∃ l, l = (rsK chs bl m0 k).2 := ⟨_, rfl⟩
            have HSE := Lib.hid (fun c => show rsS chs (rsK chs bl m0 k) c = if decide (0 < q) && (hasZ chs c && !hasZ l c) then (q - 1, l ++ [c]) else rsK chs bl m0 k by rw [hq, hl]; rfl)
            rw [← hq] at hq16 hq17 HEND ⊢
            rw [← hl] at O HEND hl64
            have HQE := Lib.hid hq
            have HLEQ := Lib.hid hl
            have HLEN := Lib.hid hl64
            clear HIV hq hl hl64
            obtain ⟨ra, rc, rfl, -, hri⟩ := rowI_ints O.out
            obtain ⟨rn, hrn⟩ : ∃ rn, rn = l.length := ⟨_, rfl⟩
            have HRI := Lib.hid (show IntsIn wr ra rn l by rw [hrn]; exact hri)
            have HRN := Lib.hid (show rn ≤ 32 by rw [hrn]; exact HLEN.out)
            rw [← hrn]
            have HRNE := Lib.hid hrn
            clear hrn
            have hsw : IntKind.i64.wrap (least - q + 1) = least - q + 1 := IntWalk.i64_in _ (by have := HLE16.out; omega)
            clear hri
            by_cases hlt : k < bl_
            · by_cases h0 : 0 < q
              · have hst : least - q < least := by omega
                have hstd : decide (least - q < least) = true := decide_eq_true hst
                obtain ⟨b, off, rfl, e0⟩ := HY.out.2 k hlt
                have e1 := FX.out.keepc e0
                have hkI : (k : Int) ≤ 63 := by have := HBL.out; omega
                have HSK := Lib.hid (HS.out (by have := HYL.out; omega))
                have hd0 : decide (0 < q) = true := decide_eq_true h0
                have KKL := Lib.hid (fun x y h => hasR_any ra rn rc l x y h (by have := HRN.out; omega))
                clear e0
                generalize bl.getD k 0 = z at *
                have HSE1 := HSE.out z
                have KH1 := KH.out z
                have KK1 := KKL.out z
                generalize hasZ chs z = Lq at *
                generalize hasZ l z = Kq at *
                replace KH1 := Lib.hid KH1
                replace KK1 := Lib.hid KK1
                rw [hd0] at HSE1
                cases Lq
                · have HN := Lib.hid (show rsK chs bl m0 (k + 1) = rsK chs bl m0 k by rw [HSK.out, HSE1]; simp)
                  clear HSE1 hd0
                  go_wp2_with fail
                  refine (KH1.out _ (HX.out.kept FX.out)).mono ?_
                  rintro e w5 ⟨rfl, rfl⟩
                  go_wp2_with fail
                  go_roundw
                  case rel => exact ⟨k + 1, by omega, by go_num, by rw [HN.out, HQE.out], Lib.hid (by rw [HN.out, ← HLEQ.out]; rw [HRNE.out]; exact O.out), F⟩
                  case measure => simp [intOf]; omega
                · cases Kq
                  · have HN := Lib.hid (show rsK chs bl m0 (k + 1) = (q - 1, l ++ [z]) by rw [HSK.out, HSE1]; simp)
                    clear HSE1 hd0
                    go_wp2_with fail
                    refine (KH1.out _ (HX.out.kept FX.out)).mono ?_
                    rintro e w5 ⟨rfl, rfl⟩
                    go_wp2_with fail
                    refine (KK1.out _ HRI.out).mono ?_
                    rintro e w5 ⟨rfl, rfl⟩
                    rw [HRNE.out]
                    have hown : World.ownsRow w5 w1.heap.size 3 1 (.slice ra l.length rc) l.length (Ints l) := O.out
                    go_wp2_with (at_builtin; refine wpList_append_own _ rfl (.tmp 85) (.tmp 90) 22 rfl w1.heap.size 3 i0 (.int .i64 0) 1 8 Try.underlying22 hi hz0 hz1 hz2 rfl (by decide) _ _ _ rfl (hown.alloc _) ⟨w5.heap.size, 0, none⟩ 1 1 [.int .i64 z] rfl rfl ?_ ?_ ?_ ?_ ?_ ?_)
                    any_goals (first | (intro j u hj; rcases j with _ | j; (simp only [List.getElem?_cons_zero, Option.some.injEq] at hj; subst hj; rw [show (⟨w5.heap.size, 0, none⟩ : Addr).add 0 = ⟨w5.heap.size, 0, none⟩ by simp [Addr.add]]; exact cell_new1 _ _ _); (simp at hj; done)) | (simp [Value.oneCell']; done) | (have := HLEN.out; unfold maxLen; omega) | (have := HLEN.out; omega) | (have := F.out.size; simp; omega))
                    intro v' w7 hown7 hgrow7 _
                    have F7 := Lib.hid (show Fr no w1 w7 from (F.out.alloc _).grown hgrow7 (fun j hj => .inr (by have := own_geN hown j hj; omega)))
                    have HO7 := Lib.hid (show RowI w1.heap.size w7 v' (l ++ [z]) by
                      unfold RowI Ints
                      rw [List.length_append, List.map_append]
                      exact hown7)
                    clear hown7 hgrow7 hown
                    go_wp2_with fail
                    go_roundw
                    case rel => exact ⟨k + 1, by omega, by go_num, by rw [HN.out]; first | go_num | (simp; omega), by rw [HN.out]; exact HO7, F7⟩
                    case measure => simp [intOf]; omega
                  · have HN := Lib.hid (show rsK chs bl m0 (k + 1) = rsK chs bl m0 k by rw [HSK.out, HSE1]; simp)
                    clear HSE1 hd0
                    go_wp2_with fail
                    refine (KH1.out _ (HX.out.kept FX.out)).mono ?_
                    rintro e w5 ⟨rfl, rfl⟩
                    go_wp2_with fail
                    refine (KK1.out _ HRI.out).mono ?_
                    rintro e w5 ⟨rfl, rfl⟩
                    go_wp2_with fail
                    go_roundw
                    case rel => exact ⟨k + 1, by omega, by go_num, by rw [HN.out, HQE.out], Lib.hid (by rw [HN.out, ← HLEQ.out]; rw [HRNE.out]; exact O.out), F⟩
                    case measure => simp [intOf]; omega
              · have hst : ¬ (least - q < least) := by omega
                have hstd : decide (least - q < least) = false := decide_eq_false hst
                have HKE := Lib.hid (HEND.out (.inr (by omega)))
                clear HEND
                obtain ⟨wy, rfl⟩ : ∃ x, x = wr := ⟨_, rfl⟩
                go_wp2_with fail
                obtain ⟨W3, hW3⟩ : ∃ W3, W3 = wy.alloc (.cells #[] 3 (0, 0)) := ⟨_, rfl⟩
                have F3 := Lib.hid (show Fr no w W3 by rw [hW3]; exact FX.out.alloc _)
                have F13 := Lib.hid (show Fr no wy W3 by rw [hW3]; exact (Fr.refl no wy).alloc _)
                have HK3 := Lib.hid HRI.out
                have HR3 := Lib.hid (show RowI wy.heap.size W3 (.slice (some ⟨wy.heap.size, 0, none⟩) 0 0) [] by rw [hW3]; exact World.ownsRow_made wy #[] 0 (Nat.le_refl _) (Nat.zero_le _) (by simp))
                have HSW := Lib.hid (show w.heap.size ≤ wy.heap.size from FX.out.size)
                have HBASE := Lib.hid (show wy.heap.size ≤ W3.heap.size by rw [hW3]; simp)
                rw [← hW3]
                clear hW3
                have KK := Lib.hid (fun x y h => hasR_any ra rn rc l x y h (by have := HRN.out; omega))
                have HP := Lib.hid (show ∀ c, wq c = (!hasZ bl c || hasZ l c) from fun c => by rw [HWQ.out, HKE.out])
                go_loopw [13, 14] (fun v13 i wz => ∃ k : Nat, k ≤ al ∧ i = .int .i64 k ∧ Hid (RowI wy.heap.size wz v13 ((chs.take k).filter wq)) ∧ Hid (Fr no wy wz)) (fun _ i _ => al - (intOf i).toNat)
                case atStart => exact ⟨0, Nat.zero_le _, rfl, by simpa using HR3, F13⟩
                case round =>
                  obtain ⟨k2, hk2, rfl, O, F⟩ := hrel
                  obtain ⟨sa, sc, rfl, -, -⟩ := rowI_ints O.out
                  by_cases hlt2 : k2 < al
                  · obtain ⟨b, off, rfl, e0⟩ := HX.out.2 k2 hlt2
                    have FZ := Lib.hid (FX.out.noTrans F.out)
                    have e1 := FZ.out.keepc e0
                    have hkI2 : (k2 : Int) ≤ 15 := by have := HAL.out; omega
                    have HFS := Lib.hid (filt_snoc wq chs k2 (by have := HXL.out; omega))
                    have HLEN := Lib.hid (show ((chs.take k2).filter wq).length ≤ 16 from Nat.le_trans (List.length_filter_le _ _) (by have := HXL.out; have := HAL.out; simp; omega))
                    have HPC := Lib.hid (fun z => HP.out z)
                    clear e0
                    generalize (chs.take k2).filter wq = L at *
                    generalize chs.getD k2 0 = z at *
                    have KB1 := KB.out z
                    have KK1 := KK.out z
                    have HPZ := HPC.out z
                    generalize hasZ bl z = A at *
                    generalize hasZ l z = Bq at *
                    cases A
                    · have hz : wq z = true := by rw [HPZ]; rfl
                      rw [hz] at HFS
                      have KB1 := Lib.hid KB1
                      clear hz HPZ KK1
                      go_wp2_with fail
                      refine (KB1.out _ (HY.out.kept FZ.out)).mono ?_
                      rintro e w5 ⟨rfl, rfl⟩
                      have hown : World.ownsRow w5 wy.heap.size 3 1 (.slice sa L.length sc) L.length (Ints L) := O.out
                      go_wp2_with (at_builtin; refine wpList_append_own _ rfl (.tmp 116) (.tmp 121) 22 rfl wy.heap.size 3 i0 (.int .i64 0) 1 8 Try.underlying22 hi hz0 hz1 hz2 rfl (by decide) _ _ _ rfl (hown.alloc _) ⟨w5.heap.size, 0, none⟩ 1 1 [.int .i64 z] rfl rfl ?_ ?_ ?_ ?_ ?_ ?_)
                      any_goals (first | (intro j u hj; rcases j with _ | j; (simp only [List.getElem?_cons_zero, Option.some.injEq] at hj; subst hj; rw [show (⟨w5.heap.size, 0, none⟩ : Addr).add 0 = ⟨w5.heap.size, 0, none⟩ by simp [Addr.add]]; exact cell_new1 _ _ _); (simp at hj; done)) | (simp [Value.oneCell']; done) | (have := HLEN.out; unfold maxLen; omega) | (have := HLEN.out; omega) | (have := F.out.size; simp; omega))
                      intro v' w7 hown7 hgrow7 _
                      have F7 := Lib.hid (show Fr no wy w7 from (F.out.alloc _).grown hgrow7 (fun j hj => .inr (by have := own_geN hown j hj; omega)))
                      have HO7 := Lib.hid (show RowI wy.heap.size w7 v' (L ++ [z]) by
                        unfold RowI Ints
                        rw [List.length_append, List.map_append]
                        exact hown7)
                      clear hown7 hgrow7 hown
                      go_wp2_with fail
                      go_roundw
                      case rel => exact ⟨k2 + 1, by omega, by go_num, by rw [HFS.out]; simpa using HO7, F7⟩
                      case measure => simp [intOf]; omega
                    · cases Bq
                      · have hz : wq z = false := by rw [HPZ]; rfl
                        rw [hz] at HFS
                        have KB1 := Lib.hid KB1
                        have KK1 := Lib.hid KK1
                        clear hz HPZ
                        go_wp2_with fail
                        refine (KB1.out _ (HY.out.kept FZ.out)).mono ?_
                        rintro e w5 ⟨rfl, rfl⟩
                        go_wp2_with fail
                        refine (KK1.out _ (HK3.out.kept F.out)).mono ?_
                        rintro e w5 ⟨rfl, rfl⟩
                        go_wp2_with fail
                        go_roundw
                        case rel => exact ⟨k2 + 1, by omega, by go_num, by rw [HFS.out]; simpa using O, F⟩
                        case measure => simp [intOf]; omega
                      · have hz : wq z = true := by rw [HPZ]; rfl
                        rw [hz] at HFS
                        have KB1 := Lib.hid KB1
                        have KK1 := Lib.hid KK1
                        clear hz HPZ
                        go_wp2_with fail
                        refine (KB1.out _ (HY.out.kept FZ.out)).mono ?_
                        rintro e w5 ⟨rfl, rfl⟩
                        go_wp2_with fail
                        refine (KK1.out _ (HK3.out.kept F.out)).mono ?_
                        rintro e w5 ⟨rfl, rfl⟩
                        have hown : World.ownsRow w5 wy.heap.size 3 1 (.slice sa L.length sc) L.length (Ints L) := O.out
                        go_wp2_with (at_builtin; refine wpList_append_own _ rfl (.tmp 116) (.tmp 121) 22 rfl wy.heap.size 3 i0 (.int .i64 0) 1 8 Try.underlying22 hi hz0 hz1 hz2 rfl (by decide) _ _ _ rfl (hown.alloc _) ⟨w5.heap.size, 0, none⟩ 1 1 [.int .i64 z] rfl rfl ?_ ?_ ?_ ?_ ?_ ?_)
                        any_goals (first | (intro j u hj; rcases j with _ | j; (simp only [List.getElem?_cons_zero, Option.some.injEq] at hj; subst hj; rw [show (⟨w5.heap.size, 0, none⟩ : Addr).add 0 = ⟨w5.heap.size, 0, none⟩ by simp [Addr.add]]; exact cell_new1 _ _ _); (simp at hj; done)) | (simp [Value.oneCell']; done) | (have := HLEN.out; unfold maxLen; omega) | (have := HLEN.out; omega) | (have := F.out.size; simp; omega))
                        intro v' w7 hown7 hgrow7 _
                        have F7 := Lib.hid (show Fr no wy w7 from (F.out.alloc _).grown hgrow7 (fun j hj => .inr (by have := own_geN hown j hj; omega)))
                        have HO7 := Lib.hid (show RowI wy.heap.size w7 v' (L ++ [z]) by
                          unfold RowI Ints
                          rw [List.length_append, List.map_append]
                          exact hown7)
                        clear hown7 hgrow7 hown
                        go_wp2_with fail
                        go_roundw
                        case rel => exact ⟨k2 + 1, by omega, by go_num, by rw [HFS.out]; simpa using HO7, F7⟩
                        case measure => simp [intOf]; omega
                  · have HV := Lib.hid (show chs.take k2 = chs from List.take_of_length_le (by have := HXL.out; omega))
                    go_wp2_with fail
                    go_ret2
                    refine ⟨_, rfl, ?_, FX.out.noTrans F.out⟩
                    rw [HWI.out]
                    have ho := O.out.mono HSW.out
                    rw [HV.out] at ho ⊢
                    exact ho
            · have HKE := Lib.hid (HEND.out (.inl hlt))
              clear HEND
              obtain ⟨wy, rfl⟩ : ∃ x, x = wr := ⟨_, rfl⟩
              go_wp2_with fail
              obtain ⟨W3, hW3⟩ : ∃ W3, W3 = wy.alloc (.cells #[] 3 (0, 0)) := ⟨_, rfl⟩
              have F3 := Lib.hid (show Fr no w W3 by rw [hW3]; exact FX.out.alloc _)
              have F13 := Lib.hid (show Fr no wy W3 by rw [hW3]; exact (Fr.refl no wy).alloc _)
              have HK3 := Lib.hid HRI.out
              have HR3 := Lib.hid (show RowI wy.heap.size W3 (.slice (some ⟨wy.heap.size, 0, none⟩) 0 0) [] by rw [hW3]; exact World.ownsRow_made wy #[] 0 (Nat.le_refl _) (Nat.zero_le _) (by simp))
              have HSW := Lib.hid (show w.heap.size ≤ wy.heap.size from FX.out.size)
              have HBASE := Lib.hid (show wy.heap.size ≤ W3.heap.size by rw [hW3]; simp)
              rw [← hW3]
              clear hW3
              have KK := Lib.hid (fun x y h => hasR_any ra rn rc l x y h (by have := HRN.out; omega))
              have HP := Lib.hid (show ∀ c, wq c = (!hasZ bl c || hasZ l c) from fun c => by rw [HWQ.out, HKE.out])
              go_loopw [13, 14] (fun v13 i wz => ∃ k : Nat, k ≤ al ∧ i = .int .i64 k ∧ Hid (RowI wy.heap.size wz v13 ((chs.take k).filter wq)) ∧ Hid (Fr no wy wz)) (fun _ i _ => al - (intOf i).toNat)
              case atStart => exact ⟨0, Nat.zero_le _, rfl, by simpa using HR3, F13⟩
              case round =>
                obtain ⟨k2, hk2, rfl, O, F⟩ := hrel
                obtain ⟨sa, sc, rfl, -, -⟩ := rowI_ints O.out
                by_cases hlt2 : k2 < al
                · obtain ⟨b, off, rfl, e0⟩ := HX.out.2 k2 hlt2
                  have FZ := Lib.hid (FX.out.noTrans F.out)
                  have e1 := FZ.out.keepc e0
                  have hkI2 : (k2 : Int) ≤ 15 := by have := HAL.out; omega
                  have HFS := Lib.hid (filt_snoc wq chs k2 (by have := HXL.out; omega))
                  have HLEN := Lib.hid (show ((chs.take k2).filter wq).length ≤ 16 from Nat.le_trans (List.length_filter_le _ _) (by have := HXL.out; have := HAL.out; simp; omega))
                  have HPC := Lib.hid (fun z => HP.out z)
                  clear e0
                  generalize (chs.take k2).filter wq = L at *
                  generalize chs.getD k2 0 = z at *
                  have KB1 := KB.out z
                  have KK1 := KK.out z
                  have HPZ := HPC.out z
                  generalize hasZ bl z = A at *
                  generalize hasZ l z = Bq at *
                  cases A
                  · have hz : wq z = true := by rw [HPZ]; rfl
                    rw [hz] at HFS
                    have KB1 := Lib.hid KB1
                    clear hz HPZ KK1
                    go_wp2_with fail
                    refine (KB1.out _ (HY.out.kept FZ.out)).mono ?_
                    rintro e w5 ⟨rfl, rfl⟩
                    have hown : World.ownsRow w5 wy.heap.size 3 1 (.slice sa L.length sc) L.length (Ints L) := O.out
                    go_wp2_with (at_builtin; refine wpList_append_own _ rfl (.tmp 116) (.tmp 121) 22 rfl wy.heap.size 3 i0 (.int .i64 0) 1 8 Try.underlying22 hi hz0 hz1 hz2 rfl (by decide) _ _ _ rfl (hown.alloc _) ⟨w5.heap.size, 0, none⟩ 1 1 [.int .i64 z] rfl rfl ?_ ?_ ?_ ?_ ?_ ?_)
                    any_goals (first | (intro j u hj; rcases j with _ | j; (simp only [List.getElem?_cons_zero, Option.some.injEq] at hj; subst hj; rw [show (⟨w5.heap.size, 0, none⟩ : Addr).add 0 = ⟨w5.heap.size, 0, none⟩ by simp [Addr.add]]; exact cell_new1 _ _ _); (simp at hj; done)) | (simp [Value.oneCell']; done) | (have := HLEN.out; unfold maxLen; omega) | (have := HLEN.out; omega) | (have := F.out.size; simp; omega))
                    intro v' w7 hown7 hgrow7 _
                    have F7 := Lib.hid (show Fr no wy w7 from (F.out.alloc _).grown hgrow7 (fun j hj => .inr (by have := own_geN hown j hj; omega)))
                    have HO7 := Lib.hid (show RowI wy.heap.size w7 v' (L ++ [z]) by
                      unfold RowI Ints
                      rw [List.length_append, List.map_append]
                      exact hown7)
                    clear hown7 hgrow7 hown
                    go_wp2_with fail
                    go_roundw
                    case rel => exact ⟨k2 + 1, by omega, by go_num, by rw [HFS.out]; simpa using HO7, F7⟩
                    case measure => simp [intOf]; omega
                  · cases Bq
                    · have hz : wq z = false := by rw [HPZ]; rfl
                      rw [hz] at HFS
                      have KB1 := Lib.hid KB1
                      have KK1 := Lib.hid KK1
                      clear hz HPZ
                      go_wp2_with fail
                      refine (KB1.out _ (HY.out.kept FZ.out)).mono ?_
                      rintro e w5 ⟨rfl, rfl⟩
                      go_wp2_with fail
                      refine (KK1.out _ (HK3.out.kept F.out)).mono ?_
                      rintro e w5 ⟨rfl, rfl⟩
                      go_wp2_with fail
                      go_roundw
                      case rel => exact ⟨k2 + 1, by omega, by go_num, by rw [HFS.out]; simpa using O, F⟩
                      case measure => simp [intOf]; omega
                    · have hz : wq z = true := by rw [HPZ]; rfl
                      rw [hz] at HFS
                      have KB1 := Lib.hid KB1
                      have KK1 := Lib.hid KK1
                      clear hz HPZ
                      go_wp2_with fail
                      refine (KB1.out _ (HY.out.kept FZ.out)).mono ?_
                      rintro e w5 ⟨rfl, rfl⟩
                      go_wp2_with fail
                      refine (KK1.out _ (HK3.out.kept F.out)).mono ?_
                      rintro e w5 ⟨rfl, rfl⟩
                      have hown : World.ownsRow w5 wy.heap.size 3 1 (.slice sa L.length sc) L.length (Ints L) := O.out
                      go_wp2_with (at_builtin; refine wpList_append_own _ rfl (.tmp 116) (.tmp 121) 22 rfl wy.heap.size 3 i0 (.int .i64 0) 1 8 Try.underlying22 hi hz0 hz1 hz2 rfl (by decide) _ _ _ rfl (hown.alloc _) ⟨w5.heap.size, 0, none⟩ 1 1 [.int .i64 z] rfl rfl ?_ ?_ ?_ ?_ ?_ ?_)
                      any_goals (first | (intro j u hj; rcases j with _ | j; (simp only [List.getElem?_cons_zero, Option.some.injEq] at hj; subst hj; rw [show (⟨w5.heap.size, 0, none⟩ : Addr).add 0 = ⟨w5.heap.size, 0, none⟩ by simp [Addr.add]]; exact cell_new1 _ _ _); (simp at hj; done)) | (simp [Value.oneCell']; done) | (have := HLEN.out; unfold maxLen; omega) | (have := HLEN.out; omega) | (have := F.out.size; simp; omega))
                      intro v' w7 hown7 hgrow7 _
                      have F7 := Lib.hid (show Fr no wy w7 from (F.out.alloc _).grown hgrow7 (fun j hj => .inr (by have := own_geN hown j hj; omega)))
                      have HO7 := Lib.hid (show RowI wy.heap.size w7 v' (L ++ [z]) by
                        unfold RowI Ints
                        rw [List.length_append, List.map_append]
                        exact hown7)
                      clear hown7 hgrow7 hown
                      go_wp2_with fail
                      go_roundw
                      case rel => exact ⟨k2 + 1, by omega, by go_num, by rw [HFS.out]; simpa using HO7, F7⟩
                      case measure => simp [intOf]; omega
                · have HV := Lib.hid (show chs.take k2 = chs from List.take_of_length_le (by have := HXL.out; omega))
                  go_wp2_with fail
                  go_ret2
                  refine ⟨_, rfl, ?_, FX.out.noTrans F.out⟩
                  rw [HWI.out]
                  have ho := O.out.mono HSW.out
                  rw [HV.out] at ho ⊢
                  exact ho

end Go.Proofs.Ytpaoacdgmfaolaa
