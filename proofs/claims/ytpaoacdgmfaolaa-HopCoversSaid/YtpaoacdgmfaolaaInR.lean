/- The document: InForce. -/
import Derived.Test.YtpaoacdgmfaolaaInF
import Derived.Test.YtpaoacdgmfaolaaCaR
namespace Go.Proofs.Ytpaoacdgmfaolaa
set_option linter.unusedVariables false
open Go.RowKit


set_option maxRecDepth 20000 in
set_option maxHeartbeats 16000000 in
theorem inForceR_any (ao : Option Addr) (len cap : Nat) (xs : List Hv) (s : Int) (w : World) (h : HvsIn w ao len xs) (hl : len ≤ 100) (hc : FewC len xs) :
    Calls Try.prog 21 #[.slice ao len cap, .int .i64 s] w fun e w' => IfRes w w' (ifV xs s) (ifE xs s) e := by
  obtain ⟨W, hW⟩ : ∃ W, W = w.alloc (.cells #[.int .i64 0, .int .i64 0, .int .i64 0, .slice none 0 0] 24 (0, 0)) := ⟨_, rfl⟩
  have hF : Fr no w W := by rw [hW]; exact (Fr.refl no w).alloc _
  have hR : W.heap[w.heap.size]? = some (.cells #[.int .i64 0, .int .i64 0, .int .i64 0, .slice none 0 0] 24 (0, 0)) := by rw [hW]; exact heap_alloc_new w _
  have HF := Lib.hid hF
  have HW := Lib.hid hW
  have HR := Lib.hid hR
  have H0 := Lib.hid h
  have HX := Lib.hid (h.kept hF)
  have HXL := Lib.hid h.1
  have HL := Lib.hid hl
  have HC := Lib.hid hc
  have KC := Lib.hid (checkAllR_any ao len cap xs W (h.kept hF) hl hc)
  have HIE := Lib.hid (show ifE xs s = if caE xs ≠ 0 then caE xs else if (xs.find? (ifP s)).isSome then 0 else 7 from rfl)
  have HIV := Lib.hid (show ifV xs s = if caE xs ≠ 0 then z0 else (xs.find? (ifP s)).getD z0 from rfl)
  clear h hl hc hF hR hW
  generalize caE xs = E at *
  go_enter Try.func21, Try.ntmps21
  go_wp2_with fail
  rw [← HW.out]
  refine KC.out.mono ?_
  rintro e w1 ⟨rfl, f1⟩
  have F1 := Lib.hid f1
  have HR1 := Lib.hid (f1.blk HR.out (fun h => h))
  clear f1
  by_cases hE : E = 0
  · subst hE
    replace HIE := Lib.hid (show ifE xs s = if (xs.find? (ifP s)).isSome then 0 else 7 by rw [HIE.out]; simp)
    replace HIV := Lib.hid (show ifV xs s = (xs.find? (ifP s)).getD z0 by rw [HIV.out]; simp)
    go_wp2_with fail
    obtain ⟨w9, hw9⟩ : ∃ w9, w9 = w1 := ⟨_, rfl⟩
    go_loopw [7] (fun i wr => ∃ k : Nat, k ≤ len ∧ i = .int .i64 k ∧ Hid (NoneTo s xs k) ∧ wr = w9) (fun i _ => len - (intOf i).toNat)
    case atStart => exact ⟨0, Nat.zero_le _, rfl, Lib.hid (fun i hi => by omega), hw9.symm⟩
    case round =>
      obtain ⟨k, hk, rfl, I, rfl⟩ := hrel
      subst hw9
      by_cases hlt : k < len
      · have hkI : (k : Int) ≤ 99 := by have := HL.out; omega
        obtain ⟨b, off, ca, ck, rfl, hI, -, e0, e1, e2, e3⟩ := H0.out.2 k hlt
        have HI0 := Lib.hid hI
        have HLB := Lib.hid (World.block_lt_of_cell? _ _ e0)
        have FX := Lib.hid (HF.out.noTrans F1.out)
        replace e0 := FX.out.keepc e0
        replace e1 := FX.out.keepc e1
        replace e2 := FX.out.keepc e2
        replace e3 := FX.out.keepc e3
        have HIP := Lib.hid (show ifP s (hvAt xs k) = (decide ((hvAt xs k).f ≤ s) && decide (s < (hvAt xs k).u)) from rfl)
        have HNX := Lib.hid (show ifP s (hvAt xs k) = false → NoneTo s xs (k + 1) from fun h i hi => by
          by_cases e : i = k
          · rw [e]; exact h
          · exact I.out i (by omega))
        have HFA := Lib.hid (fun h => find_at (by have := HXL.out; omega) I.out h)
        clear hI
        generalize hvAt xs k = x at *
        by_cases hp1 : x.f ≤ s
        · have hd1 : decide (x.f ≤ s) = true := decide_eq_true hp1
          by_cases hp2 : s < x.u
          · have hd2 : decide (s < x.u) = true := decide_eq_true hp2
            have HFN := HFA.out (by rw [HIP.out, hd1, hd2]; rfl)
            have HV1 := Lib.hid (show ifE xs s = 0 by rw [HIE.out, HFN]; rfl)
            have HV2 := Lib.hid (show ifV xs s = x by rw [HIV.out, HFN]; rfl)
            have HRX := Lib.hid HR1.out
            have hbR : b ≠ w.heap.size := by have : b < w.heap.size := HLB.out; omega
            have hRb : w.heap.size ≠ b := fun h => hbR h.symm
            obtain ⟨y0, y1, y2, y3⟩ := four_cells HRX.out
            obtain ⟨g0, g1, g2, g3⟩ := four_frz HRX.out
            generalize hn : x.chs.length = n at *
            have HN := Lib.hid hn
            clear HFN hn
            go_wp2_with fail
            obtain ⟨q0, q1, q2, q3⟩ := four_cells (set_four HRX.out (.int .i64 x.v) (.int .i64 x.f) (.int .i64 x.u) (.slice ca n ck))
            refine bodyPost_ret (v := .tuple #[.agg #[.int .i64 x.v, .int .i64 x.f, .int .i64 x.u, .slice ca n ck], .int .i64 0]) (by simp [results, Try.results21, go_sem, q0, q1, q2, q3]) rfl ?_
            rw [HV1.out, HV2.out]
            refine ⟨ca, ck, by rw [HN.out], ?_, set_four_fr FX.out (Nat.le_refl _) _ _ _ _⟩
            rw [HN.out]
            exact HI0.out.kept (set_four_fr FX.out (Nat.le_refl _) _ _ _ _)
          · have hd2 : decide (s < x.u) = false := decide_eq_false hp2
            have HJ := Lib.hid (HNX.out (by rw [HIP.out, hd1, hd2]; rfl))
            go_wp2_with fail
            go_roundw
            case rel => exact ⟨k + 1, by omega, by go_num, HJ, by simp⟩
            case measure => simp [intOf]; omega
        · have hd1 : decide (x.f ≤ s) = false := decide_eq_false hp1
          have HJ := Lib.hid (HNX.out (by rw [HIP.out, hd1]; rfl))
          go_wp2_with fail
          go_roundw
          case rel => exact ⟨k + 1, by omega, by go_num, HJ, by simp⟩
          case measure => simp [intOf]; omega
      · have HFN := find_no (s := s) (xs := xs) (by rw [show xs.length = k by have := HXL.out; omega]; exact I.out)
        have HV1 := Lib.hid (show ifE xs s = 7 by rw [HIE.out, HFN]; rfl)
        have HV2 := Lib.hid (show ifV xs s = z0 by rw [HIV.out, HFN]; rfl)
        have HRX := Lib.hid HR1.out
        have FX := Lib.hid (HF.out.noTrans F1.out)
        obtain ⟨y0, y1, y2, y3⟩ := four_cells HRX.out
        obtain ⟨g0, g1, g2, g3⟩ := four_frz HRX.out
        clear HFN
        go_wp2_with fail
        obtain ⟨q0, q1, q2, q3⟩ := four_cells (set_four HRX.out (.int .i64 0) (.int .i64 0) (.int .i64 0) (.slice none 0 0))
        refine bodyPost_ret (v := .tuple #[.agg #[.int .i64 0, .int .i64 0, .int .i64 0, .slice none 0 0], .int .i64 7]) (by simp [results, Try.results21, go_sem, q0, q1, q2, q3]) rfl ?_
        rw [HV1.out, HV2.out]
        exact ⟨none, 0, rfl, nil_ints _, set_four_fr FX.out (Nat.le_refl _) _ _ _ _⟩
  · have HV1 := Lib.hid (show ifE xs s = E by rw [HIE.out, if_pos hE])
    have HV2 := Lib.hid (show ifV xs s = z0 by rw [HIV.out, if_pos hE])
    have HRX := Lib.hid HR1.out
    have FX := Lib.hid (HF.out.noTrans F1.out)
    have hE1 : (E == 0) = false := by simpa using hE
    have hE2 : decide (E = 0) = false := by simpa using hE
    obtain ⟨y0, y1, y2, y3⟩ := four_cells HRX.out
    obtain ⟨g0, g1, g2, g3⟩ := four_frz HRX.out
    go_wp2_with fail
    obtain ⟨q0, q1, q2, q3⟩ := four_cells (set_four HRX.out (.int .i64 0) (.int .i64 0) (.int .i64 0) (.slice none 0 0))
    refine bodyPost_ret (v := .tuple #[.agg #[.int .i64 0, .int .i64 0, .int .i64 0, .slice none 0 0], .int .i64 E]) (by simp [results, Try.results21, go_sem, q0, q1, q2, q3]) rfl ?_
    rw [HV1.out, HV2.out]
    exact ⟨none, 0, rfl, nil_ints _, set_four_fr FX.out (Nat.le_refl _) _ _ _ _⟩

end Go.Proofs.Ytpaoacdgmfaolaa
