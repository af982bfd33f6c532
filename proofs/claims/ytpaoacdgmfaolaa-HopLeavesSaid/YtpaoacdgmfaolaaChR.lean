/- The document: different channels. -/
import Derived.Test.YtpaoacdgmfaolaaChk
import Derived.Test.YtpaoacdgmfaolaaLsm
import Derived.BigQuiet
namespace Go.Proofs.Ytpaoacdgmfaolaa
set_option linter.unusedVariables false
open Go.RowKit


theorem channelC_any (n : Int) (w : World) : Calls Try.prog 49 #[.int .i64 n] w fun e w' => e = .returned (.bool (isC n)) ∧ w' = w := by
  by_cases h1 : 0 ≤ n
  · have HR := Lib.hid (show isC n = decide (n < 16) by
      unfold isC inR
      rw [decide_eq_true h1, Bool.true_and]
      rw [Bool.eq_iff_iff, decide_eq_true_eq, decide_eq_true_eq]; omega)
    go_enter Try.func49, Try.ntmps49
    go_wp2_with fail
    go_ret
    rw [HR.out]
    exact ⟨rfl, rfl⟩
  · have HR := Lib.hid (show isC n = false by unfold isC inR; rw [decide_eq_false h1]; rfl)
    have h3 : n < 0 := by omega
    clear h1
    go_enter Try.func49, Try.ntmps49
    go_wp2_with fail
    go_ret
    rw [HR.out]
    exact ⟨rfl, rfl⟩
theorem ints_take {w : World} {ao : Option Addr} {len : Nat} {zs : List Int} (h : IntsIn w ao len zs) (k : Nat) (hk : k ≤ len) : IntsIn w ao k (zs.take k) := ⟨by simp [h.1]; omega, fun i hi => by
  obtain ⟨b, off, ha, hc⟩ := h.2 i (by omega)
  refine ⟨b, off, ha, ?_⟩
  rw [hc]
  simp [List.getD_eq_getElem?_getD, hi]⟩
set_option maxHeartbeats 8000000 in
theorem different_any (ao : Option Addr) (len cap : Nat) (zs : List Int) (w : World) (hz : IntsIn w ao len zs) (hl : len ≤ 100) (hlc : len ≤ cap) :
    Calls Try.prog 39 #[.slice ao len cap] w fun e w' => e = .returned (.bool (chB zs)) ∧ Fr no w w' := by
  have HZ := Lib.hid hz
  have HZL := Lib.hid hz.1
  have HL := Lib.hid hl
  have HLC := Lib.hid hlc
  have HR := Lib.hid (show chB zs = (decide (1 ≤ len) && pre zs zs.length) by rw [chB_doc, hz.1])
  clear hz hl hlc
  go_enter Try.func39, Try.ntmps39
  go_wp2_with fail
  go_loopw [3] (fun i wr => ∃ k : Nat, k ≤ len ∧ i = .int .i64 k ∧ Hid (pre zs k = true) ∧ Hid (Fr no w wr)) (fun i _ => len - (intOf i).toNat)
  case atStart => exact ⟨0, Nat.zero_le _, rfl, Lib.hid (pre_0 zs), Lib.hid (Fr.refl _ _)⟩
  case round =>
    obtain ⟨k, hk, rfl, HP, F⟩ := hrel
    by_cases hlt : k < len
    · obtain ⟨b, off, rfl, e0⟩ := HZ.out.2 k hlt
      have e1 := F.out.keepc e0
      have hkI : (k : Int) ≤ 99 := by have := HL.out; omega
      have HS := Lib.hid (pre_succ zs k (by have := HZL.out; omega))
      have HDN := Lib.hid (fun h => pre_down zs zs.length (Nat.le_refl _) (k + 1) (by have := HZL.out; omega) h)
      rw [HP.out, Bool.true_and] at HS
      have KH := Lib.hid (fun (q : Nat) x => hasR_any (some ⟨b, off, none⟩) k cap (zs.take k) x (wr.drewN q) ((ints_take (HZ.out.kept F.out) k (by omega)).kept ((Fr.refl no wr).drewN q)) (by have := HL.out; omega))
      have hkc : k ≤ cap := by have := HLC.out; omega
      have hkcI : (k : Int) ≤ (cap : Int) := by omega
      have hc0 : (cap == 0) = false := by have := HLC.out; simp; omega
      have hc0' : ¬ (cap = 0) := by have := HLC.out; omega
      clear e0
      generalize zs.getD k 0 = z at *
      have HK := channelC_any z
      cases hc : isC z
      · rw [hc] at HK HS
        have HV := Lib.hid (show chB zs = false by rw [HR.out, HDN.out HS.out]; simp)
        have HK := Lib.hid HK
        clear hc
        go_wp2_with fail
        go_quiet ((go_at_call 49; refine Calls.quiet_of_same (HK.out _)))
        go_wp2_with fail
        go_ret
        rw [HV.out]
        exact ⟨rfl, F.out.drewN _⟩
      · rw [hc, Bool.true_and] at HS
        rw [hc] at HK
        have HK := Lib.hid HK
        have KH := Lib.hid (fun q => KH.out q z)
        clear hc
        cases hq : hasZ (zs.take k) z
        · rw [hq] at KH HS
          have HPN := Lib.hid (show pre zs (k + 1) = true from HS.out)
          clear hq HS
          go_wp2_with fail
          go_quiet (first | (go_at_call 49; refine Calls.quiet_of_same (HK.out _)) | (go_at_call 50; refine Calls.quiet_of_same (KH.out _)))
          go_wp2_with fail
          go_roundw
          case rel => exact ⟨k + 1, by omega, by go_num, HPN, Lib.hid (F.out.drewN _)⟩
          case measure => simp [intOf]; omega
        · rw [hq] at KH HS
          have HV := Lib.hid (show chB zs = false by rw [HR.out, HDN.out HS.out]; simp)
          clear hq HS
          go_wp2_with fail
          go_quiet (first | (go_at_call 49; refine Calls.quiet_of_same (HK.out _)) | (go_at_call 50; refine Calls.quiet_of_same (KH.out _)))
          go_wp2_with fail
          go_ret
          rw [HV.out]
          exact ⟨rfl, F.out.drewN _⟩
    · have HV := Lib.hid (show chB zs = decide (1 ≤ len) by rw [HR.out, show zs.length = k by have := HZL.out; omega, HP.out]; simp)
      have HD := Lib.hid (show decide ((1 : Int) ≤ (len : Int)) = decide (1 ≤ len) by rw [Bool.eq_iff_iff]; simp; omega)
      go_wp2_with fail
      go_ret
      rw [HV.out, ← HD.out]
      exact ⟨by first | rfl | (simp; done) | (simp; rw [Bool.eq_iff_iff]; simp; omega), F.out⟩

end Go.Proofs.Ytpaoacdgmfaolaa
