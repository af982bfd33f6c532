/- Lists of channels. -/
import Derived.Test.YtpaoacdgmfaolaaLis
import Derived.BigQuiet
namespace Go.Proofs.Ytpaoacdgmfaolaa
set_option linter.unusedVariables false
open Go.RowKit


theorem within_any (n a b : Int) (w : World) : Calls Try.prog 43 #[.int .i64 n, .int .i64 a, .int .i64 b] w fun e w' => e = .returned (.bool (inR n a b)) ∧ w' = w := by
  by_cases h1 : a ≤ n
  · have HR := Lib.hid (show inR n a b = decide (n ≤ b) by simp [inR, h1])
    go_enter Try.func43, Try.ntmps43
    go_wp2_with fail
    go_ret
    rw [HR.out]
    exact ⟨rfl, rfl⟩
  · have HR := Lib.hid (show inR n a b = false by simp [inR, h1])
    have h3 : n < a := by omega
    clear h1
    go_enter Try.func43, Try.ntmps43
    go_wp2_with fail
    go_ret
    rw [HR.out]
    exact ⟨rfl, rfl⟩
theorem isVersion_any (n : Int) (w : World) : Calls Try.prog 37 #[.int .i64 n] w fun e w' => e = .returned (.bool (inR n 0 255)) ∧ w' = w := by
  go_enter Try.func37, Try.ntmps37
  go_wp2_with fail
  refine (within_any n 0 255 _).mono ?_
  rintro e w' ⟨rfl, rfl⟩
  go_wp2_with fail
  go_ret
  exact ⟨rfl, rfl⟩
theorem isChannel_any (n : Int) (w : World) : Calls Try.prog 55 #[.int .i64 n] w fun e w' => e = .returned (.bool (isC n)) ∧ w' = w := by
  go_enter Try.func55, Try.ntmps55
  go_wp2_with fail
  refine (within_any n 0 15 _).mono ?_
  rintro e w' ⟨rfl, rfl⟩
  go_wp2_with fail
  go_ret
  exact ⟨rfl, rfl⟩
def seenF (zs : List Int) (k : Nat) : Nat → Bool := fun d => hasZ (zs.take k) (d : Int)
theorem seen_0 (zs : List Int) : seenF zs 0 = fun _ => false := by funext d; simp [seenF, hasZ]
theorem seen_put (zs : List Int) (k m : Nat) (hk : k < zs.length) (hm : zs.getD k 0 = (m : Int)) : (fun d : Nat => if d == m then true else seenF zs k d) = seenF zs (k + 1) := by
  funext d
  simp only [seenF, hasZ_snoc zs k hk, hm]
  by_cases e : d = m
  · simp [e]
  · have e1 : (d == m) = false := by simpa using e
    have e2 : ((m : Int) == (d : Int)) = false := by simp; omega
    rw [e1, e2]; simp
set_option maxHeartbeats 8000000 in
theorem areChannels_any (ao : Option Addr) (len cap : Nat) (zs : List Int) (w : World) (hz : IntsIn w ao len zs) (hl : len ≤ 100) :
    Calls Try.prog 38 #[.slice ao len cap] w fun e w' => e = .returned (.bool (chB zs)) ∧ Fr no w w' := by
  have HZ := Lib.hid hz
  have hzl := hz.1
  have HZL := Lib.hid hzl
  have HI := Lib.hid (fun w => within_any (len : Int) 1 16 w)
  have HE := Lib.hid (show chB zs = (inR (len : Int) 1 16 && pre zs zs.length) by unfold chB; rw [hzl])
  clear hz hzl
  cases hin : inR (len : Int) 1 16
  · rw [hin] at HI HE
    have HR := Lib.hid (show chB zs = false by rw [HE.out]; rfl)
    clear hin HE
    go_enter Try.func38, Try.ntmps38
    go_wp2_with fail
    refine (HI.out _).mono ?_
    rintro e w1 ⟨rfl, rfl⟩
    go_wp2_with fail
    go_ret
    rw [HR.out]
    exact ⟨rfl, Fr.refl no _⟩
  · rw [hin] at HI HE
    have HR := Lib.hid (show chB zs = pre zs zs.length by rw [HE.out]; rfl)
    have HL := Lib.hid (inR_t.1 hin)
    clear hin HE hl
    go_enter Try.func38, Try.ntmps38
    go_wp2_with fail
    refine (HI.out _).mono ?_
    rintro e w1 ⟨rfl, rfl⟩
    go_wp2_with fail
    obtain ⟨W, hW⟩ : ∃ W, W = w1.alloc (.cells #[.bool false, .bool false, .bool false, .bool false, .bool false, .bool false, .bool false, .bool false, .bool false, .bool false, .bool false, .bool false, .bool false, .bool false, .bool false, .bool false] 65 (0, 0)) := ⟨_, rfl⟩
    have bR : W.heap[w1.heap.size]? = some (.cells (flA (fun _ => false)) 65 (0, 0)) := by rw [hW, flA_no]; exact heap_alloc_new w1 _
    have hF : Fr no w1 W := by rw [hW]; exact (Fr.refl no w1).alloc _
    rw [← hW]
    have HF := Lib.hid hF
    have HB := Lib.hid bR
    have HZ1 := Lib.hid (HZ.out.kept hF)
    clear hF bR hW
    go_loopw [5, 12] (fun _ i wr => ∃ k : Nat, k ≤ len ∧ i = .int .i64 k ∧ Hid (pre zs k = true) ∧ Hid (wr.heap[w1.heap.size]? = some (.cells (flA (seenF zs k)) 65 (0, 0))) ∧ Hid (Fr (only w1.heap.size) W wr)) (fun _ i _ => len - (intOf i).toNat)
    case atStart => exact ⟨0, Nat.zero_le _, rfl, Lib.hid (pre_0 zs), Lib.hid (by rw [seen_0]; exact HB.out), Lib.hid (Fr.refl _ _)⟩
    case round =>
      obtain ⟨k, hk, rfl, HP, HBk, HFk⟩ := hrel
      have HFX := Lib.hid (show Fr no w1 wr from HF.out.trans HFk.out (fun i hi h => by simp only [only] at h; omega))
      by_cases hlt : k < len
      · obtain ⟨b, off, rfl, e0⟩ := HZ.out.2 k hlt
        have e1 := HFX.out.keepc e0
        have HLB := Lib.hid (World.block_lt_of_cell? _ _ e0)
        have hkI : (k : Int) ≤ 15 := by have := HL.out; omega
        have HS := Lib.hid (pre_succ zs k (by have := HZL.out; omega))
        have HX := Lib.hid (show seenF zs k = fun d : Nat => hasZ (zs.take k) (d : Int) from rfl)
        have HN := Lib.hid (fun (m : Nat) (hm : zs.getD k 0 = (m : Int)) => seen_put zs k m (by have := HZL.out; omega) hm)
        rw [HP.out, Bool.true_and] at HS
        have HDN := Lib.hid (fun h => pre_down zs zs.length (Nat.le_refl _) (k + 1) (by have := HZL.out; omega) h)
        clear e0
        generalize zs.getD k 0 = z at *
        have HK := isChannel_any z
        cases hc : isC z
        · rw [hc] at HK HS
          have HV := Lib.hid (show chB zs = false by rw [HR.out]; exact HDN.out HS.out)
          have HK := Lib.hid HK
          clear hc
          go_wp2_with fail
          refine (HK.out _).mono ?_
          rintro e w3 ⟨rfl, rfl⟩
          go_wp2_with fail
          go_ret
          rw [HV.out]
          exact ⟨rfl, HFX.out⟩
        · rw [hc, Bool.true_and] at HS
          rw [hc] at HK
          have HK := Lib.hid HK
          have hin := inR_t.1 hc
          obtain ⟨m, rfl⟩ := Int.eq_ofNat_of_zero_le hin.1
          have hm16 : m < 16 := by omega
          have hmI : (m : Int) < 16 := by omega
          obtain ⟨v0, v1⟩ := fl_cell HBk.out m hm16
          have HS2 := Lib.hid (by have := three_set HBk.out m (.bool true); rw [flA_put _ m hm16] at this; exact this)
          have HN := Lib.hid (HN.out m rfl)
          rw [HX.out] at v0
          dsimp only at v0
          have HHX := Lib.hid (show seenF zs k m = hasZ (zs.take k) (m : Int) from rfl)
          clear hc hin
          cases hq : hasZ (zs.take k) (m : Int)
          · rw [hq] at v0 HS
            have HPN := Lib.hid (show pre zs (k + 1) = true from HS.out)
            clear hq HS
            go_wp2_with fail
            refine (HK.out _).mono ?_
            rintro e w3 ⟨rfl, rfl⟩
            go_wp2_with fail
            go_roundw
            case rel => exact ⟨k + 1, by omega, by go_num, HPN, Lib.hid (by rw [← HN.out]; exact HS2.out), Lib.hid (HFk.out.setCell (p := ⟨w1.heap.size, m, none⟩) (.inl rfl) _)⟩
            case measure => simp [intOf]; omega
          · rw [hq] at v0 HS
            have HV := Lib.hid (show chB zs = false by rw [HR.out]; exact HDN.out HS.out)
            clear hq HS
            go_wp2_with fail
            refine (HK.out _).mono ?_
            rintro e w3 ⟨rfl, rfl⟩
            go_wp2_with fail
            go_ret
            rw [HV.out]
            exact ⟨rfl, HFX.out⟩
      · have HV := Lib.hid (show chB zs = true by rw [HR.out, ← HP.out]; congr 1; have := HZL.out; omega)
        go_wp2_with fail
        go_ret
        rw [HV.out]
        exact ⟨rfl, HFX.out⟩

end Go.Proofs.Ytpaoacdgmfaolaa
