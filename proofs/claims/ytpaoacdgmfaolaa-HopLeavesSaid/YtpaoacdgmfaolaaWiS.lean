/- The document: Without, all ways. -/
import Derived.Test.YtpaoacdgmfaolaaWiR
import Derived.Test.YtpaoacdgmfaolaaWia
namespace Go.Proofs.Ytpaoacdgmfaolaa
set_option linter.unusedVariables false
open Go.RowKit


set_option maxRecDepth 20000 in
set_option maxHeartbeats 8000000 in
theorem withoR_any (ao : Option Addr) (al ac : Nat) (chs : List Int) (bo : Option Addr) (bl_ bc : Nat) (bl : List Int) (least : Int) (w : World) (hx : IntsIn w ao al chs) (hy : IntsIn w bo bl_ bl) (hac : al ≤ ac) (ha : al ≤ 100) (hb : bl_ ≤ 100) :
    Calls Try.prog 27 #[.slice ao al ac, .slice bo bl_ bc, .int .i64 least] w fun e w' => WiRes w w' (wiV chs bl least) (wiE chs bl least) e := by
  have KA := different_any ao al ac chs w hx ha hac
  have HXL := Lib.hid hx.1
  have HYL := Lib.hid hy.1
  have HY := Lib.hid hy
  cases h1 : chB chs
  · have e1 : wiE chs bl least = 1 := by simp [wiE, h1]
    have e2 : wiV chs bl least = [] := by simp [wiV, e1]
    rw [h1] at KA
    rw [e1, e2]
    replace KA := Lib.hid KA
    clear e1 e2 h1 hx hy
    go_enter Try.func27, Try.ntmps27
    go_wp2_with fail
    refine KA.out.mono ?_
    rintro e w1 ⟨rfl, f1⟩
    have F1 := Lib.hid f1
    clear f1
    go_wp2_with fail
    go_ret2
    exact ⟨_, rfl, World.ownsRow_nil _ _ _ _, F1.out⟩
  · rw [h1] at KA
    replace KA := Lib.hid KA
    by_cases h64 : bl_ ≤ 64
    · have HBL := Lib.hid h64
      have hb64 : ¬ ((64 : Int) < (bl_ : Int)) := by omega
      have hb64d : decide ((64 : Int) < (bl_ : Int)) = false := decide_eq_false hb64
      have hd64 : decide (bl.length ≤ 64) = true := decide_eq_true (by have := HYL.out; omega)
      have HBB := Lib.hid (show bkB bl = bl.all isC by unfold bkB; rw [hd64]; rfl)
      clear hd64
      cases h2 : bkB bl
      · have e1 : wiE chs bl least = 1 := by simp [wiE, h2]
        have e2 : wiV chs bl least = [] := by simp [wiV, e1]
        rw [e1, e2]
        rw [h2] at HBB
        clear e1 e2 h1 h2 hx hy ha hb
        go_enter Try.func27, Try.ntmps27
        go_wp2_with fail
        refine KA.out.mono ?_
        rintro e w1 ⟨rfl, f1⟩
        have F1 := Lib.hid f1
        clear f1
        go_wp2_with fail
        clear hb64 hb64d
        obtain ⟨w9, hw9⟩ : ∃ w9, w9 = w1 := ⟨_, rfl⟩
        go_loopw [8] (fun i wr => ∃ k : Nat, k ≤ bl_ ∧ i = .int .i64 k ∧ Hid ((bl.take k).all isC = true) ∧ wr = w9) (fun i _ => bl_ - (intOf i).toNat)
        case atStart => exact ⟨0, Nat.zero_le _, rfl, Lib.hid (by simp), hw9.symm⟩
        case round =>
          obtain ⟨k, hk, rfl, I, rfl⟩ := hrel
          subst hw9
          by_cases hlt : k < bl_
          · obtain ⟨b, off, rfl, e0⟩ := HY.out.2 k hlt
            have e1 := F1.out.keepc e0
            have hkI : (k : Int) ≤ 63 := by have := HBL.out; omega
            have HT := Lib.hid (all_snoc isC bl k (by have := HYL.out; omega))
            clear e0
            generalize bl.getD k 0 = z at *
            have KC := fun w => channelC_any z w
            cases hc : isC z
            · rw [hc] at KC
              replace KC := Lib.hid KC
              clear hc
              go_wp2_with fail
              refine (KC.out _).mono ?_
              rintro e w3 ⟨rfl, rfl⟩
              go_wp2_with fail
              go_ret2
              exact ⟨_, rfl, World.ownsRow_nil _ _ _ _, F1.out⟩
            · rw [hc] at KC
              replace KC := Lib.hid KC
              have HJ := Lib.hid (show (bl.take (k + 1)).all isC = true by rw [HT.out, I.out]; exact hc)
              clear hc
              go_wp2_with fail
              refine (KC.out _).mono ?_
              rintro e w3 ⟨rfl, rfl⟩
              go_wp2_with fail
              go_roundw
              case rel => exact ⟨k + 1, by omega, by go_num, HJ, by simp⟩
              case measure => simp [intOf]; omega
          · have hall : bl.all isC = true := by
              have := I.out
              rwa [List.take_of_length_le (by have := HYL.out; omega)] at this
            rw [← HBB.out] at hall
            cases hall
      · cases h3 : inR least 1 al
        · have e1 : wiE chs bl least = 2 := by simp [wiE, h1, h2, HXL.out, h3]
          have e2 : wiV chs bl least = [] := by simp [wiV, e1]
          rw [e1, e2]
          rw [h2] at HBB
          have HNR := Lib.hid (inR_f h3)
          clear e1 e2 h1 h2 h3 hx hy ha hb
          go_enter Try.func27, Try.ntmps27
          go_wp2_with fail
          refine KA.out.mono ?_
          rintro e w1 ⟨rfl, f1⟩
          have F1 := Lib.hid f1
          clear f1
          go_wp2_with fail
          clear hb64 hb64d
          obtain ⟨w9, hw9⟩ : ∃ w9, w9 = w1 := ⟨_, rfl⟩
          go_loopw [8] (fun i wr => ∃ k : Nat, k ≤ bl_ ∧ i = .int .i64 k ∧ Hid ((bl.take k).all isC = true) ∧ wr = w9) (fun i _ => bl_ - (intOf i).toNat)
          case atStart => exact ⟨0, Nat.zero_le _, rfl, Lib.hid (by simp), hw9.symm⟩
          case round =>
            obtain ⟨k, hk, rfl, I, rfl⟩ := hrel
            subst hw9
            by_cases hlt : k < bl_
            · obtain ⟨b, off, rfl, e0⟩ := HY.out.2 k hlt
              have e1 := F1.out.keepc e0
              have hkI : (k : Int) ≤ 63 := by have := HBL.out; omega
              have HT := Lib.hid (all_snoc isC bl k (by have := HYL.out; omega))
              clear e0
              have HZE := Lib.hid (fun h : isC (bl.getD k 0) = false => h)
              obtain ⟨z, hz⟩ : ∃ z, z = bl.getD k 0 := ⟨_, rfl⟩
              rw [← hz] at e1 HT
              have HZQ := Lib.hid hz
              clear hz HZE
              have KC := fun w => channelC_any z w
              cases hc : isC z
              · rw [hc] at KC
                have HCF := Lib.hid (show isC (bl.getD k 0) = false by rw [← HZQ.out]; exact hc)
                replace KC := Lib.hid KC
                clear hc
                go_wp2_with fail
                refine (KC.out _).mono ?_
                rintro e w3 ⟨rfl, rfl⟩
                go_wp2_with fail
                exact absurd HBB.out (by
                  intro h
                  have h2 := all_no isC bl k (by have := HYL.out; omega) HCF.out
                  rw [h2] at h
                  cases h)
              · rw [hc] at KC
                replace KC := Lib.hid KC
                have HJ := Lib.hid (show (bl.take (k + 1)).all isC = true by rw [HT.out, I.out]; exact hc)
                clear hc
                go_wp2_with fail
                refine (KC.out _).mono ?_
                rintro e w3 ⟨rfl, rfl⟩
                go_wp2_with fail
                go_roundw
                case rel => exact ⟨k + 1, by omega, by go_num, HJ, by simp⟩
                case measure => simp [intOf]; omega
            · have hall : bl.all isC = true := by
                have := I.out
                rwa [List.take_of_length_le (by have := HYL.out; omega)] at this
              clear hall
              by_cases h3 : least < 1
              · have hd3 : decide (least < 1) = true := decide_eq_true h3
                go_wp2_with fail
                go_ret2
                exact ⟨_, rfl, World.ownsRow_nil _ _ _ _, F1.out⟩
              · have hd3 : decide (least < 1) = false := decide_eq_false h3
                have h4 : (al : Int) < least := by have := HNR.out; omega
                have hd4 : decide ((al : Int) < least) = true := decide_eq_true h4
                go_wp2_with fail
                go_ret2
                exact ⟨_, rfl, World.ownsRow_nil _ _ _ _, F1.out⟩
        · have e1 : wiE chs bl least = 0 := wiE_0 h1 h2 (by rw [HXL.out]; exact h3)
          have e2 : wiV chs bl least = wiL chs bl least := by simp [wiV, e1]
          rw [e1, e2]
          exact withoR_3 ao al ac chs bo bl_ bc bl least w hx hy hac h1 h2 h3
    · have hb64 : (64 : Int) < (bl_ : Int) := by omega
      have h2 : bkB bl = false := by unfold bkB; rw [decide_eq_false (by have := HYL.out; omega)]; rfl
      have e1 : wiE chs bl least = 1 := by simp [wiE, h2]
      have e2 : wiV chs bl least = [] := by simp [wiV, e1]
      rw [e1, e2]
      clear e1 e2 h1 h2 hx hy ha hb
      go_enter Try.func27, Try.ntmps27
      go_wp2_with fail
      refine KA.out.mono ?_
      rintro e w1 ⟨rfl, f1⟩
      have F1 := Lib.hid f1
      clear f1
      go_wp2_with fail
      go_ret2
      exact ⟨_, rfl, World.ownsRow_nil _ _ _ _, F1.out⟩

end Go.Proofs.Ytpaoacdgmfaolaa
