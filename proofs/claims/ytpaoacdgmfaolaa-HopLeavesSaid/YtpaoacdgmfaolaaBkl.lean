/- Blacklists. -/
import Derived.Test.YtpaoacdgmfaolaaChk
namespace Go.Proofs.Ytpaoacdgmfaolaa
set_option linter.unusedVariables false
open Go.RowKit


theorem all_snoc (g : Int → Bool) (l : List Int) (k : Nat) (hk : k < l.length) : (l.take (k + 1)).all g = ((l.take k).all g && g (l.getD k 0)) := by
  rw [take_snoc l k hk, List.all_append]; simp
theorem all_no (g : Int → Bool) (l : List Int) (k : Nat) (hk : k < l.length) (h : g (l.getD k 0) = false) : l.all g = false := by
  rw [List.all_eq_false]
  refine ⟨l.getD k 0, ?_, by rw [h]; exact Bool.false_ne_true⟩
  rw [List.getD_eq_getElem?_getD, List.getElem?_eq_getElem hk]
  exact List.getElem_mem hk
set_option maxHeartbeats 4000000 in
theorem isBlacklist_any (ao : Option Addr) (len cap : Nat) (zs : List Int) (w : World) (hz : IntsIn w ao len zs) (hl : len ≤ 100) :
    Calls Try.prog 45 #[.slice ao len cap] w fun e w' => e = .returned (.bool (bkB zs)) ∧ w' = w := by
  have HZL := Lib.hid hz.1
  have HL := Lib.hid hl
  have HZ := Lib.hid hz
  have HB := Lib.hid (show bkB zs = (decide (len ≤ 64) && zs.all isC) by unfold bkB; rw [hz.1])
  clear hz hl
  by_cases h64 : len ≤ 64
  · have HR := Lib.hid (show bkB zs = zs.all isC by rw [HB.out, decide_eq_true h64]; rfl)
    have h1 : ¬ ((64 : Int) < (len : Int)) := by omega
    obtain ⟨w9, hw9⟩ : ∃ w9, w9 = w := ⟨_, rfl⟩
    go_enter Try.func45, Try.ntmps45
    go_wp2_with fail
    go_loopw [4, 10] (fun _ i wr => ∃ k : Nat, k ≤ len ∧ i = .int .i64 k ∧ Hid ((zs.take k).all isC = true) ∧ wr = w9) (fun _ i _ => len - (intOf i).toNat)
    case atStart => exact ⟨0, Nat.zero_le _, rfl, Lib.hid (by simp), hw9.symm⟩
    case round =>
      obtain ⟨k, hk, rfl, I, rfl⟩ := hrel
      subst hw9
      by_cases hlt : k < len
      · obtain ⟨b, off, rfl, e0⟩ := HZ.out.2 k hlt
        have hkI : (k : Int) ≤ 99 := by have := HL.out; omega
        have HT := Lib.hid (all_snoc isC zs k (by have := HZL.out; omega))
        have HNO := Lib.hid (all_no isC zs k (by have := HZL.out; omega))
        generalize zs.getD k 0 = z at *
        have HK := isChannel_any z
        cases hc : isC z
        · rw [hc] at HK
          have HK := Lib.hid HK
          have HV := Lib.hid (show bkB zs = false by rw [HR.out]; exact HNO.out hc)
          clear hc
          go_wp2_with fail
          refine (HK.out _).mono ?_
          rintro e w3 ⟨rfl, rfl⟩
          go_wp2_with fail
          go_ret
          rw [HV.out]
          exact ⟨rfl, rfl⟩
        · rw [hc] at HK
          have HK := Lib.hid HK
          have HJ := Lib.hid (show (zs.take (k + 1)).all isC = true by rw [HT.out, I.out]; exact hc)
          clear hc
          go_wp2_with fail
          refine (HK.out _).mono ?_
          rintro e w3 ⟨rfl, rfl⟩
          go_wp2_with fail
          go_roundw
          case rel => exact ⟨k + 1, by omega, by go_num, HJ, by simp⟩
          case measure => simp [intOf]; omega
      · have HV := Lib.hid (show bkB zs = true by rw [HR.out, ← I.out, List.take_of_length_le (by have := HZL.out; omega)])
        go_wp2_with fail
        go_ret
        rw [HV.out]
        exact ⟨rfl, rfl⟩
  · have HR := Lib.hid (show bkB zs = false by rw [HB.out, decide_eq_false h64]; rfl)
    have h1 : (64 : Int) < (len : Int) := by omega
    go_enter Try.func45, Try.ntmps45
    go_wp2_with fail
    go_ret
    rw [HR.out]
    exact ⟨rfl, rfl⟩

end Go.Proofs.Ytpaoacdgmfaolaa
