/- Newer versions. -/
import Derived.Test.YtpaoacdgmfaolaaChk
import Derived.BigQuiet
import Derived.Deep.RegionWith
namespace Go.Proofs.Ytpaoacdgmfaolaa
set_option linter.unusedVariables false
open Go.RowKit

def nwB (a b : Int) : Bool := inR a 0 255 && (inR b 0 255 && inR ((a - b) % 256) 1 127)
theorem newer_any (a b : Int) (w : World) : Calls Try.prog 34 #[.int .i64 a, .int .i64 b] w fun e w' => e = .returned (.bool (nwB a b)) ∧ w' = w := by
  have HA := Lib.hid (fun w => isVersion_any a w)
  have HB := Lib.hid (fun w => isVersion_any b w)
  have HN := Lib.hid (show nwB a b = (inR a 0 255 && (inR b 0 255 && inR ((a - b) % 256) 1 127)) from rfl)
  cases h1 : inR a 0 255
  · rw [h1] at HA HN
    clear h1
    go_enter Try.func34, Try.ntmps34
    go_wp2_with (go_at_call_of 37 a; refine (HA.out _).mono ?_; rintro e w' ⟨rfl, rfl⟩)
    go_ret
    rw [HN.out]
    exact ⟨rfl, rfl⟩
  · rw [h1] at HA HN
    cases h2 : inR b 0 255
    · rw [h2] at HB HN
      clear h1 h2
      go_enter Try.func34, Try.ntmps34
      go_wp2_with (first | (go_at_call_of 37 a; refine (HA.out _).mono ?_; rintro e w' ⟨rfl, rfl⟩) | (go_at_call_of 37 b; refine (HB.out _).mono ?_; rintro e w' ⟨rfl, rfl⟩))
      go_ret
      rw [HN.out]
      exact ⟨rfl, rfl⟩
    · rw [h2] at HB HN
      have a1 := inR_t.1 h1
      have b1 := inR_t.1 h2
      have hw1 : IntKind.i64.wrap (a - b) = a - b := IntWalk.i64_in _ (by omega)
      have hw2 : IntKind.i64.wrap (a - b + 256) = a - b + 256 := IntWalk.i64_in _ (by omega)
      have ht : Int.tmod (a - b + 256) 256 = (a - b) % 256 := by rw [Int.tmod_eq_emod_of_nonneg (by omega)]; omega
      have hw3 : IntKind.i64.wrap ((a - b) % 256) = (a - b) % 256 := IntWalk.i64_in _ (by omega)
      have HNN := Lib.hid (show nwB a b = inR ((a - b) % 256) 1 127 from HN.out)
      clear h1 h2
      go_enter Try.func34, Try.ntmps34
      go_wp2_with (first | (go_at_call_of 37 a; refine (HA.out _).mono ?_; rintro e w' ⟨rfl, rfl⟩) | (go_at_call_of 37 b; refine (HB.out _).mono ?_; rintro e w' ⟨rfl, rfl⟩) | (go_at_call 43; refine (within_any _ 1 127 _).mono ?_; rintro e w' ⟨rfl, rfl⟩))
      go_ret
      rw [HNN.out]
      first | exact ⟨rfl, rfl⟩ | (simp only [ht, hw1, hw2, hw3]; exact ⟨rfl, rfl⟩) | (rw [ht]; exact ⟨rfl, rfl⟩)

end Go.Proofs.Ytpaoacdgmfaolaa
