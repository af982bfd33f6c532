/- The document: Check. -/
import Derived.Test.YtpaoacdgmfaolaaChR
import Derived.BigGuardPart
namespace Go.Proofs.Ytpaoacdgmfaolaa
set_option linter.unusedVariables false
open Go.RowKit


set_option maxHeartbeats 4000000 in
theorem checkR_any (v f u : Int) (ca : Option Addr) (ck : Nat) (zs : List Int) (w : World) (hz : IntsIn w ca zs.length zs) (hl : zs.length ≤ 100) (hlc : zs.length ≤ ck) :
    Calls Try.prog 17 #[.agg #[.int .i64 v, .int .i64 f, .int .i64 u, .slice ca zs.length ck]] w fun e w' => e = .returned (.int .i64 (hlE v f u zs)) ∧ Fr no w w' := by
  obtain ⟨W, hW⟩ : ∃ W, W = w.alloc (.cells #[.int .i64 v, .int .i64 f, .int .i64 u, .slice ca zs.length ck] 24 (0, 0)) := ⟨_, rfl⟩
  have hF : Fr no w W := by rw [hW]; exact (Fr.refl no w).alloc _
  have HF := Lib.hid hF
  have HW := Lib.hid hW
  have HA := Lib.hid (different_any ca zs.length ck zs W (hz.kept hF) hl hlc)
  have HR := Lib.hid (show hlE v f u zs = if ((inR v 0 255 && (decide (0 ≤ f) && (decide (f < u) && decide (u ≤ 109951163)))) && chB zs) then 0 else 1 from rfl)
  generalize chB zs = B at *
  generalize zs.length = ln at *
  clear hz hF hW hl hlc
  simp only [inR] at HR
  go_enter Try.func17, Try.ntmps17
  go_wp2_with (go_at_call 39; try (rw [← HW.out]); refine HA.out.mono ?_; rintro e w' ⟨rfl, f1⟩)
  all_goals go_ret
  all_goals rw [HR.out]
  all_goals refine ⟨?_, by first | exact HF.out.noTrans (by assumption) | (rw [← HW.out]; exact HF.out)⟩
  all_goals first | rfl | (simp [*]; done) | (simp [*]; intros; omega) | (simp_all; done)

end Go.Proofs.Ytpaoacdgmfaolaa
