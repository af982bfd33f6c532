/- Next versions. -/
import Derived.Test.YtpaoacdgmfaolaaChk
import Derived.BigQuiet
import Derived.Deep.RegionWith
namespace Go.Proofs.Ytpaoacdgmfaolaa
set_option linter.unusedVariables false
open Go.RowKit


def NvP (v n : Int) : Prop := 0 ≤ v → v ≤ 255 → n = (v + 1) % 256
theorem nextVersion_any (v : Int) (w : World) : Calls Try.prog 51 #[.int .i64 v] w fun e w' => (∃ n : Int, e = .returned (.int .i64 n) ∧ NvP v n) ∧ w' = w := by
  by_cases h : 0 ≤ v ∧ v ≤ 255
  · obtain ⟨h0, h1⟩ := h
    have hw1 : IntKind.i64.wrap (v + 1) = v + 1 := IntWalk.i64_in _ (by omega)
    have ht : Int.tmod (v + 1) 256 = (v + 1) % 256 := Int.tmod_eq_emod_of_nonneg (by omega)
    have hw2 : IntKind.i64.wrap ((v + 1) % 256) = (v + 1) % 256 := IntWalk.i64_in _ (by omega)
    go_enter Try.func51, Try.ntmps51
    go_wp2_with fail
    go_ret
    exact ⟨⟨(v + 1) % 256, by first | rfl | (simp [ht, hw1, hw2]; done), fun _ _ => rfl⟩, rfl⟩
  · have H := Lib.hid h
    clear h
    go_enter Try.func51, Try.ntmps51
    go_wp2_with fail
    go_ret
    exact ⟨⟨_, rfl, fun a b => absurd ⟨a, b⟩ H.out⟩, rfl⟩
/-- Does a list follow another one? (both valid) -/
def foE (v f u : Int) (v2 f2 u2 : Int) : Int := if f2 ≠ u then 5 else if v2 ≠ (v + 1) % 256 then 23 else 0
set_option maxHeartbeats 4000000 in
theorem checkNext_any (v f u : Int) (ca : Option Addr) (cl ck : Nat) (v2 f2 u2 : Int) (ca2 : Option Addr) (cl2 ck2 : Nat) (w : World) (h0 : 0 ≤ v) (h1 : v ≤ 255) :
    Calls Try.prog 44 #[.agg #[.int .i64 v, .int .i64 f, .int .i64 u, .slice ca cl ck], .agg #[.int .i64 v2, .int .i64 f2, .int .i64 u2, .slice ca2 cl2 ck2]] w fun e w' => e = .returned (.int .i64 (foE v f u v2 f2 u2)) ∧ Fr no w w' := by
  have KV := Lib.hid (fun w => (nextVersion_any v w).mono (R' := fun e w' => e = .returned (.int .i64 ((v + 1) % 256)) ∧ w' = w) (by
    rintro e w' ⟨⟨n, rfl, hn⟩, hw⟩
    rw [hn h0 h1]
    exact ⟨rfl, hw⟩))
  have HR := Lib.hid (show foE v f u v2 f2 u2 = if f2 ≠ u then 5 else if v2 ≠ (v + 1) % 256 then 23 else 0 from rfl)
  generalize (v + 1) % 256 = n at *
  clear h0 h1
  obtain ⟨W, hW⟩ : ∃ W, W = (w.alloc (.cells #[.int .i64 v, .int .i64 f, .int .i64 u, .slice ca cl ck] 24 (0, 0))).alloc (.cells #[.int .i64 v2, .int .i64 f2, .int .i64 u2, .slice ca2 cl2 ck2] 24 (0, 0)) := ⟨_, rfl⟩
  have hF : Fr no w W := by rw [hW]; exact ((Fr.refl no w).alloc _).alloc _
  have hA : W.heap[w.heap.size]? = some (.cells #[.int .i64 v, .int .i64 f, .int .i64 u, .slice ca cl ck] 24 (0, 0)) := by rw [hW]; exact alloc_keeps (heap_alloc_new w _) _
  have hB : W.heap[w.heap.size + 1]? = some (.cells #[.int .i64 v2, .int .i64 f2, .int .i64 u2, .slice ca2 cl2 ck2] 24 (0, 0)) := by rw [hW]; simpa using heap_alloc_new (w.alloc (.cells #[.int .i64 v, .int .i64 f, .int .i64 u, .slice ca cl ck] 24 (0, 0))) (.cells #[.int .i64 v2, .int .i64 f2, .int .i64 u2, .slice ca2 cl2 ck2] 24 (0, 0))
  obtain ⟨a0, a1, a2, a3⟩ := four_cells hA
  obtain ⟨b0, b1, b2, b3⟩ := four_cells hB
  have HF := Lib.hid hF
  have HW := Lib.hid hW
  clear hF hA hB hW
  by_cases hf : f2 = u
  · subst hf
    have HR := Lib.hid (show foE v f f2 v2 f2 u2 = if v2 ≠ n then 23 else 0 by rw [HR.out]; simp)
    by_cases hv : v2 = n
    · subst hv
      have HR := Lib.hid (show foE v f f2 v2 f2 u2 = 0 by rw [HR.out]; simp)
      go_enter Try.func44, Try.ntmps44
      go_wp2_with fail
      rw [← HW.out]
      go_wp2_with fail
      go_quiet ((go_at_call 51; refine Calls.quiet_of_same (KV.out _)))
      go_wp2_with fail
      go_ret
      rw [HR.out]
      exact ⟨rfl, HF.out.drewN _⟩
    · have HR := Lib.hid (show foE v f f2 v2 f2 u2 = 23 by rw [HR.out]; simp [hv])
      have hv1 : (v2 == n) = false := by simpa using hv
      have hv2 : decide (v2 = n) = false := by simpa using hv
      go_enter Try.func44, Try.ntmps44
      go_wp2_with fail
      rw [← HW.out]
      go_wp2_with fail
      go_quiet ((go_at_call 51; refine Calls.quiet_of_same (KV.out _)))
      go_wp2_with fail
      go_ret
      rw [HR.out]
      exact ⟨rfl, HF.out.drewN _⟩
  · have HR := Lib.hid (show foE v f u v2 f2 u2 = 5 by rw [HR.out]; simp [hf])
    have hv1 : (f2 == u) = false := by simpa using hf
    have hv2 : decide (f2 = u) = false := by simpa using hf
    go_enter Try.func44, Try.ntmps44
    go_wp2_with fail
    rw [← HW.out]
    go_wp2_with fail
    go_ret
    rw [HR.out]
    exact ⟨rfl, HF.out⟩

end Go.Proofs.Ytpaoacdgmfaolaa
