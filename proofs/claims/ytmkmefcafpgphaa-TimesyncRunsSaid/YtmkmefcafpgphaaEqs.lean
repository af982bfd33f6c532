/- Equal lists of ints and of states. -/
import Derived.Test.YtmkmefcafpgphaaLsq
import Derived.BigQuiet
namespace Go.Proofs.Ytmkmefcafpgphaa
set_option linter.unusedVariables false
open Go.RowKit


set_option maxHeartbeats 4000000 in
theorem equalI_same (a0 a1 : Option Addr) (len c0 c1 : Nat) (zs : List Int) (w : World) (h0 : IntsIn w a0 len zs) (h1 : IntsIn w a1 len zs) (hl : len ≤ 40) :
    Calls Try.prog 30 #[.slice a0 len c0, .slice a1 len c1] w fun e w' => e = .returned (.bool true) ∧ Fr no w w' := by
  have H0 := Lib.hid h0
  have H1 := Lib.hid h1
  clear h0 h1
  go_enter Try.func30, Try.ntmps30
  go_wp2_with fail
  go_loopw [5, 13] (fun _ i wr => ∃ k : Nat, k ≤ len ∧ i = .int .i64 k ∧ Hid (Fr no w wr)) (fun _ i _ => len - (intOf i).toNat)
  case atStart => exact ⟨0, by omega, rfl, Lib.hid (Fr.refl no _)⟩
  case round =>
    obtain ⟨k, hk, rfl, F⟩ := hrel
    by_cases hlt : k < len
    · obtain ⟨b, off, rfl, -, hc⟩ := slice_1 (H0.out.kept F.out) (by omega)
      have x0 := hc k hlt
      obtain ⟨b', off', rfl, -, hc'⟩ := slice_1 (H1.out.kept F.out) (by omega)
      have y0 := hc' k hlt
      have hkI : (k : Int) < (len : Int) := by omega
      generalize zs.getD k 0 = v at *
      clear hc hc'
      go_wp2_with fail
      go_quiet (fail)
      rename_i nq
      have HFq := Lib.hid (F.out.drewN nq)
      go_wp2_with fail
      go_roundw
      case rel => exact ⟨k + 1, by omega, by go_num, HFq⟩
      case measure => simp [intOf]; omega
    · have hkI : ¬ (k : Int) < (len : Int) := by omega
      go_wp2_with fail
      go_ret
      exact ⟨rfl, F.out⟩
set_option maxHeartbeats 4000000 in
theorem same_same (a0 a1 : Option Addr) (len c0 c1 : Nat) (l : List Sy) (w : World) (h0 : SysIn w a0 len l) (h1 : SysIn w a1 len l) (hl : len ≤ 40) :
    Calls Try.prog 31 #[.slice a0 len c0, .slice a1 len c1] w fun e w' => e = .returned (.bool true) ∧ Fr no w w' := by
  have H0 := Lib.hid h0
  have H1 := Lib.hid h1
  clear h0 h1
  go_enter Try.func31, Try.ntmps31
  go_wp2_with fail
  go_loopw [5] (fun i wr => ∃ k : Nat, k ≤ len ∧ i = .int .i64 k ∧ Hid (Fr no w wr)) (fun i _ => len - (intOf i).toNat)
  case atStart => exact ⟨0, by omega, rfl, Lib.hid (Fr.refl no _)⟩
  case round =>
    obtain ⟨k, hk, rfl, F⟩ := hrel
    by_cases hlt : k < len
    · obtain ⟨b, off, rfl, -, hc⟩ := sys_at (H0.out.kept F.out) (by omega)
      obtain ⟨x0, x1, x2, x3⟩ := hc k hlt
      obtain ⟨b', off', rfl, -, hc'⟩ := sys_at (H1.out.kept F.out) (by omega)
      obtain ⟨y0, y1, y2, y3⟩ := hc' k hlt
      have hkI : (k : Int) < (len : Int) := by omega
      generalize syAt l k = v at *
      clear hc hc'
      go_wp2_with fail
      go_quiet (fail)
      rename_i nq
      have HFq := Lib.hid (F.out.drewN nq)
      go_wp2_with fail
      go_roundw
      case rel => exact ⟨k + 1, by omega, by go_num, HFq⟩
      case measure => simp [intOf]; omega
    · have hkI : ¬ (k : Int) < (len : Int) := by omega
      go_wp2_with fail
      go_ret
      exact ⟨rfl, F.out⟩

end Go.Proofs.Ytmkmefcafpgphaa
