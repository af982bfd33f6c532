/- The document's Reach; Slot. -/
import Derived.Test.YtmkmefcafpgphaaShw
namespace Go.Proofs.Ytmkmefcafpgphaa
set_option linter.unusedVariables false
open Go.RowKit

set_option maxHeartbeats 4000000 in
theorem reachR_any (o d x : Int) (w : World) (x1 : -9223372036854775808 ≤ x) (x2 : x ≤ 9223372036854775807) : Calls Try.prog 78 #[.agg #[.int .i64 o, .int .i64 d], .int .i64 x] w fun e w' => e = .returned (.tuple #[.int .i64 (reV o d x), .int .i64 (reE o d x)]) ∧ Fr no w w' := by
  obtain ⟨hF, c0, c1⟩ := box_clock w o d
  obtain ⟨W, hW⟩ : ∃ W, W = w.alloc (.cells #[.int .i64 o, .int .i64 d] 23 (0, 0)) := ⟨_, rfl⟩
  rw [← hW] at hF c0 c1
  have HW := Lib.hid hW
  have HF := Lib.hid hF
  clear hW hF
  have HC := Lib.hid (checkR_any o d W)
  cases hk : okC o d
  · rw [erC_1 hk] at HC
    have HR := Lib.hid (show reV o d x = 0 ∧ reE o d x = 1 by simp [reV, reE, hk])
    clear hk
    go_enter Try.func78, Try.ntmps78
    go_wp2_with fail
    rw [← HW.out]
    refine HC.out.mono ?_
    rintro e w1 ⟨rfl, f1⟩
    have HF1 := Lib.hid (HF.out.noTrans f1)
    clear f1
    go_wp2_with fail
    go_ret2
    rw [HR.out.1, HR.out.2]
    exact ⟨rfl, HF1.out⟩
  · rw [erC_0 hk] at HC
    have HK := Lib.hid (OkC.of hk)
    have HA := Lib.hid (fun t w t0 t1 => at_any o d t w (OkC.of hk) t0 t1)
    have HM := Lib.hid (fun t u h => sh_mono (o := o) (d := d) (t := t) (u := u) (OkC.of hk).d1 h)
    by_cases hl : sh o d 1099511627776 < x
    · have HR := Lib.hid (show reV o d x = 0 ∧ reE o d x = 15 by simp [reV, reE, hk, rcV, rcE, hl])
      have HA2 := Lib.hid (fun w => HA.out 1099511627776 w (by omega) (by omega))
      clear hk HA
      generalize sh o d 1099511627776 = y at *
      go_enter Try.func78, Try.ntmps78
      go_wp2_with fail
      rw [← HW.out]
      refine HC.out.mono ?_
      rintro e w1 ⟨rfl, f1⟩
      have HF1 := Lib.hid (HF.out.noTrans f1)
      have d0 := f1.keepc c0
      have d1 := f1.keepc c1
      clear f1
      go_wp2_with fail
      refine (HA2.out _).mono ?_
      rintro e w2 ⟨rfl, f2⟩
      have HF2 := Lib.hid (HF1.out.noTrans f2)
      clear f2
      go_wp2_with fail
      go_ret2
      rw [HR.out.1, HR.out.2]
      exact ⟨rfl, HF2.out⟩
    · have HR := Lib.hid (show reV o d x = rch o d x ∧ reE o d x = 0 by simp [reV, reE, hk, rcV, rcE, hl])
      have HA2 := Lib.hid (fun w => HA.out 1099511627776 w (by omega) (by omega))
      have HL := Lib.hid hl
      clear hk
      have hl2 : x ≤ sh o d 1099511627776 := by omega
      clear hl
      generalize sh o d 1099511627776 = y at HA2 hl2
      go_enter Try.func78, Try.ntmps78
      go_wp2_with fail
      rw [← HW.out]
      refine HC.out.mono ?_
      rintro e w1 ⟨rfl, f1⟩
      have HF1 := Lib.hid (HF.out.noTrans f1)
      have d0 := f1.keepc c0
      have d1 := f1.keepc c1
      clear f1
      go_wp2_with fail
      refine (HA2.out _).mono ?_
      rintro e w2 ⟨rfl, f2⟩
      have HF2 := Lib.hid (HF1.out.noTrans f2)
      have e0 := f2.keepc d0
      have e1 := f2.keepc d1
      clear f2 d0 d1 c0 c1
      go_wp2_with fail
      obtain ⟨wz, hwz⟩ : ∃ x : World, x = w2 := ⟨_, rfl⟩
      go_loopw [6, 7, 8] (fun s5 s6 _ wr => ∃ (lo hi : Nat), s5 = .int .i64 lo ∧ s6 = .int .i64 hi ∧ lo ≤ hi ∧ hi ≤ 1099511627776 ∧ wr.cell? ⟨w.heap.size, 0, none⟩ = some (.int .i64 o) ∧ wr.cell? ⟨w.heap.size, 1, none⟩ = some (.int .i64 d) ∧ Hid (Fr no w wr) ∧
        Hid ((∀ t : Int, 0 ≤ t → t < lo → sh o d t < x) ∧ (∀ t : Int, hi ≤ t → t ≤ 1099511627776 → x ≤ sh o d t))) (fun a b _ _ => (intOf b - intOf a).toNat)
      case atStart => exact ⟨0, 1099511627776, rfl, rfl, by omega, by omega, e0, e1, HF2, Lib.hid ⟨fun t h1 h2 => by omega, fun t h1 h2 => (by rw [show t = 1099511627776 from (by omega)]; have := HL.out; omega)⟩⟩
      case round =>
        obtain ⟨lo, hi, rfl, rfl, hlh, hin, g0, g1, F, I⟩ := hrel
        by_cases hlt : lo < hi
        · have hm : (((lo + hi) / 2 : Nat) : Int) = ((lo : Int) + (hi : Int)) / 2 := by omega
          have hc := fun w => HA.out (((lo + hi) / 2 : Nat) : Int) w (by omega) (by omega)
          rw [hm] at hc
          have HC := Lib.hid hc
          clear hc
          by_cases hp : x ≤ sh o d (((lo : Int) + (hi : Int)) / 2)
          · have HP := Lib.hid hp
            generalize sh o d (((lo : Int) + (hi : Int)) / 2) = z at hp HC
            clear hm
            go_wp2_with fail
            refine (HC.out _).mono ?_
            rintro e w3 ⟨rfl, f3⟩
            have F3 := Lib.hid (F.out.noTrans f3)
            have k0 := f3.keepc g0
            have k1 := f3.keepc g1
            clear f3
            go_wp2_with fail
            go_roundw
            case rel => exact ⟨lo, (lo + hi) / 2, rfl, by go_num, by omega, by omega, k0, k1, F3, Lib.hid ⟨I.out.1, fun t h1 h2 => Int.le_trans HP.out (HM.out _ _ (by omega))⟩⟩
            case measure => simp [intOf]; omega
          · have HP := Lib.hid hp
            generalize sh o d (((lo : Int) + (hi : Int)) / 2) = z at hp HC
            clear hm
            go_wp2_with fail
            refine (HC.out _).mono ?_
            rintro e w3 ⟨rfl, f3⟩
            have F3 := Lib.hid (F.out.noTrans f3)
            have k0 := f3.keepc g0
            have k1 := f3.keepc g1
            clear f3
            go_wp2_with fail
            go_roundw
            case rel => exact ⟨(lo + hi) / 2 + 1, hi, by go_num, rfl, by omega, by omega, k0, k1, F3, Lib.hid ⟨fun t h1 h2 => by have := HM.out t (((lo : Int) + (hi : Int)) / 2) (by omega); have := HP.out; omega, I.out.2⟩⟩
            case measure => simp [intOf]; omega
        · obtain rfl : hi = lo := by omega
          have hR : Rc o d x (hi : Int) := ⟨by omega, by omega, I.out.1, I.out.2⟩
          have HE := Lib.hid hR.eq
          clear hR
          go_wp2_with fail
          go_ret2
          rw [HR.out.1, HR.out.2, HE.out]
          exact ⟨rfl, F.out⟩
end Go.Proofs.Ytmkmefcafpgphaa
