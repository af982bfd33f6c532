/- Slots: the program's, by sort.Search and a method value; the document's. -/
import Derived.Test.YtgddmmlkpajpmaaGrw
namespace Go.Proofs.Ytgddmmlkpajpmaa
set_option linter.unusedVariables false
open Go.RowKit

theorem tooWide_any (s n d : Int) (w : World) (s0 : 0 ≤ s) (s1 : s ≤ 64) (n0 : 0 ≤ n) (n1 : n ≤ 4096) (d0 : 0 ≤ d) (d1 : d ≤ 100000) :
    Calls Try.prog 62 #[.agg #[.int .i64 s, .int .i64 d], .int .i64 n] w fun e w' => e = .returned (.bool (decide (1100 < s * stF n d))) ∧ Fr no w w' := by
  obtain ⟨hF, c0, c1⟩ := box_path w s d
  obtain ⟨W, hW⟩ : ∃ W, W = w.alloc (.cells #[.int .i64 s, .int .i64 d] 49 (0, 0)) := ⟨_, rfl⟩
  rw [← hW] at hF c0 c1
  have HW := Lib.hid hW
  have HF := Lib.hid hF
  clear hW hF
  have HS := Lib.hid (fun w => pspread_any s n d w s0 s1 n0 n1 d0 d1)
  generalize s * stF n d = g at *
  go_enter Try.func62, Try.ntmps62
  go_wp2_with fail
  rw [← HW.out]
  refine (HS.out _).mono ?_
  rintro e w1 ⟨rfl, f1⟩
  have HF1 := Lib.hid (HF.out.noTrans f1)
  clear f1
  go_wp2_with fail
  go_ret
  exact ⟨rfl, HF1.out⟩

set_option maxHeartbeats 1000000 in
/-- sort.Search over the numbers of slots. -/
theorem searchK_any (s d : Int) (w : World) (s0 : 0 ≤ s) (s1 : s ≤ 64) (d0 : 0 ≤ d) (d1 : d ≤ 100000) :
    Calls Try.prog 61 #[.int .i64 4097, .func (.func 62) #[.agg #[.int .i64 s, .int .i64 d]] #[]] w fun e w' => e = .returned (.int .i64 (slF s d + 1)) ∧ Fr no w w' := by
  have HA := Lib.hid (fun (t : Int) w t0 t1 => tooWide_any s t d w s0 s1 t0 t1 d0 d1)
  have HM := Lib.hid (fun t u (h : t ≤ u) (t0 : 0 ≤ t) (u1 : u ≤ 4096) => sp_mono s0 (Int.le_refl s) h d0 (Int.le_refl d) t0 u1 d1)
  have H0 := Lib.hid (show s * stF 0 d ≤ 1100 by rw [stF_0 d0 d1]; omega)
  clear s0 s1 d0 d1
  have eg : ∀ args w, (callFunc 62 args).run Try.prog w = .ok (.enter 62 args) w := Go.Proofs.enters_of Try.func62 (by kernel_rfl) rfl
  go_enter Try.func61, Try.ntmps61
  go_wp2_with fail
  go_loopw [5, 6, 7] (fun s5 s6 _ wr => ∃ (lo hi : Nat), s5 = .int .i64 lo ∧ s6 = .int .i64 hi ∧ lo ≤ hi ∧ hi ≤ 4097 ∧ Hid (Fr no w wr) ∧
    Hid ((∀ t : Int, 0 ≤ t → t < lo → s * stF t d ≤ 1100) ∧ (∀ t : Int, hi ≤ t → t ≤ 4096 → 1100 < s * stF t d))) (fun a b _ _ => (intOf b - intOf a).toNat)
  case atStart => exact ⟨0, 4097, rfl, rfl, by omega, by omega, Lib.hid (Fr.refl no _), Lib.hid ⟨fun t h1 h2 => by omega, fun t h1 h2 => by omega⟩⟩
  case round =>
    obtain ⟨lo, hi, rfl, rfl, hlh, hin, F, I⟩ := hrel
    by_cases hlt : lo < hi
    · have hm : (((lo + hi) / 2 : Nat) : Int) = ((lo : Int) + (hi : Int)) / 2 := by omega
      have hc := fun w => HA.out (((lo + hi) / 2 : Nat) : Int) w (by omega) (by omega)
      rw [hm] at hc
      by_cases hp : 1100 < s * stF (((lo : Int) + (hi : Int)) / 2) d
      · rw [decide_eq_true hp] at hc
        have HP := Lib.hid hp
        have HC := Lib.hid hc
        clear hp hc hm
        go_wp2_with fail
        refine (HC.out _).mono ?_
        rintro e w' ⟨rfl, f1⟩
        have F1 := Lib.hid (F.out.noTrans f1)
        clear f1
        go_wp2_with fail
        go_roundw
        case rel => exact ⟨lo, (lo + hi) / 2, by go_num, by go_num, by omega, by omega, Lib.hid F1.out, Lib.hid ⟨I.out.1, fun t h1 h2 => by have := HM.out (((lo : Int) + (hi : Int)) / 2) t (by omega) (by omega) h2; have := HP.out; omega⟩⟩
        case measure => simp [intOf]; omega
      · rw [decide_eq_false hp] at hc
        have HP := Lib.hid hp
        have HC := Lib.hid hc
        clear hp hc hm
        go_wp2_with fail
        refine (HC.out _).mono ?_
        rintro e w' ⟨rfl, f1⟩
        have F1 := Lib.hid (F.out.noTrans f1)
        clear f1
        go_wp2_with fail
        go_roundw
        case rel => exact ⟨(lo + hi) / 2 + 1, hi, by go_num, rfl, by omega, by omega, Lib.hid F1.out, Lib.hid ⟨fun t h1 h2 => by have := HM.out t (((lo : Int) + (hi : Int)) / 2) (by omega) h1 (by omega); have := HP.out; omega, I.out.2⟩⟩
        case measure => simp [intOf]; omega
    · obtain rfl : hi = lo := by omega
      have h1 : 1 ≤ hi := by
        by_cases h : hi = 0
        · subst h
          have := I.out.2 0 (by omega) (by omega)
          have := H0.out
          omega
        · omega
      have hR : Sl s d ((hi : Int) - 1) := ⟨by omega, by omega, I.out.1 _ (by omega) (by omega), fun j h2 h3 => I.out.2 j (by omega) h3⟩
      have HE := Lib.hid hR.eq
      clear hR
      go_wp2_with fail
      go_ret
      rw [HE.out]
      exact ⟨by simp, F.out⟩
set_option maxHeartbeats 1000000 in
theorem pslots_any (s d : Int) (w : World) (s0 : 0 ≤ s) (s1 : s ≤ 64) (d0 : 0 ≤ d) (d1 : d ≤ 100000) :
    Calls Try.prog 45 #[.agg #[.int .i64 s, .int .i64 d]] w fun e w' => e = .returned (.tuple #[.int .i64 (slF s d), .int .i64 0]) ∧ Fr no w w' := by
  obtain ⟨hF, c0, c1⟩ := box_path w s d
  obtain ⟨W, hW⟩ : ∃ W, W = w.alloc (.cells #[.int .i64 s, .int .i64 d] 49 (0, 0)) := ⟨_, rfl⟩
  rw [← hW] at hF c0 c1
  have HW := Lib.hid hW
  have HF := Lib.hid hF
  clear hW hF
  have hk := sl_ex s0 s1 d0 d1
  have HS := Lib.hid (fun w => searchK_any s d w s0 s1 d0 d1)
  obtain ⟨k0, k1, -, -⟩ := hk
  generalize slF s d = g at *
  have h2 : (g + 1 == 0) = false := by simp; omega
  go_enter Try.func45, Try.ntmps45
  go_wp2_with fail
  rw [← HW.out]
  refine (HS.out _).mono ?_
  rintro e w1 ⟨rfl, f1⟩
  have HF1 := Lib.hid (HF.out.noTrans f1)
  clear f1
  go_wp2_with fail
  go_ret2
  exact ⟨by simp, HF1.out⟩

set_option maxHeartbeats 1000000 in
theorem slots_any (a b d : Int) (w : World) : Calls Try.prog 20 #[.int .i64 a, .int .i64 b, .int .i64 d] w fun e w' => e = .returned (.tuple #[.int .i64 (slV a b d), .int .i64 (slE a b d)]) ∧ Fr no w w' := by
  have H0 := Lib.hid (fun w => isP_any a w)
  have H1 := Lib.hid (fun w => isP_any b w)
  have H2 := Lib.hid (fun w => isD_any d w)
  cases k0 : isP a
  · rw [k0] at H0
    have HR := Lib.hid (show slV a b d = 0 ∧ slE a b d = 2 by simp [slV, slE, k0])
    clear k0
    go_enter Try.func20, Try.ntmps20
    go_wp2_with fail
    refine (H0.out _).mono ?_
    rintro e w1 ⟨rfl, rfl⟩
    go_wp2_with fail
    go_ret2
    rw [HR.out.1, HR.out.2]
    exact ⟨rfl, Fr.refl no _⟩
  · rw [k0] at H0
    cases k1 : isP b
    · rw [k1] at H1
      have HR := Lib.hid (show slV a b d = 0 ∧ slE a b d = 2 by simp [slV, slE, k0, k1])
      clear k0 k1
      go_enter Try.func20, Try.ntmps20
      go_wp2_with fail
      refine (H0.out _).mono ?_
      rintro e w1 ⟨rfl, rfl⟩
      go_wp2_with fail
      refine (H1.out _).mono ?_
      rintro e w1 ⟨rfl, rfl⟩
      go_wp2_with fail
      go_ret2
      rw [HR.out.1, HR.out.2]
      exact ⟨rfl, Fr.refl no _⟩
    · rw [k1] at H1
      cases k2 : isD d
      · rw [k2] at H2
        have HR := Lib.hid (show slV a b d = 0 ∧ slE a b d = 2 by simp [slV, slE, k0, k1, k2])
        clear k0 k1 k2
        go_enter Try.func20, Try.ntmps20
        go_wp2_with fail
        refine (H0.out _).mono ?_
        rintro e w1 ⟨rfl, rfl⟩
        go_wp2_with fail
        refine (H1.out _).mono ?_
        rintro e w1 ⟨rfl, rfl⟩
        go_wp2_with fail
        refine (H2.out _).mono ?_
        rintro e w1 ⟨rfl, rfl⟩
        go_wp2_with fail
        go_ret2
        rw [HR.out.1, HR.out.2]
        exact ⟨rfl, Fr.refl no _⟩
      · rw [k2] at H2
        have HR := Lib.hid (show slV a b d = slF (a + b) d ∧ slE a b d = 0 by simp [slV, slE, k0, k1, k2])
        obtain ⟨a0, a1⟩ := isP_t.1 k0
        obtain ⟨b0, b1⟩ := isP_t.1 k1
        obtain ⟨d0, d1⟩ := isD_t.1 k2
        have HC := Lib.hid (fun w => pslots_any (a + b) d w (by omega) (by omega) d0 d1)
        generalize slF (a + b) d = g at *
        clear k0 k1 k2
        go_enter Try.func20, Try.ntmps20
        go_wp2_with fail
        refine (H0.out _).mono ?_
        rintro e w1 ⟨rfl, rfl⟩
        go_wp2_with fail
        refine (H1.out _).mono ?_
        rintro e w1 ⟨rfl, rfl⟩
        go_wp2_with fail
        refine (H2.out _).mono ?_
        rintro e w1 ⟨rfl, rfl⟩
        go_wp2_with fail
        refine (HC.out _).mono ?_
        rintro e w1 ⟨rfl, f1⟩
        have HF1 := Lib.hid f1
        clear f1
        go_wp2_with fail
        go_ret2
        rw [HR.out.1, HR.out.2]
        exact ⟨rfl, HF1.out⟩
set_option maxHeartbeats 2000000 in
theorem slotsR_any (a b d : Int) (w : World) : Calls Try.prog 21 #[.int .i64 a, .int .i64 b, .int .i64 d] w fun e w' => e = .returned (.tuple #[.int .i64 (slV a b d), .int .i64 (slE a b d)]) ∧ Fr no w w' := by
  have HS := Lib.hid (fun n w => spreadR_any a b n d w)
  have hz : isK 0 = true := rfl
  cases hk : isP a && isP b && isD d
  · have HR := Lib.hid (show slV a b d = 0 ∧ slE a b d = 2 by simp only [slV, slE, hk]; exact ⟨rfl, rfl⟩)
    have e0 : (isP a && isP b && isK 0 && isD d) = false := by rw [hz, Bool.and_true, hk]
    have HS0 := Lib.hid (fun w => HS.out 0 w)
    rw [show spV a b 0 d = 0 by simp only [spV, e0]; rfl, show spE a b 0 d = 2 by simp only [spE, e0]; rfl] at HS0
    clear hk e0 hz
    go_enter Try.func21, Try.ntmps21
    go_wp2_with fail
    refine (HS0.out _).mono ?_
    rintro e w1 ⟨rfl, f1⟩
    have HF1 := Lib.hid f1
    clear f1
    go_wp2_with fail
    go_ret2
    rw [HR.out.1, HR.out.2]
    exact ⟨rfl, HF1.out⟩
  · obtain ⟨h12, h3⟩ := Bool.and_eq_true_iff.1 hk
    obtain ⟨h1, h2⟩ := Bool.and_eq_true_iff.1 h12
    obtain ⟨a0, a1⟩ := isP_t.1 h1
    obtain ⟨b0, b1⟩ := isP_t.1 h2
    obtain ⟨d0, d1⟩ := isD_t.1 h3
    have HR := Lib.hid (show slV a b d = slF (a + b) d ∧ slE a b d = 0 by simp only [slV, slE, hk]; exact ⟨rfl, rfl⟩)
    have HV : ∀ n : Int, 0 ≤ n → n ≤ 4096 → spV a b n d = (a + b) * stF n d ∧ spE a b n d = 0 := by
      intro n n0 n1
      have : isK n = true := isK_t.2 ⟨n0, n1⟩
      simp [spV, spE, h1, h2, h3, this]
    have HS1 := Lib.hid (fun (n : Int) (w : World) (n0 : 0 ≤ n) (n1 : n ≤ 4096) => show Calls Try.prog 19 #[.int .i64 a, .int .i64 b, .int .i64 n, .int .i64 d] w fun e w' => e = .returned (.tuple #[.int .i64 ((a + b) * stF n d), .int .i64 0]) ∧ Fr no w w' by
      have := HS.out n w
      rwa [(HV n n0 n1).1, (HV n n0 n1).2] at this)
    have HS0 := Lib.hid (fun w => HS1.out 0 w (by omega) (by omega))
    rw [stF_0 d0 d1] at HS0
    have HM := Lib.hid (fun t u (h : t ≤ u) (t0 : 0 ≤ t) (u1 : u ≤ 4096) => sp_mono (s := a + b) (by omega) (Int.le_refl (a + b)) h d0 (Int.le_refl d) t0 u1 d1)
    have H0 := Lib.hid (show (a + b) * stF 0 d ≤ 1100 by rw [stF_0 d0 d1]; omega)
    clear HS HV h12 h1 h2 h3 hk hz
    go_enter Try.func21, Try.ntmps21
    go_wp2_with fail
    refine (HS0.out _).mono ?_
    rintro e w1 ⟨rfl, f1⟩
    have HF1 := Lib.hid f1
    clear f1
    go_wp2_with fail
    go_loopw [8, 10, 11, 12] (fun _ s10 s11 _ wr => ∃ (lo hi : Nat), s10 = .int .i64 lo ∧ s11 = .int .i64 hi ∧ lo ≤ hi ∧ hi ≤ 4096 ∧ Hid (Fr no w wr) ∧
      Hid ((a + b) * stF lo d ≤ 1100 ∧ (∀ t : Int, hi < t → t ≤ 4096 → 1100 < (a + b) * stF t d))) (fun _ a b _ _ => (intOf b - intOf a).toNat)
    case atStart => exact ⟨0, 4096, rfl, rfl, by omega, by omega, Lib.hid HF1.out, Lib.hid ⟨H0.out, fun t h1 h2 => by omega⟩⟩
    case round =>
      obtain ⟨lo, hi, rfl, rfl, hlh, hin, F, I⟩ := hrel
      by_cases hlt : lo < hi
      · have hm : (((lo + hi + 1) / 2 : Nat) : Int) = ((lo : Int) + (hi : Int) + 1) / 2 := by omega
        have hc := fun w => HS1.out (((lo + hi + 1) / 2 : Nat) : Int) w (by omega) (by omega)
        rw [hm] at hc
        obtain ⟨m, hmm⟩ : ∃ m, (a + b) * stF (((lo : Int) + (hi : Int) + 1) / 2) d = m := ⟨_, rfl⟩
        rw [hmm] at hc
        by_cases hp : m ≤ 1100
        · have HP := Lib.hid (show (a + b) * stF (((lo : Int) + (hi : Int) + 1) / 2) d ≤ 1100 by omega)
          have HC := Lib.hid hc
          clear hc hm hmm
          go_wp2_with fail
          refine (HC.out _).mono ?_
          rintro e w' ⟨rfl, f1⟩
          have F1 := Lib.hid (F.out.noTrans f1)
          clear f1
          go_wp2_with fail
          go_roundw
          case rel => exact ⟨(lo + hi + 1) / 2, hi, by go_num, rfl, by omega, by omega, Lib.hid F1.out, Lib.hid ⟨by have := HP.out; rwa [show (((lo + hi + 1) / 2 : Nat) : Int) = ((lo : Int) + (hi : Int) + 1) / 2 by omega], I.out.2⟩⟩
          case measure => simp [intOf]; omega
        · have HP := Lib.hid (show 1100 < (a + b) * stF (((lo : Int) + (hi : Int) + 1) / 2) d by omega)
          have HC := Lib.hid hc
          clear hc hm hmm
          go_wp2_with fail
          refine (HC.out _).mono ?_
          rintro e w' ⟨rfl, f1⟩
          have F1 := Lib.hid (F.out.noTrans f1)
          clear f1
          go_wp2_with fail
          go_roundw
          case rel => exact ⟨lo, (lo + hi + 1) / 2 - 1, rfl, by go_num, by omega, by omega, Lib.hid F1.out, Lib.hid ⟨I.out.1, fun t h1 h2 => by have := HM.out (((lo : Int) + (hi : Int) + 1) / 2) t (by omega) (by omega) h2; have := HP.out; omega⟩⟩
          case measure => simp [intOf]; omega
      · obtain rfl : hi = lo := by omega
        have hR : Sl (a + b) d (hi : Int) := ⟨by omega, by omega, I.out.1, fun j h2 h3 => I.out.2 j h2 h3⟩
        have HE := Lib.hid hR.eq
        clear hR
        go_wp2_with fail
        go_ret2
        rw [HR.out.1, HR.out.2, HE.out]
        exact ⟨rfl, F.out⟩

end Go.Proofs.Ytgddmmlkpajpmaa
