/- Growth, Length, Step, Spread, Slots: the program's and the document's. -/
import Derived.Test.YtgddmmlkpajpmaaNum
import Derived.Test.YtgddmmlkpajpmaaShw
namespace Go.Proofs.Ytgddmmlkpajpmaa
set_option linter.unusedVariables false
open Go.RowKit

set_option maxHeartbeats 400000 in
theorem gwithin_any (n a b : Int) (w : World) : Calls Try.prog 34 #[.int .i64 n, .int .i64 a, .int .i64 b] w fun e w' => e = .returned (.bool (inR n a b)) ∧ w' = w := by
  by_cases h1 : a ≤ n
  · have HR := Lib.hid (show inR n a b = decide (n ≤ b) by simp [inR, h1])
    go_enter Try.func34, Try.ntmps34
    go_wp2_with fail
    go_ret
    rw [HR.out]
    exact ⟨rfl, rfl⟩
  · have HR := Lib.hid (show inR n a b = false by simp [inR, h1])
    have h3 : n < a := by omega
    clear h1
    go_enter Try.func34, Try.ntmps34
    go_wp2_with fail
    go_ret
    rw [HR.out]
    exact ⟨rfl, rfl⟩

theorem isD_any (n : Int) (w : World) : Calls Try.prog 35 #[.int .i64 n] w fun e w' => e = .returned (.bool (isD n)) ∧ w' = w := by
  go_enter Try.func35, Try.ntmps35
  go_wp2_with fail
  refine (gwithin_any n 0 100000 _).mono ?_
  rintro e w' ⟨rfl, rfl⟩
  go_wp2_with fail
  go_ret
  exact ⟨rfl, rfl⟩

theorem isK_any (n : Int) (w : World) : Calls Try.prog 39 #[.int .i64 n] w fun e w' => e = .returned (.bool (isK n)) ∧ w' = w := by
  go_enter Try.func39, Try.ntmps39
  go_wp2_with fail
  refine (gwithin_any n 0 4096 _).mono ?_
  rintro e w' ⟨rfl, rfl⟩
  go_wp2_with fail
  go_ret
  exact ⟨rfl, rfl⟩

theorem isP_any (n : Int) (w : World) : Calls Try.prog 43 #[.int .i64 n] w fun e w' => e = .returned (.bool (isP n)) ∧ w' = w := by
  go_enter Try.func43, Try.ntmps43
  go_wp2_with fail
  refine (gwithin_any n 0 32 _).mono ?_
  rintro e w' ⟨rfl, rfl⟩
  go_wp2_with fail
  go_ret
  exact ⟨rfl, rfl⟩

set_option maxHeartbeats 400000 in
theorem isDR_any (n : Int) (w : World) : Calls Try.prog 38 #[.int .i64 n] w fun e w' => e = .returned (.bool (isD n)) ∧ w' = w := by
  by_cases h1 : 0 ≤ n
  · have HR := Lib.hid (show isD n = decide (n ≤ 100000) by simp [isD, inR, h1])
    go_enter Try.func38, Try.ntmps38
    go_wp2_with fail
    go_ret
    rw [HR.out]
    exact ⟨rfl, rfl⟩
  · have HR := Lib.hid (show isD n = false by simp [isD, inR, h1])
    have h3 : n < 0 := by omega
    clear h1
    go_enter Try.func38, Try.ntmps38
    go_wp2_with fail
    go_ret
    rw [HR.out]
    exact ⟨rfl, rfl⟩

set_option maxHeartbeats 400000 in
theorem isKR_any (n : Int) (w : World) : Calls Try.prog 41 #[.int .i64 n] w fun e w' => e = .returned (.bool (isK n)) ∧ w' = w := by
  by_cases h1 : 0 ≤ n
  · have HR := Lib.hid (show isK n = decide (n ≤ 4096) by simp [isK, inR, h1])
    go_enter Try.func41, Try.ntmps41
    go_wp2_with fail
    go_ret
    rw [HR.out]
    exact ⟨rfl, rfl⟩
  · have HR := Lib.hid (show isK n = false by simp [isK, inR, h1])
    have h3 : n < 0 := by omega
    clear h1
    go_enter Try.func41, Try.ntmps41
    go_wp2_with fail
    go_ret
    rw [HR.out]
    exact ⟨rfl, rfl⟩

theorem bgrowth_any (t d : Int) (w : World) (t0 : 0 ≤ t) (t1 : t ≤ 1099511627776) (d0 : 0 ≤ d) (d1 : d ≤ 100000) :
    Calls Try.prog 36 #[.int .i64 d, .int .i64 t] w fun e w' => e = .returned (.int .i64 (grF t d)) ∧ w' = w := by
  have h1 : 0 ≤ 2 * t * d := Int.mul_nonneg (by omega) d0
  have h2 : 2 * t * d ≤ 219902325555200000 := by
    have := (mul_bd (t := 2 * t) (by omega) d0 d1).2
    omega
  have HR := Lib.hid (show grF t d = 2 * t * d / 1000000000 + 2 from rfl)
  obtain ⟨m, hm⟩ : ∃ m, 2 * t * d = m := ⟨_, rfl⟩
  rw [hm] at h1 h2 HR
  have hw : IntKind.i64.wrap (2 * t * d) = m := by rw [hm]; exact IntWalk.i64_in _ (by omega)
  go_enter Try.func36, Try.ntmps36
  go_wp2_with fail
  go_ret
  rw [HR.out]
  exact ⟨rfl, rfl⟩

theorem blength_any (n d : Int) (w : World) (n0 : 0 ≤ n) (n1 : n ≤ 4096) (d0 : 0 ≤ d) (d1 : d ≤ 100000) :
    Calls Try.prog 40 #[.int .i64 d, .int .i64 n] w fun e w' => e = .returned (.int .i64 (leF n d)) ∧ w' = w := by
  obtain ⟨b1, b2⟩ := leF_bd n0 n1 d0 d1
  have HR := Lib.hid (show leF n d = ((n * 10000 + 1) * 1000000000 + (1000000000 - d) - 1) / (1000000000 - d) from rfl)
  rw [HR.out] at b1 b2
  have hq : Int.tdiv ((n * 10000 + 1) * 1000000000 + (1000000000 - d) - 1) (1000000000 - d) = ((n * 10000 + 1) * 1000000000 + (1000000000 - d) - 1) / (1000000000 - d) := Int.tdiv_eq_ediv_of_nonneg (by omega)
  go_enter Try.func40, Try.ntmps40
  go_wp2_with fail
  go_ret
  rw [HR.out]
  first | exact ⟨rfl, rfl⟩ | (simp [hq]; done)

theorem bstep_any (n d : Int) (w : World) (n0 : 0 ≤ n) (n1 : n ≤ 4096) (d0 : 0 ≤ d) (d1 : d ≤ 100000) :
    Calls Try.prog 42 #[.int .i64 d, .int .i64 n] w fun e w' => e = .returned (.int .i64 (stF n d)) ∧ w' = w := by
  obtain ⟨b1, b2⟩ := leF_bd n0 n1 d0 d1
  obtain ⟨b3, b4⟩ := stF_bd n0 n1 d0 d1
  have HL := Lib.hid (fun w => blength_any n d w n0 n1 d0 d1)
  have HG := Lib.hid (fun w => bgrowth_any (leF n d) d w (by omega) (by omega) d0 d1)
  have HR := Lib.hid (show stF n d = 1 + grF (leF n d) d from rfl)
  rw [HR.out] at b3 b4
  generalize grF (leF n d) d = g at *
  generalize leF n d = l at *
  go_enter Try.func42, Try.ntmps42
  go_wp2_with fail
  refine (HL.out _).mono ?_
  rintro e w1 ⟨rfl, rfl⟩
  go_wp2_with fail
  refine (HG.out _).mono ?_
  rintro e w1 ⟨rfl, rfl⟩
  go_wp2_with fail
  go_ret
  rw [HR.out]
  exact ⟨rfl, rfl⟩

theorem box_path (w : World) (o d : Int) : Fr no w (w.alloc (.cells #[.int .i64 o, .int .i64 d] 49 (0, 0))) ∧ (w.alloc (.cells #[.int .i64 o, .int .i64 d] 49 (0, 0))).cell? ⟨w.heap.size, 0, none⟩ = some (.int .i64 o) ∧ (w.alloc (.cells #[.int .i64 o, .int .i64 d] 49 (0, 0))).cell? ⟨w.heap.size, 1, none⟩ = some (.int .i64 d) := by
  have h := heap_alloc_new w (.cells #[.int .i64 o, .int .i64 d] 49 (0, 0))
  exact ⟨(Fr.refl no w).alloc _, (two_cells h).1, (two_cells h).2.1⟩
theorem pspread_any (s n d : Int) (w : World) (s0 : 0 ≤ s) (s1 : s ≤ 64) (n0 : 0 ≤ n) (n1 : n ≤ 4096) (d0 : 0 ≤ d) (d1 : d ≤ 100000) :
    Calls Try.prog 44 #[.agg #[.int .i64 s, .int .i64 d], .int .i64 n] w fun e w' => e = .returned (.int .i64 (s * stF n d)) ∧ Fr no w w' := by
  obtain ⟨hF, c0, c1⟩ := box_path w s d
  obtain ⟨W, hW⟩ : ∃ W, W = w.alloc (.cells #[.int .i64 s, .int .i64 d] 49 (0, 0)) := ⟨_, rfl⟩
  rw [← hW] at hF c0 c1
  have HW := Lib.hid hW
  have HF := Lib.hid hF
  clear hW hF
  obtain ⟨b1, b2⟩ := sp_bd s0 s1 n0 n1 d0 d1
  have HS := Lib.hid (fun w => bstep_any n d w n0 n1 d0 d1)
  generalize stF n d = g at *
  have hw : IntKind.i64.wrap (s * g) = s * g := IntWalk.i64_in _ (by omega)
  go_enter Try.func44, Try.ntmps44
  go_wp2_with fail
  rw [← HW.out]
  go_quiet ((go_at_call 42; refine Calls.quiet_of_same (HS.out _)))
  rename_i nq
  go_wp2_with fail
  go_ret
  exact ⟨rfl, HF.out.drewN _⟩

set_option maxHeartbeats 1000000 in
theorem growth_any (t d : Int) (w : World) : Calls Try.prog 12 #[.int .i64 t, .int .i64 d] w fun e w' => e = .returned (.tuple #[.int .i64 (grV t d), .int .i64 (grE t d)]) ∧ Fr no w w' := by
  have HA := Lib.hid (fun w => gwithin_any t 0 1099511627776 w)
  have HB := Lib.hid (fun w => isD_any d w)
  cases hA : inR t 0 1099511627776
  · rw [hA] at HA
    have HR := Lib.hid (show grV t d = 0 ∧ grE t d = 2 by simp [grV, grE, isT, MT, hA])
    clear hA
    go_enter Try.func12, Try.ntmps12
    go_wp2_with fail
    refine (HA.out _).mono ?_
    rintro e w1 ⟨rfl, rfl⟩
    go_wp2_with fail
    go_ret2
    rw [HR.out.1, HR.out.2]
    exact ⟨rfl, Fr.refl no _⟩
  · rw [hA] at HA
    cases hB : isD d
    · rw [hB] at HB
      have HR := Lib.hid (show grV t d = 0 ∧ grE t d = 2 by simp [grV, grE, isT, MT, hA, hB])
      clear hA hB
      go_enter Try.func12, Try.ntmps12
      go_wp2_with fail
      refine (HA.out _).mono ?_
      rintro e w1 ⟨rfl, rfl⟩
      go_wp2_with fail
      refine (HB.out _).mono ?_
      rintro e w1 ⟨rfl, rfl⟩
      go_wp2_with fail
      go_ret2
      rw [HR.out.1, HR.out.2]
      exact ⟨rfl, Fr.refl no _⟩
    · rw [hB] at HB
      have HR := Lib.hid (show grV t d = grF t d ∧ grE t d = 0 by simp [grV, grE, isT, MT, hA, hB])
      obtain ⟨t0, t1⟩ := inR_t.1 hA
      obtain ⟨d0, d1⟩ := isD_t.1 hB
      have HC := Lib.hid (fun w => bgrowth_any t d w t0 t1 d0 d1)
      generalize grF t d = g at *
      clear hA hB
      go_enter Try.func12, Try.ntmps12
      go_wp2_with fail
      refine (HA.out _).mono ?_
      rintro e w1 ⟨rfl, rfl⟩
      go_wp2_with fail
      refine (HB.out _).mono ?_
      rintro e w1 ⟨rfl, rfl⟩
      go_wp2_with fail
      refine (HC.out _).mono ?_
      rintro e w1 ⟨rfl, rfl⟩
      go_wp2_with fail
      go_ret2
      rw [HR.out.1, HR.out.2]
      exact ⟨rfl, Fr.refl no _⟩

set_option maxHeartbeats 1000000 in
theorem length_any (n d : Int) (w : World) : Calls Try.prog 14 #[.int .i64 n, .int .i64 d] w fun e w' => e = .returned (.tuple #[.int .i64 (leV n d), .int .i64 (leE n d)]) ∧ Fr no w w' := by
  have HA := Lib.hid (fun w => isK_any n w)
  have HB := Lib.hid (fun w => isD_any d w)
  cases hA : isK n
  · rw [hA] at HA
    have HR := Lib.hid (show leV n d = 0 ∧ leE n d = 2 by simp [leV, leE, hA])
    clear hA
    go_enter Try.func14, Try.ntmps14
    go_wp2_with fail
    refine (HA.out _).mono ?_
    rintro e w1 ⟨rfl, rfl⟩
    go_wp2_with fail
    go_ret2
    rw [HR.out.1, HR.out.2]
    exact ⟨rfl, Fr.refl no _⟩
  · rw [hA] at HA
    cases hB : isD d
    · rw [hB] at HB
      have HR := Lib.hid (show leV n d = 0 ∧ leE n d = 2 by simp [leV, leE, hA, hB])
      clear hA hB
      go_enter Try.func14, Try.ntmps14
      go_wp2_with fail
      refine (HA.out _).mono ?_
      rintro e w1 ⟨rfl, rfl⟩
      go_wp2_with fail
      refine (HB.out _).mono ?_
      rintro e w1 ⟨rfl, rfl⟩
      go_wp2_with fail
      go_ret2
      rw [HR.out.1, HR.out.2]
      exact ⟨rfl, Fr.refl no _⟩
    · rw [hB] at HB
      have HR := Lib.hid (show leV n d = leF n d ∧ leE n d = 0 by simp [leV, leE, hA, hB])
      obtain ⟨t0, t1⟩ := isK_t.1 hA
      obtain ⟨d0, d1⟩ := isD_t.1 hB
      have HC := Lib.hid (fun w => blength_any n d w t0 t1 d0 d1)
      generalize leF n d = g at *
      clear hA hB
      go_enter Try.func14, Try.ntmps14
      go_wp2_with fail
      refine (HA.out _).mono ?_
      rintro e w1 ⟨rfl, rfl⟩
      go_wp2_with fail
      refine (HB.out _).mono ?_
      rintro e w1 ⟨rfl, rfl⟩
      go_wp2_with fail
      refine (HC.out _).mono ?_
      rintro e w1 ⟨rfl, rfl⟩
      go_wp2_with fail
      go_ret2
      rw [HR.out.1, HR.out.2]
      exact ⟨rfl, Fr.refl no _⟩

set_option maxHeartbeats 1000000 in
theorem step_any (n d : Int) (w : World) : Calls Try.prog 16 #[.int .i64 n, .int .i64 d] w fun e w' => e = .returned (.tuple #[.int .i64 (stV n d), .int .i64 (leE n d)]) ∧ Fr no w w' := by
  have HA := Lib.hid (fun w => isK_any n w)
  have HB := Lib.hid (fun w => isD_any d w)
  cases hA : isK n
  · rw [hA] at HA
    have HR := Lib.hid (show stV n d = 0 ∧ leE n d = 2 by simp [stV, leE, hA])
    clear hA
    go_enter Try.func16, Try.ntmps16
    go_wp2_with fail
    refine (HA.out _).mono ?_
    rintro e w1 ⟨rfl, rfl⟩
    go_wp2_with fail
    go_ret2
    rw [HR.out.1, HR.out.2]
    exact ⟨rfl, Fr.refl no _⟩
  · rw [hA] at HA
    cases hB : isD d
    · rw [hB] at HB
      have HR := Lib.hid (show stV n d = 0 ∧ leE n d = 2 by simp [stV, leE, hA, hB])
      clear hA hB
      go_enter Try.func16, Try.ntmps16
      go_wp2_with fail
      refine (HA.out _).mono ?_
      rintro e w1 ⟨rfl, rfl⟩
      go_wp2_with fail
      refine (HB.out _).mono ?_
      rintro e w1 ⟨rfl, rfl⟩
      go_wp2_with fail
      go_ret2
      rw [HR.out.1, HR.out.2]
      exact ⟨rfl, Fr.refl no _⟩
    · rw [hB] at HB
      have HR := Lib.hid (show stV n d = stF n d ∧ leE n d = 0 by simp [stV, leE, hA, hB])
      obtain ⟨t0, t1⟩ := isK_t.1 hA
      obtain ⟨d0, d1⟩ := isD_t.1 hB
      have HC := Lib.hid (fun w => bstep_any n d w t0 t1 d0 d1)
      generalize stF n d = g at *
      clear hA hB
      go_enter Try.func16, Try.ntmps16
      go_wp2_with fail
      refine (HA.out _).mono ?_
      rintro e w1 ⟨rfl, rfl⟩
      go_wp2_with fail
      refine (HB.out _).mono ?_
      rintro e w1 ⟨rfl, rfl⟩
      go_wp2_with fail
      refine (HC.out _).mono ?_
      rintro e w1 ⟨rfl, rfl⟩
      go_wp2_with fail
      go_ret2
      rw [HR.out.1, HR.out.2]
      exact ⟨rfl, Fr.refl no _⟩

set_option maxHeartbeats 1000000 in
theorem growthR_any (t d : Int) (w : World) : Calls Try.prog 13 #[.int .i64 t, .int .i64 d] w fun e w' => e = .returned (.tuple #[.int .i64 (grV t d), .int .i64 (grE t d)]) ∧ Fr no w w' := by
  have HA := Lib.hid (fun w => time_any t w)
  have HB := Lib.hid (fun w => isDR_any d w)
  cases hA : isT t
  · rw [hA] at HA
    have HR := Lib.hid (show grV t d = 0 ∧ grE t d = 2 by simp [grV, grE, hA])
    clear hA
    go_enter Try.func13, Try.ntmps13
    go_wp2_with fail
    refine (HA.out _).mono ?_
    rintro e w1 ⟨rfl, rfl⟩
    go_wp2_with fail
    go_ret2
    rw [HR.out.1, HR.out.2]
    exact ⟨rfl, Fr.refl no _⟩
  · rw [hA] at HA
    cases hB : isD d
    · rw [hB] at HB
      have HR := Lib.hid (show grV t d = 0 ∧ grE t d = 2 by simp [grV, grE, hA, hB])
      clear hA hB
      go_enter Try.func13, Try.ntmps13
      go_wp2_with fail
      refine (HA.out _).mono ?_
      rintro e w1 ⟨rfl, rfl⟩
      go_wp2_with fail
      refine (HB.out _).mono ?_
      rintro e w1 ⟨rfl, rfl⟩
      go_wp2_with fail
      go_ret2
      rw [HR.out.1, HR.out.2]
      exact ⟨rfl, Fr.refl no _⟩
    · rw [hB] at HB
      have HR := Lib.hid (show grV t d = grF t d ∧ grE t d = 0 by simp [grV, grE, hA, hB])
      obtain ⟨t0, t1⟩ := isT_t.1 hA
      simp only [MT] at t1
      obtain ⟨d0, d1⟩ := isD_t.1 hB
      have h1 : 0 ≤ 2 * t * d := Int.mul_nonneg (by omega) d0
      have h2 : 2 * t * d ≤ 219902325555200000 := by
        have := (mul_bd (t := 2 * t) (by omega) d0 d1).2
        omega
      unfold grF at HR
      obtain ⟨m, hm⟩ : ∃ m, 2 * t * d = m := ⟨_, rfl⟩
      rw [hm] at h1 h2 HR
      have hw : IntKind.i64.wrap (2 * t * d) = m := by rw [hm]; exact IntWalk.i64_in _ (by omega)
      clear hA hB
      go_enter Try.func13, Try.ntmps13
      go_wp2_with fail
      refine (HA.out _).mono ?_
      rintro e w1 ⟨rfl, rfl⟩
      go_wp2_with fail
      refine (HB.out _).mono ?_
      rintro e w1 ⟨rfl, rfl⟩
      go_wp2_with fail
      
      go_ret2
      rw [HR.out.1, HR.out.2]
      exact ⟨rfl, Fr.refl no _⟩

set_option maxHeartbeats 1000000 in
theorem lengthR_any (n d : Int) (w : World) : Calls Try.prog 15 #[.int .i64 n, .int .i64 d] w fun e w' => e = .returned (.tuple #[.int .i64 (leV n d), .int .i64 (leE n d)]) ∧ Fr no w w' := by
  have HA := Lib.hid (fun w => isKR_any n w)
  have HB := Lib.hid (fun w => isDR_any d w)
  cases hA : isK n
  · rw [hA] at HA
    have HR := Lib.hid (show leV n d = 0 ∧ leE n d = 2 by simp [leV, leE, hA])
    clear hA
    go_enter Try.func15, Try.ntmps15
    go_wp2_with fail
    refine (HA.out _).mono ?_
    rintro e w1 ⟨rfl, rfl⟩
    go_wp2_with fail
    go_ret2
    rw [HR.out.1, HR.out.2]
    exact ⟨rfl, Fr.refl no _⟩
  · rw [hA] at HA
    cases hB : isD d
    · rw [hB] at HB
      have HR := Lib.hid (show leV n d = 0 ∧ leE n d = 2 by simp [leV, leE, hA, hB])
      clear hA hB
      go_enter Try.func15, Try.ntmps15
      go_wp2_with fail
      refine (HA.out _).mono ?_
      rintro e w1 ⟨rfl, rfl⟩
      go_wp2_with fail
      refine (HB.out _).mono ?_
      rintro e w1 ⟨rfl, rfl⟩
      go_wp2_with fail
      go_ret2
      rw [HR.out.1, HR.out.2]
      exact ⟨rfl, Fr.refl no _⟩
    · rw [hB] at HB
      have HR := Lib.hid (show leV n d = leF n d ∧ leE n d = 0 by simp [leV, leE, hA, hB])
      obtain ⟨n0, n1⟩ := isK_t.1 hA
      obtain ⟨d0, d1⟩ := isD_t.1 hB
      obtain ⟨b1, b2⟩ := leF_bd n0 n1 d0 d1
      unfold leF at HR b1 b2
      clear hA hB
      go_enter Try.func15, Try.ntmps15
      go_wp2_with fail
      refine (HA.out _).mono ?_
      rintro e w1 ⟨rfl, rfl⟩
      go_wp2_with fail
      refine (HB.out _).mono ?_
      rintro e w1 ⟨rfl, rfl⟩
      go_wp2_with fail
      
      go_ret2
      rw [HR.out.1, HR.out.2]
      exact ⟨rfl, Fr.refl no _⟩

set_option maxHeartbeats 1000000 in
theorem stepR_any (n d : Int) (w : World) : Calls Try.prog 17 #[.int .i64 n, .int .i64 d] w fun e w' => e = .returned (.tuple #[.int .i64 (stV n d), .int .i64 (leE n d)]) ∧ Fr no w w' := by
  have HL := Lib.hid (fun w => lengthR_any n d w)
  cases hk : isK n && isD d
  · have HR := Lib.hid (show stV n d = 0 ∧ leE n d = 2 by simp only [stV, leE, hk]; exact ⟨rfl, rfl⟩)
    rw [show leV n d = 0 by simp only [leV, hk]; rfl, HR.out.2] at HL
    clear hk
    go_enter Try.func17, Try.ntmps17
    go_wp2_with fail
    refine (HL.out _).mono ?_
    rintro e w1 ⟨rfl, f1⟩
    have HF1 := Lib.hid f1
    clear f1
    go_wp2_with fail
    go_ret2
    rw [HR.out.1, HR.out.2]
    exact ⟨rfl, HF1.out⟩
  · have HR := Lib.hid (show stV n d = stF n d ∧ leE n d = 0 by simp only [stV, leE, hk]; exact ⟨rfl, rfl⟩)
    rw [show leV n d = leF n d by simp only [leV, hk]; rfl, HR.out.2] at HL
    obtain ⟨h1, h2⟩ := Bool.and_eq_true_iff.1 hk
    obtain ⟨n0, n1⟩ := isK_t.1 h1
    obtain ⟨d0, d1⟩ := isD_t.1 h2
    obtain ⟨b1, b2⟩ := leF_bd n0 n1 d0 d1
    obtain ⟨b3, b4⟩ := stF_bd n0 n1 d0 d1
    have HG := Lib.hid (fun w => growthR_any (leF n d) d w)
    have e0 : isT (leF n d) = true := isT_t.2 ⟨by omega, by simp only [MT]; omega⟩
    rw [show grV (leF n d) d = grF (leF n d) d by simp [grV, e0, h2], show grE (leF n d) d = 0 by simp [grE, e0, h2]] at HG
    unfold stF at HR b3 b4
    clear hk h1 h2 e0
    generalize grF (leF n d) d = g at *
    generalize leF n d = l at *
    go_enter Try.func17, Try.ntmps17
    go_wp2_with fail
    refine (HL.out _).mono ?_
    rintro e w1 ⟨rfl, f1⟩
    have HF1 := Lib.hid f1
    clear f1
    go_wp2_with fail
    refine (HG.out _).mono ?_
    rintro e w2 ⟨rfl, f2⟩
    have HF2 := Lib.hid (HF1.out.noTrans f2)
    clear f2
    go_wp2_with fail
    go_ret2
    rw [HR.out.1, HR.out.2]
    exact ⟨rfl, HF2.out⟩

set_option maxHeartbeats 1000000 in
theorem spread_any (a b n d : Int) (w : World) : Calls Try.prog 18 #[.int .i64 a, .int .i64 b, .int .i64 n, .int .i64 d] w fun e w' => e = .returned (.tuple #[.int .i64 (spV a b n d), .int .i64 (spE a b n d)]) ∧ Fr no w w' := by
  have H0 := Lib.hid (fun w => isP_any a w)
  have H1 := Lib.hid (fun w => isP_any b w)
  have H2 := Lib.hid (fun w => isK_any n w)
  have H3 := Lib.hid (fun w => isD_any d w)
  cases k0 : isP a
  · rw [k0] at H0
    have HR := Lib.hid (show spV a b n d = 0 ∧ spE a b n d = 2 by simp [spV, spE, k0])
    clear k0
    go_enter Try.func18, Try.ntmps18
    go_wp2_with fail
    refine (H0.out _).mono ?_
    rintro e w1 ⟨rfl, rfl⟩
    go_wp2_with fail
    go_ret2
    rw [HR.out.1, HR.out.2]
    exact ⟨rfl, Fr.refl no _⟩
  · rw [k0] at H0
    cases k1 : isP b
    · rw [k1] at H1
      have HR := Lib.hid (show spV a b n d = 0 ∧ spE a b n d = 2 by simp [spV, spE, k0, k1])
      clear k0 k1
      go_enter Try.func18, Try.ntmps18
      go_wp2_with fail
      refine (H0.out _).mono ?_
      rintro e w1 ⟨rfl, rfl⟩
      go_wp2_with fail
      refine (H1.out _).mono ?_
      rintro e w1 ⟨rfl, rfl⟩
      go_wp2_with fail
      go_ret2
      rw [HR.out.1, HR.out.2]
      exact ⟨rfl, Fr.refl no _⟩
    · rw [k1] at H1
      cases k2 : isK n
      · rw [k2] at H2
        have HR := Lib.hid (show spV a b n d = 0 ∧ spE a b n d = 2 by simp [spV, spE, k0, k1, k2])
        clear k0 k1 k2
        go_enter Try.func18, Try.ntmps18
        go_wp2_with fail
        refine (H0.out _).mono ?_
        rintro e w1 ⟨rfl, rfl⟩
        go_wp2_with fail
        refine (H1.out _).mono ?_
        rintro e w1 ⟨rfl, rfl⟩
        go_wp2_with fail
        refine (H2.out _).mono ?_
        rintro e w1 ⟨rfl, rfl⟩
        go_wp2_with fail
        go_ret2
        rw [HR.out.1, HR.out.2]
        exact ⟨rfl, Fr.refl no _⟩
      · rw [k2] at H2
        cases k3 : isD d
        · rw [k3] at H3
          have HR := Lib.hid (show spV a b n d = 0 ∧ spE a b n d = 2 by simp [spV, spE, k0, k1, k2, k3])
          clear k0 k1 k2 k3
          go_enter Try.func18, Try.ntmps18
          go_wp2_with fail
          refine (H0.out _).mono ?_
          rintro e w1 ⟨rfl, rfl⟩
          go_wp2_with fail
          refine (H1.out _).mono ?_
          rintro e w1 ⟨rfl, rfl⟩
          go_wp2_with fail
          refine (H2.out _).mono ?_
          rintro e w1 ⟨rfl, rfl⟩
          go_wp2_with fail
          refine (H3.out _).mono ?_
          rintro e w1 ⟨rfl, rfl⟩
          go_wp2_with fail
          go_ret2
          rw [HR.out.1, HR.out.2]
          exact ⟨rfl, Fr.refl no _⟩
        · rw [k3] at H3
          have HR := Lib.hid (show spV a b n d = (a + b) * stF n d ∧ spE a b n d = 0 by simp [spV, spE, k0, k1, k2, k3])
          obtain ⟨a0, a1⟩ := isP_t.1 k0
          obtain ⟨b0, b1⟩ := isP_t.1 k1
          obtain ⟨n0, n1⟩ := isK_t.1 k2
          obtain ⟨d0, d1⟩ := isD_t.1 k3
          have HC := Lib.hid (fun w => pspread_any (a + b) n d w (by omega) (by omega) n0 n1 d0 d1)
          generalize (a + b) * stF n d = g at *
          clear k0 k1 k2 k3
          go_enter Try.func18, Try.ntmps18
          go_wp2_with fail
          refine (H0.out _).mono ?_
          rintro e w1 ⟨rfl, rfl⟩
          go_wp2_with fail
          refine (H1.out _).mono ?_
          rintro e w1 ⟨rfl, rfl⟩
          go_wp2_with fail
          refine (H2.out _).mono ?_
          rintro e w1 ⟨rfl, rfl⟩
          go_wp2_with fail
          refine (H3.out _).mono ?_
          rintro e w1 ⟨rfl, rfl⟩
          go_wp2_with fail
          refine (HC.out _).mono ?_
          rintro e w1 ⟨rfl, f1⟩
          have HF1 := Lib.hid f1
          clear f1
          go_wp2_with fail
          go_ret2
          rw [HR.out.1, HR.out.2]
          exact ⟨rfl, HF1.out⟩
set_option maxHeartbeats 1000000 in
theorem spreadR_any (a b n d : Int) (w : World) : Calls Try.prog 19 #[.int .i64 a, .int .i64 b, .int .i64 n, .int .i64 d] w fun e w' => e = .returned (.tuple #[.int .i64 (spV a b n d), .int .i64 (spE a b n d)]) ∧ Fr no w w' := by
  have HS := Lib.hid (fun w => stepR_any n d w)
  cases k0 : isP a
  · have HR := Lib.hid (show spV a b n d = 0 ∧ spE a b n d = 2 by simp [spV, spE, k0])
    by_cases q0 : a < 0
    · clear k0
      (go_enter Try.func19, Try.ntmps19); (go_wp2_with fail)
      go_ret2
      rw [HR.out.1, HR.out.2]
      exact ⟨rfl, Fr.refl no _⟩
    · have q1 : 32 < a := by simp [isP, inR] at k0; omega
      have q2 : 0 ≤ a := by omega
      clear k0 q0
      (go_enter Try.func19, Try.ntmps19); (go_wp2_with fail)
      go_ret2
      rw [HR.out.1, HR.out.2]
      exact ⟨rfl, Fr.refl no _⟩
  · obtain ⟨a0, a1⟩ := isP_t.1 k0
    cases k1 : isP b
    · have HR := Lib.hid (show spV a b n d = 0 ∧ spE a b n d = 2 by simp [spV, spE, k0, k1])
      by_cases q0 : b < 0
      · clear k0 k1
        (go_enter Try.func19, Try.ntmps19); (go_wp2_with fail)
        go_ret2
        rw [HR.out.1, HR.out.2]
        exact ⟨rfl, Fr.refl no _⟩
      · have q1 : 32 < b := by simp [isP, inR] at k1; omega
        have q2 : 0 ≤ b := by omega
        clear k0 k1 q0
        (go_enter Try.func19, Try.ntmps19); (go_wp2_with fail)
        go_ret2
        rw [HR.out.1, HR.out.2]
        exact ⟨rfl, Fr.refl no _⟩
    · obtain ⟨b0, b1⟩ := isP_t.1 k1
      cases hk : isK n && isD d
      · have HR := Lib.hid (show spV a b n d = 0 ∧ spE a b n d = 2 by simp only [spV, spE, Bool.and_assoc, hk, Bool.and_false]; exact ⟨rfl, rfl⟩)
        rw [show stV n d = 0 by simp only [stV, hk]; rfl, show leE n d = 2 by simp only [leE, hk]; rfl] at HS
        clear k0 k1 hk
        (go_enter Try.func19, Try.ntmps19); (go_wp2_with fail)
        refine (HS.out _).mono ?_
        rintro e w1 ⟨rfl, f1⟩
        have HF1 := Lib.hid f1
        clear f1
        go_wp2_with fail
        go_ret2
        rw [HR.out.1, HR.out.2]
        exact ⟨rfl, HF1.out⟩
      · have HR := Lib.hid (show spV a b n d = (a + b) * stF n d ∧ spE a b n d = 0 by simp only [spV, spE, Bool.and_assoc, hk, k0, k1]; exact ⟨rfl, rfl⟩)
        rw [show stV n d = stF n d by simp only [stV, hk]; rfl, show leE n d = 0 by simp only [leE, hk]; rfl] at HS
        obtain ⟨h1, h2⟩ := Bool.and_eq_true_iff.1 hk
        obtain ⟨n0, n1⟩ := isK_t.1 h1
        obtain ⟨d0, d1⟩ := isD_t.1 h2
        obtain ⟨b2, b3⟩ := sp_bd (s := a + b) (by omega) (by omega) n0 n1 d0 d1
        clear k0 k1 hk h1 h2
        generalize stF n d = g at *
        obtain ⟨m, hm⟩ : ∃ m, (a + b) * g = m := ⟨_, rfl⟩
        rw [hm] at b2 b3 HR
        have hw : IntKind.i64.wrap ((a + b) * g) = m := by rw [hm]; exact IntWalk.i64_in _ (by omega)
        have hm2 : ((a + b) * g) = m := hm
        (go_enter Try.func19, Try.ntmps19); (go_wp2_with fail)
        refine (HS.out _).mono ?_
        rintro e w1 ⟨rfl, f1⟩
        have HF1 := Lib.hid f1
        clear f1
        go_wp2_with fail
        go_ret2
        rw [HR.out.1, HR.out.2]
        first | exact ⟨rfl, HF1.out⟩ | exact ⟨by simp [hm2], HF1.out⟩

end Go.Proofs.Ytgddmmlkpajpmaa
