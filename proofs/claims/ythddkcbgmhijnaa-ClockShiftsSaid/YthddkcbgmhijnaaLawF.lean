/- ClockOwn. -/
import Derived.Test.YthddkcbgmhijnaaLawE
namespace Go.Proofs.Ythddkcbgmhijnaa
set_option linter.unusedVariables false
open Go.RowKit
/-- What the law asks of a slot that has a window. -/
structure Own (o d s b fr se to nx nxE fi : Int) : Prop where
  b0 : 0 ≤ b
  bf : b ≤ fr
  fs : fr ≤ se
  s1 : se ≤ 1099511627777
  nxt : nxE = 0 → (se < nx ∨ nx ≤ 0) ∧ b ≤ nx
  fin : se ≤ to ∨ s * 10000 + 3220 < fi
theorem rch_mono {o d x y : Int} (hd : -100000 ≤ d) (h : x ≤ y) : rch o d x ≤ rch o d y := by
  have hx := rch_rc o d x hd
  have hy := rch_rc o d y hd
  have a := hx.lo; have b := hy.lo; have c := hx.hi; have e := hy.hi
  by_cases hh : rch o d x ≤ rch o d y
  · exact hh
  · have := hx.before (rch o d y) b (by omega)
    have := hy.after (rch o d y) (Int.le_refl _) (by omega)
    omega
theorem rch_apart {o d x y : Int} (hk : OkC o d) (h : x + 2 < y) (hl : ¬ sh o d 1099511627776 < x) : rch o d x < rch o d y ∨ rch o d y = 0 := by
  obtain ⟨r0, r1, r2, r3⟩ := rch_in hk.d1 hl
  have hm := rch_mono (o := o) hk.d1 (show x ≤ y by omega)
  by_cases hz : rch o d y = 0
  · exact .inr hz
  · refine .inl ?_
    by_cases he : rch o d x = rch o d y
    · exfalso
      have hy := rch_rc o d y hk.d1
      have h3 := r3 (by omega)
      have h4 := hy.after (rch o d x) (by omega) r1
      have := (sh_step (t := rch o d x - 1) hk).2
      rw [show rch o d x - 1 + 1 = rch o d x by omega] at this
      omega
    · omega
theorem own_ok {o d s : Int} (hk : OkC o d) (hc : csE o d s = 0) (hl : ¬ sh o d 1099511627776 < s * 10000 + 3221) :
    (inV o d s 0 = rch o d (s * 10000) ∧ inE o d s 0 = 0) ∧ (inV o d s 2120 = rch o d (s * 10000 + 2120) ∧ inE o d s 2120 = 0) ∧ (wiF o d s = rch o d (s * 10000 + 1020) ∧ wiT o d s = rch o d (s * 10000 + 3221) - 1 ∧ inE o d s 3221 = 0) := by
  have h0 := rcV_in (o := o) (d := d) (x := s * 10000) (by omega)
  have h1 := rcV_in (o := o) (d := d) (x := s * 10000 + 2120) (by omega)
  have h2 := rcV_in (o := o) (d := d) (x := s * 10000 + 1020) (by omega)
  have h3 := rcV_in (o := o) (d := d) (x := s * 10000 + 3221) hl
  simp [inV, inE, wiF, wiT, hc, h0, h1, h2, h3]
theorem own_all {o d s : Int} (hk : OkC o d) (hc : csE o d s = 0) (hl : ¬ sh o d 1099511627776 < s * 10000 + 3221) :
    Own o d s (rch o d (s * 10000)) (rch o d (s * 10000 + 1020)) (rch o d (s * 10000 + 2120)) (rch o d (s * 10000 + 3221) - 1) (inV o d (s + 1) 0) (inE o d (s + 1) 0) (sh o d 0) := by
  have hd := hk.d1
  refine ⟨(rch_rc o d _ hd).lo, rch_mono hd (by omega), rch_mono hd (by omega), (rch_rc o d _ hd).hi, fun hn => ?_, ?_⟩
  · have hc2 : csE o d (s + 1) = 0 := by
      by_cases h : csE o d (s + 1) = 0
      · exact h
      · simp [inE, h] at hn
    have hl2 : ¬ sh o d 1099511627776 < (s + 1) * 10000 + 0 := by
      intro h
      simp [inE, hc2, rcE] at hn
      rw [Int.add_zero] at h
      omega
    have e : inV o d (s + 1) 0 = rch o d (s * 10000 + 10000) := by
      simp only [inV, hc2, if_true]
      rw [(rcV_in hl2).1]
      congr 1
      omega
    rw [e]
    exact ⟨by rcases rch_apart hk (x := s * 10000 + 2120) (y := s * 10000 + 10000) (by omega) (by omega) with h | h <;> omega, rch_mono hd (by omega)⟩
  · rcases rch_apart hk (x := s * 10000 + 2120) (y := s * 10000 + 3221) (by omega) (by omega) with h | h
    · left; omega
    · right
      have := (rch_rc o d (s * 10000 + 3221) hd).after 0 (by omega) (by omega)
      omega
theorem own_no {o d s : Int} (h : inE o d s 3221 ≠ 0) : wiF o d s = 0 ∧ wiT o d s = 0 := by simp [wiF, wiT, h]
set_option maxHeartbeats 4000000 in
theorem own_law (o d s : Int) (w : World) : Calls Try.prog 9 #[.agg #[.int .i64 o, .int .i64 d], .int .i64 s] w fun e w' => e = .returned (.bool true) ∧ Fr no w w' := by
  obtain ⟨hF, c0_0, c1_0⟩ := box_clock w o d
  obtain ⟨W, hW⟩ : ∃ W, W = w.alloc (.cells #[.int .i64 o, .int .i64 d] 23 (0, 0)) := ⟨_, rfl⟩
  rw [← hW] at hF c0_0 c1_0
  have HW := Lib.hid hW
  have HF0 := Lib.hid hF
  clear hW hF
  have K1 := Lib.hid (fun w => window_any o d s w)
  by_cases he : inE o d s 3221 = 0
  · have hc : csE o d s = 0 := by
      by_cases h : csE o d s = 0
      · exact h
      · simp [inE, h] at he
    have hl : ¬ sh o d 1099511627776 < s * 10000 + 3221 := by
      intro h
      simp [inE, hc, rcE, h] at he
    obtain ⟨hk, hi⟩ := csE_0' hc
    obtain ⟨s0, s1⟩ := inR_t.1 hi
    obtain ⟨⟨e1, e2⟩, ⟨e3, e4⟩, e5, e6, e7⟩ := own_ok (OkC.of hk) hc hl
    have K2 := Lib.hid (fun w => send_any o d s w)
    have K3 := Lib.hid (fun w => begin_any o d s w)
    have K4 := Lib.hid (fun w => begin_any o d (s + 1) w)
    have K5 := Lib.hid (fun w => show_any o d 0 w)
    rw [e5, e6, e7] at K1
    rw [e3, e4] at K2
    rw [e1, e2] at K3
    rw [(shE_0 hk (show isT 0 = true from rfl)).1, (shE_0 hk (show isT 0 = true from rfl)).2] at K5
    obtain ⟨u1, u2⟩ := fl_bd2 (OkC.of hk) (show 0 ≤ (0 : Int) by omega) (show (0 : Int) ≤ MT by simp only [MT]; omega)
    have hO := own_all (OkC.of hk) hc hl
    clear e1 e2 e3 e4 e5 e6 e7 hc hl hk hi he
    generalize rch o d (s * 10000) = b at *
    generalize rch o d (s * 10000 + 1020) = fr at *
    generalize rch o d (s * 10000 + 2120) = se at *
    generalize rch o d (s * 10000 + 3221) - 1 = to at *
    generalize inV o d (s + 1) 0 = nx at *
    generalize inE o d (s + 1) 0 = nxE at *
    generalize sh o d 0 = fi at *
    obtain ⟨o0, o1, o2, o3, o4, o5⟩ := hO
    by_cases hn : nxE = 0
    · subst hn
      obtain ⟨p1, p2⟩ := o4 rfl
      clear o4
      have g1 : ¬ nx < b := by omega
      by_cases hq : nx ≤ se
      · have g2 : nx ≤ 0 := by omega
        clear p1
        by_cases hz : se ≤ to
        · clear o5
          go_enter Try.func9, Try.ntmps9
          go_wp2_with fail
          rw [← HW.out]
          refine (awake_any _).mono ?_
          rintro e w1 ⟨rfl, f1⟩
          have HF1 := Lib.hid (HF0.out.noTrans f1)
          have c0_1 := f1.keepc c0_0
          have c1_1 := f1.keepc c1_0
          clear f1 c0_0 c1_0
          go_wp2_with fail
          refine (K1.out _).mono ?_
          rintro e w2 ⟨rfl, f2⟩
          have HF2 := Lib.hid (HF1.out.noTrans f2)
          have c0_2 := f2.keepc c0_1
          have c1_2 := f2.keepc c1_1
          clear f2 c0_1 c1_1
          go_wp2_with fail
          refine (K2.out _).mono ?_
          rintro e w3 ⟨rfl, f3⟩
          have HF3 := Lib.hid (HF2.out.noTrans f3)
          have c0_3 := f3.keepc c0_2
          have c1_3 := f3.keepc c1_2
          clear f3 c0_2 c1_2
          go_wp2_with fail
          refine (K3.out _).mono ?_
          rintro e w4 ⟨rfl, f4⟩
          have HF4 := Lib.hid (HF3.out.noTrans f4)
          have c0_4 := f4.keepc c0_3
          have c1_4 := f4.keepc c1_3
          clear f4 c0_3 c1_3
          go_wp2_with fail
          refine (K4.out _).mono ?_
          rintro e w5 ⟨rfl, f5⟩
          have HF5 := Lib.hid (HF4.out.noTrans f5)
          have c0_5 := f5.keepc c0_4
          have c1_5 := f5.keepc c1_4
          clear f5 c0_4 c1_4
          go_wp2_with fail
          refine (K5.out _).mono ?_
          rintro e w6 ⟨rfl, f6⟩
          have HF6 := Lib.hid (HF5.out.noTrans f6)
          have c0_6 := f6.keepc c0_5
          have c1_6 := f6.keepc c1_5
          clear f6 c0_5 c1_5
          go_wp2_with fail
          go_ret
          exact ⟨by first | rfl | (simp; done) | (simp; omega), HF6.out⟩
        · have o6 : s * 10000 + 3220 < fi := by omega
          clear o5
          go_enter Try.func9, Try.ntmps9
          go_wp2_with fail
          rw [← HW.out]
          refine (awake_any _).mono ?_
          rintro e w1 ⟨rfl, f1⟩
          have HF1 := Lib.hid (HF0.out.noTrans f1)
          have c0_1 := f1.keepc c0_0
          have c1_1 := f1.keepc c1_0
          clear f1 c0_0 c1_0
          go_wp2_with fail
          refine (K1.out _).mono ?_
          rintro e w2 ⟨rfl, f2⟩
          have HF2 := Lib.hid (HF1.out.noTrans f2)
          have c0_2 := f2.keepc c0_1
          have c1_2 := f2.keepc c1_1
          clear f2 c0_1 c1_1
          go_wp2_with fail
          refine (K2.out _).mono ?_
          rintro e w3 ⟨rfl, f3⟩
          have HF3 := Lib.hid (HF2.out.noTrans f3)
          have c0_3 := f3.keepc c0_2
          have c1_3 := f3.keepc c1_2
          clear f3 c0_2 c1_2
          go_wp2_with fail
          refine (K3.out _).mono ?_
          rintro e w4 ⟨rfl, f4⟩
          have HF4 := Lib.hid (HF3.out.noTrans f4)
          have c0_4 := f4.keepc c0_3
          have c1_4 := f4.keepc c1_3
          clear f4 c0_3 c1_3
          go_wp2_with fail
          refine (K4.out _).mono ?_
          rintro e w5 ⟨rfl, f5⟩
          have HF5 := Lib.hid (HF4.out.noTrans f5)
          have c0_5 := f5.keepc c0_4
          have c1_5 := f5.keepc c1_4
          clear f5 c0_4 c1_4
          go_wp2_with fail
          refine (K5.out _).mono ?_
          rintro e w6 ⟨rfl, f6⟩
          have HF6 := Lib.hid (HF5.out.noTrans f6)
          have c0_6 := f6.keepc c0_5
          have c1_6 := f6.keepc c1_5
          clear f6 c0_5 c1_5
          go_wp2_with fail
          go_ret
          exact ⟨by first | rfl | (simp; done) | (simp; omega), HF6.out⟩
      · clear p1
        by_cases hz : se ≤ to
        · clear o5
          go_enter Try.func9, Try.ntmps9
          go_wp2_with fail
          rw [← HW.out]
          refine (awake_any _).mono ?_
          rintro e w1 ⟨rfl, f1⟩
          have HF1 := Lib.hid (HF0.out.noTrans f1)
          have c0_1 := f1.keepc c0_0
          have c1_1 := f1.keepc c1_0
          clear f1 c0_0 c1_0
          go_wp2_with fail
          refine (K1.out _).mono ?_
          rintro e w2 ⟨rfl, f2⟩
          have HF2 := Lib.hid (HF1.out.noTrans f2)
          have c0_2 := f2.keepc c0_1
          have c1_2 := f2.keepc c1_1
          clear f2 c0_1 c1_1
          go_wp2_with fail
          refine (K2.out _).mono ?_
          rintro e w3 ⟨rfl, f3⟩
          have HF3 := Lib.hid (HF2.out.noTrans f3)
          have c0_3 := f3.keepc c0_2
          have c1_3 := f3.keepc c1_2
          clear f3 c0_2 c1_2
          go_wp2_with fail
          refine (K3.out _).mono ?_
          rintro e w4 ⟨rfl, f4⟩
          have HF4 := Lib.hid (HF3.out.noTrans f4)
          have c0_4 := f4.keepc c0_3
          have c1_4 := f4.keepc c1_3
          clear f4 c0_3 c1_3
          go_wp2_with fail
          refine (K4.out _).mono ?_
          rintro e w5 ⟨rfl, f5⟩
          have HF5 := Lib.hid (HF4.out.noTrans f5)
          have c0_5 := f5.keepc c0_4
          have c1_5 := f5.keepc c1_4
          clear f5 c0_4 c1_4
          go_wp2_with fail
          refine (K5.out _).mono ?_
          rintro e w6 ⟨rfl, f6⟩
          have HF6 := Lib.hid (HF5.out.noTrans f6)
          have c0_6 := f6.keepc c0_5
          have c1_6 := f6.keepc c1_5
          clear f6 c0_5 c1_5
          go_wp2_with fail
          go_ret
          exact ⟨by first | rfl | (simp; done) | (simp; omega), HF6.out⟩
        · have o6 : s * 10000 + 3220 < fi := by omega
          clear o5
          go_enter Try.func9, Try.ntmps9
          go_wp2_with fail
          rw [← HW.out]
          refine (awake_any _).mono ?_
          rintro e w1 ⟨rfl, f1⟩
          have HF1 := Lib.hid (HF0.out.noTrans f1)
          have c0_1 := f1.keepc c0_0
          have c1_1 := f1.keepc c1_0
          clear f1 c0_0 c1_0
          go_wp2_with fail
          refine (K1.out _).mono ?_
          rintro e w2 ⟨rfl, f2⟩
          have HF2 := Lib.hid (HF1.out.noTrans f2)
          have c0_2 := f2.keepc c0_1
          have c1_2 := f2.keepc c1_1
          clear f2 c0_1 c1_1
          go_wp2_with fail
          refine (K2.out _).mono ?_
          rintro e w3 ⟨rfl, f3⟩
          have HF3 := Lib.hid (HF2.out.noTrans f3)
          have c0_3 := f3.keepc c0_2
          have c1_3 := f3.keepc c1_2
          clear f3 c0_2 c1_2
          go_wp2_with fail
          refine (K3.out _).mono ?_
          rintro e w4 ⟨rfl, f4⟩
          have HF4 := Lib.hid (HF3.out.noTrans f4)
          have c0_4 := f4.keepc c0_3
          have c1_4 := f4.keepc c1_3
          clear f4 c0_3 c1_3
          go_wp2_with fail
          refine (K4.out _).mono ?_
          rintro e w5 ⟨rfl, f5⟩
          have HF5 := Lib.hid (HF4.out.noTrans f5)
          have c0_5 := f5.keepc c0_4
          have c1_5 := f5.keepc c1_4
          clear f5 c0_4 c1_4
          go_wp2_with fail
          refine (K5.out _).mono ?_
          rintro e w6 ⟨rfl, f6⟩
          have HF6 := Lib.hid (HF5.out.noTrans f6)
          have c0_6 := f6.keepc c0_5
          have c1_6 := f6.keepc c1_5
          clear f6 c0_5 c1_5
          go_wp2_with fail
          go_ret
          exact ⟨by first | rfl | (simp; done) | (simp; omega), HF6.out⟩
    · have hn2 : (nxE == 0) = false := by simpa using hn
      clear o4 hn
      by_cases hz : se ≤ to
      · clear o5
        go_enter Try.func9, Try.ntmps9
        go_wp2_with fail
        rw [← HW.out]
        refine (awake_any _).mono ?_
        rintro e w1 ⟨rfl, f1⟩
        have HF1 := Lib.hid (HF0.out.noTrans f1)
        have c0_1 := f1.keepc c0_0
        have c1_1 := f1.keepc c1_0
        clear f1 c0_0 c1_0
        go_wp2_with fail
        refine (K1.out _).mono ?_
        rintro e w2 ⟨rfl, f2⟩
        have HF2 := Lib.hid (HF1.out.noTrans f2)
        have c0_2 := f2.keepc c0_1
        have c1_2 := f2.keepc c1_1
        clear f2 c0_1 c1_1
        go_wp2_with fail
        refine (K2.out _).mono ?_
        rintro e w3 ⟨rfl, f3⟩
        have HF3 := Lib.hid (HF2.out.noTrans f3)
        have c0_3 := f3.keepc c0_2
        have c1_3 := f3.keepc c1_2
        clear f3 c0_2 c1_2
        go_wp2_with fail
        refine (K3.out _).mono ?_
        rintro e w4 ⟨rfl, f4⟩
        have HF4 := Lib.hid (HF3.out.noTrans f4)
        have c0_4 := f4.keepc c0_3
        have c1_4 := f4.keepc c1_3
        clear f4 c0_3 c1_3
        go_wp2_with fail
        refine (K4.out _).mono ?_
        rintro e w5 ⟨rfl, f5⟩
        have HF5 := Lib.hid (HF4.out.noTrans f5)
        have c0_5 := f5.keepc c0_4
        have c1_5 := f5.keepc c1_4
        clear f5 c0_4 c1_4
        go_wp2_with fail
        refine (K5.out _).mono ?_
        rintro e w6 ⟨rfl, f6⟩
        have HF6 := Lib.hid (HF5.out.noTrans f6)
        have c0_6 := f6.keepc c0_5
        have c1_6 := f6.keepc c1_5
        clear f6 c0_5 c1_5
        go_wp2_with fail
        go_ret
        exact ⟨by first | rfl | (simp; done) | (simp; omega), HF6.out⟩
      · have o6 : s * 10000 + 3220 < fi := by omega
        clear o5
        go_enter Try.func9, Try.ntmps9
        go_wp2_with fail
        rw [← HW.out]
        refine (awake_any _).mono ?_
        rintro e w1 ⟨rfl, f1⟩
        have HF1 := Lib.hid (HF0.out.noTrans f1)
        have c0_1 := f1.keepc c0_0
        have c1_1 := f1.keepc c1_0
        clear f1 c0_0 c1_0
        go_wp2_with fail
        refine (K1.out _).mono ?_
        rintro e w2 ⟨rfl, f2⟩
        have HF2 := Lib.hid (HF1.out.noTrans f2)
        have c0_2 := f2.keepc c0_1
        have c1_2 := f2.keepc c1_1
        clear f2 c0_1 c1_1
        go_wp2_with fail
        refine (K2.out _).mono ?_
        rintro e w3 ⟨rfl, f3⟩
        have HF3 := Lib.hid (HF2.out.noTrans f3)
        have c0_3 := f3.keepc c0_2
        have c1_3 := f3.keepc c1_2
        clear f3 c0_2 c1_2
        go_wp2_with fail
        refine (K3.out _).mono ?_
        rintro e w4 ⟨rfl, f4⟩
        have HF4 := Lib.hid (HF3.out.noTrans f4)
        have c0_4 := f4.keepc c0_3
        have c1_4 := f4.keepc c1_3
        clear f4 c0_3 c1_3
        go_wp2_with fail
        refine (K4.out _).mono ?_
        rintro e w5 ⟨rfl, f5⟩
        have HF5 := Lib.hid (HF4.out.noTrans f5)
        have c0_5 := f5.keepc c0_4
        have c1_5 := f5.keepc c1_4
        clear f5 c0_4 c1_4
        go_wp2_with fail
        refine (K5.out _).mono ?_
        rintro e w6 ⟨rfl, f6⟩
        have HF6 := Lib.hid (HF5.out.noTrans f6)
        have c0_6 := f6.keepc c0_5
        have c1_6 := f6.keepc c1_5
        clear f6 c0_5 c1_5
        go_wp2_with fail
        go_ret
        exact ⟨by first | rfl | (simp; done) | (simp; omega), HF6.out⟩
  · rw [(own_no he).1, (own_no he).2] at K1
    have hn2 : (inE o d s 3221 == 0) = false := by simpa using he
    generalize inE o d s 3221 = e at *
    clear he
    go_enter Try.func9, Try.ntmps9
    go_wp2_with fail
    rw [← HW.out]
    refine (awake_any _).mono ?_
    rintro e w1 ⟨rfl, f1⟩
    have HF1 := Lib.hid (HF0.out.noTrans f1)
    have c0_1 := f1.keepc c0_0
    have c1_1 := f1.keepc c1_0
    clear f1 c0_0 c1_0
    go_wp2_with fail
    refine (K1.out _).mono ?_
    rintro e w2 ⟨rfl, f2⟩
    have HF2 := Lib.hid (HF1.out.noTrans f2)
    have c0_2 := f2.keepc c0_1
    have c1_2 := f2.keepc c1_1
    clear f2 c0_1 c1_1
    go_wp2_with fail
    go_ret
    exact ⟨by first | rfl | (simp; done) | (simp; omega), HF2.out⟩
end Go.Proofs.Ythddkcbgmhijnaa
