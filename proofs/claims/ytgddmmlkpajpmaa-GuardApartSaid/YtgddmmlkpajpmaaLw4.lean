/- Fits; Apart. -/
import Derived.Test.YtgddmmlkpajpmaaLw2
namespace Go.Proofs.Ytgddmmlkpajpmaa
set_option linter.unusedVariables false
open Go.RowKit

theorem sh_next {o d t : Int} (h1 : d ≤ 100000) : sh o d t ≤ sh o d (t - 1) + 2 := by
  have e : t * d = (t - 1) * d + d := by rw [Int.sub_mul, Int.one_mul]; omega
  unfold sh fl
  rw [e]
  omega
theorem sh_far {o d t n : Int} (n0 : 0 ≤ n) (n1 : n ≤ 9000) (h1 : d ≤ 100000) : sh o d (t + n) ≤ sh o d t + n + 1 := by
  have e : (t + n) * d = t * d + n * d := Int.add_mul ..
  have h2 : n * d ≤ n * 100000 := Int.mul_le_mul_of_nonneg_left h1 n0
  unfold sh fl
  rw [e]
  omega
/-- Of a frame that is sent at v: what the window asks of the other clock. -/
theorem fit_facts {oa da ob db s : Int} (ha : inE oa da s 2120 = 0) (hb : inE ob db s 3221 = 0) :
    (inR (inV oa da s 2120) (wiF ob db s) (wiT ob db s) = true → sz (sh ob db (inV oa da s 2120) - (s * 10000 + 2120)) ≤ 1101) ∧
    (0 < inV oa da s 2120 → sz (sh ob db (inV oa da s 2120) - sh oa da (inV oa da s 2120)) ≤ 1098 → inR (inV oa da s 2120) (wiF ob db s) (wiT ob db s) = true) := by
  obtain ⟨ka, -, -, -, ⟨v0, v1⟩, ra⟩ := in_ok ha
  obtain ⟨kb, kb', ⟨s0, s1⟩, ev, -, rb⟩ := in_ok hb
  have hc : csE ob db s = 0 := csE_0 kb' (inR_t.2 ⟨s0, s1⟩)
  have hl : ¬ sh ob db 1099511627776 < s * 10000 + 3221 := by
    intro h
    simp [inE, hc, rcE, h] at hb
  have hl2 : ¬ sh ob db 1099511627776 < s * 10000 + 1020 := by omega
  have ef : wiF ob db s = rch ob db (s * 10000 + 1020) := by simp [wiF, hb, inV, hc, rcV, hl2]
  have et : wiT ob db s = inV ob db s 3221 - 1 := by simp [wiT, hb]
  have rf := rch_rc ob db (s * 10000 + 1020) kb.d1
  rw [← ef] at rf
  rw [et]
  generalize inV oa da s 2120 = v at *
  generalize inV ob db s 3221 = t at *
  generalize wiF ob db s = f at *
  clear ef et ev hl hl2 hc hb ha
  constructor
  · intro h
    obtain ⟨h1, h2⟩ := inR_t.1 h
    have := rf.after v h1 v1
    have := rb.before v v0 (by omega)
    exact sz_le.2 ⟨by omega, by omega⟩
  · intro hv h
    obtain ⟨h1, h2⟩ := sz_le.1 h
    have h3 := ra.after v (by omega) v1
    have h4 := ra.before (v - 1) (by omega) (by omega)
    have h5 := sh_next (o := oa) (t := v) ka.d2
    refine inR_t.2 ⟨?_, ?_⟩
    · by_cases hx : f ≤ v
      · exact hx
      · have := rf.before v v0 (by omega)
        omega
    · by_cases hx : v ≤ t - 1
      · exact hx
      · have := rb.after v (by omega) v1
        omega
theorem apart_facts {oa da ob db s nx : Int} (ha : inE oa da s 2120 = 0) (hm : inV oa da s 2120 + 6088 ≤ 1099511627776) (hb : inE ob db (s + 1) 2120 = 0) (hx : nx = inV ob db (s + 1) 2120)
    (h1 : sz (sh ob db nx - sh oa da nx) ≤ 1100) (h2 : sh oa da 0 ≤ s * 10000) : inV oa da s 2120 + 6088 < nx := by
  obtain ⟨ka, -, -, -, ⟨v0, v1⟩, ra⟩ := in_ok ha
  obtain ⟨kb, -, -, -, ⟨x0, x1⟩, rb⟩ := in_ok hb
  rw [← hx] at x0 x1 rb
  generalize inV oa da s 2120 = v at *
  clear ha hb hx
  obtain ⟨h3, h4⟩ := sz_le.1 h1
  have h5 := rb.after nx (by omega) x1
  have hv : 0 < v := by
    by_cases h : v = 0
    · subst h
      have := ra.after 0 (by omega) (by omega)
      omega
    · omega
  have h6 := ra.before (v - 1) (by omega) (by omega)
  have h7 := sh_next (o := oa) (t := v) ka.d2
  have h8 := sh_far (o := oa) (d := da) (t := v) (n := 6088) (by omega) (by omega) ka.d2
  by_cases h : v + 6088 < nx
  · exact h
  · have h9 := sh_mono (o := oa) (d := da) (t := nx) (u := v + 6088) ka.d1 (by omega)
    omega

set_option maxRecDepth 20000 in
set_option maxHeartbeats 4000000 in
theorem fits_law (oa da ob db s : Int) (w : World) : Calls Try.prog 7 #[.agg #[.int .i64 oa, .int .i64 da], .agg #[.int .i64 ob, .int .i64 db], .int .i64 s] w fun e w' => e = .returned (.bool true) ∧ Fr no w w' := by
  have hT := two_box w oa da ob db
  obtain ⟨W, hW⟩ : ∃ W, W = (w.alloc (.cells #[.int .i64 oa, .int .i64 da] 31 (0, 0))).alloc (.cells #[.int .i64 ob, .int .i64 db] 31 (0, 0)) := ⟨_, rfl⟩
  rw [← hW] at hT
  have HW := Lib.hid hW
  obtain ⟨hF, a0_0, a1_0, b0_0, b1_0⟩ := hT
  have HF0 := Lib.hid hF
  clear hW hF
  have K1 := Lib.hid (fun w => fits_any oa da ob db s w)
  have K2 := Lib.hid (fun w => late_any oa da ob db s w)
  by_cases he : arE oa da ob db s = 0
  · obtain ⟨ha, hb⟩ := arE_0 he
    obtain ⟨FA, FB⟩ := fit_facts ha hb
    obtain ⟨ka, ka', -, -, ⟨v0, v1⟩, -⟩ := in_ok ha
    obtain ⟨kb, kb', -, -, -, -⟩ := in_ok hb
    obtain ⟨u1, u2⟩ := fl_bd2 ka v0 v1
    obtain ⟨u3, u4⟩ := fl_bd2 kb v0 v1
    obtain ⟨-, -, ⟨s0, s1⟩, -⟩ := in_ok ha
    rw [he, show fiB oa da ob db s = inR (inV oa da s 2120) (wiF ob db s) (wiT ob db s) by simp [fiB, he]] at K1
    rw [he, show laV oa da ob db s = sh ob db (inV oa da s 2120) - (s * 10000 + 2120) by simp [laV, he]] at K2
    have K3 := Lib.hid (fun w => send_any oa da s w)
    rw [ha] at K3
    have K4 := Lib.hid (fun w => apart_any oa da ob db (inV oa da s 2120) w)
    have hv : isT (inV oa da s 2120) = true := isT_t.2 ⟨v0, v1⟩
    rw [show apV oa da ob db (inV oa da s 2120) = sh ob db (inV oa da s 2120) - sh oa da (inV oa da s 2120) by simp [apV, ka', kb', hv], show apE oa da ob db (inV oa da s 2120) = 0 by simp [apE, ka', kb', hv]] at K4
    generalize hla : sh ob db (inV oa da s 2120) - (s * 10000 + 2120) = la at *
    generalize hn : sh ob db (inV oa da s 2120) - sh oa da (inV oa da s 2120) = n at *
    have K5 := Lib.hid (fun w => size_any la w (by omega) (by omega))
    have K6 := Lib.hid (fun w => size_any n w (by omega) (by omega))
    obtain ⟨z0, z1⟩ := sz_bd (n := la) (by omega) (by omega)
    obtain ⟨y0, y1⟩ := sz_bd (n := n) (by omega) (by omega)
    clear hla hn he ha hb ka ka' kb kb' hv u1 u2 u3 u4 s0 s1
    generalize inR (inV oa da s 2120) (wiF ob db s) (wiT ob db s) = q at *
    generalize inV oa da s 2120 = v at *
    generalize sz la = l at *
    generalize sz n = m at *
    cases q
    · by_cases hv : v = 0
      · subst hv
        clear FA FB
        by_cases hl : 1101 < l
        · go_enter Try.func7, Try.ntmps7
          go_wp2_with fail
          rw [← HW.out]
          refine (awake_any _).mono ?_
          rintro e w1 ⟨rfl, f1⟩
          have HF1 := Lib.hid (HF0.out.noTrans f1)
          have a0_1 := f1.keepc a0_0
          have a1_1 := f1.keepc a1_0
          have b0_1 := f1.keepc b0_0
          have b1_1 := f1.keepc b1_0
          clear f1 HF0 a0_0 a1_0 b0_0 b1_0
          go_wp2_with fail
          refine (K1.out _).mono ?_
          rintro e w2 ⟨rfl, f2⟩
          have HF2 := Lib.hid (HF1.out.noTrans f2)
          have a0_2 := f2.keepc a0_1
          have a1_2 := f2.keepc a1_1
          have b0_2 := f2.keepc b0_1
          have b1_2 := f2.keepc b1_1
          clear f2 HF1 a0_1 a1_1 b0_1 b1_1
          go_wp2_with fail
          refine (K2.out _).mono ?_
          rintro e w3 ⟨rfl, f3⟩
          have HF3 := Lib.hid (HF2.out.noTrans f3)
          have a0_3 := f3.keepc a0_2
          have a1_3 := f3.keepc a1_2
          have b0_3 := f3.keepc b0_2
          have b1_3 := f3.keepc b1_2
          clear f3 HF2 a0_2 a1_2 b0_2 b1_2
          go_wp2_with fail
          refine (K3.out _).mono ?_
          rintro e w4 ⟨rfl, f4⟩
          have HF4 := Lib.hid (HF3.out.noTrans f4)
          have a0_4 := f4.keepc a0_3
          have a1_4 := f4.keepc a1_3
          have b0_4 := f4.keepc b0_3
          have b1_4 := f4.keepc b1_3
          clear f4 HF3 a0_3 a1_3 b0_3 b1_3
          go_wp2_with fail
          refine (K4.out _).mono ?_
          rintro e w5 ⟨rfl, f5⟩
          have HF5 := Lib.hid (HF4.out.noTrans f5)
          have a0_5 := f5.keepc a0_4
          have a1_5 := f5.keepc a1_4
          have b0_5 := f5.keepc b0_4
          have b1_5 := f5.keepc b1_4
          clear f5 HF4 a0_4 a1_4 b0_4 b1_4
          go_wp2_with fail
          refine (K5.out _).mono ?_
          rintro e w99 ⟨rfl, rfl⟩
          go_wp2_with fail
          go_ret
          exact ⟨by first | rfl | (simp; done) | (simp; omega), HF5.out⟩
        · have hl2 : l ≤ 1101 := by omega
          clear hl
          go_enter Try.func7, Try.ntmps7
          go_wp2_with fail
          rw [← HW.out]
          refine (awake_any _).mono ?_
          rintro e w1 ⟨rfl, f1⟩
          have HF1 := Lib.hid (HF0.out.noTrans f1)
          have a0_1 := f1.keepc a0_0
          have a1_1 := f1.keepc a1_0
          have b0_1 := f1.keepc b0_0
          have b1_1 := f1.keepc b1_0
          clear f1 HF0 a0_0 a1_0 b0_0 b1_0
          go_wp2_with fail
          refine (K1.out _).mono ?_
          rintro e w2 ⟨rfl, f2⟩
          have HF2 := Lib.hid (HF1.out.noTrans f2)
          have a0_2 := f2.keepc a0_1
          have a1_2 := f2.keepc a1_1
          have b0_2 := f2.keepc b0_1
          have b1_2 := f2.keepc b1_1
          clear f2 HF1 a0_1 a1_1 b0_1 b1_1
          go_wp2_with fail
          refine (K2.out _).mono ?_
          rintro e w3 ⟨rfl, f3⟩
          have HF3 := Lib.hid (HF2.out.noTrans f3)
          have a0_3 := f3.keepc a0_2
          have a1_3 := f3.keepc a1_2
          have b0_3 := f3.keepc b0_2
          have b1_3 := f3.keepc b1_2
          clear f3 HF2 a0_2 a1_2 b0_2 b1_2
          go_wp2_with fail
          refine (K3.out _).mono ?_
          rintro e w4 ⟨rfl, f4⟩
          have HF4 := Lib.hid (HF3.out.noTrans f4)
          have a0_4 := f4.keepc a0_3
          have a1_4 := f4.keepc a1_3
          have b0_4 := f4.keepc b0_3
          have b1_4 := f4.keepc b1_3
          clear f4 HF3 a0_3 a1_3 b0_3 b1_3
          go_wp2_with fail
          refine (K4.out _).mono ?_
          rintro e w5 ⟨rfl, f5⟩
          have HF5 := Lib.hid (HF4.out.noTrans f5)
          have a0_5 := f5.keepc a0_4
          have a1_5 := f5.keepc a1_4
          have b0_5 := f5.keepc b0_4
          have b1_5 := f5.keepc b1_4
          clear f5 HF4 a0_4 a1_4 b0_4 b1_4
          go_wp2_with fail
          refine (K5.out _).mono ?_
          rintro e w99 ⟨rfl, rfl⟩
          go_wp2_with fail
          go_ret
          exact ⟨by first | rfl | (simp; done) | (simp; omega), HF5.out⟩

      · have hv2 : 0 < v := by omega
        have hv3 : (v == 0) = false := by simpa using hv
        have hv4 : decide (v = 0) = false := by simpa using hv
        have hm : 1098 < m := by
          by_cases h : m ≤ 1098
          · cases FB hv2 h
          · omega
        clear FA FB
        by_cases hl : 1101 < l
        · go_enter Try.func7, Try.ntmps7
          go_wp2_with fail
          rw [← HW.out]
          refine (awake_any _).mono ?_
          rintro e w1 ⟨rfl, f1⟩
          have HF1 := Lib.hid (HF0.out.noTrans f1)
          have a0_1 := f1.keepc a0_0
          have a1_1 := f1.keepc a1_0
          have b0_1 := f1.keepc b0_0
          have b1_1 := f1.keepc b1_0
          clear f1 HF0 a0_0 a1_0 b0_0 b1_0
          go_wp2_with fail
          refine (K1.out _).mono ?_
          rintro e w2 ⟨rfl, f2⟩
          have HF2 := Lib.hid (HF1.out.noTrans f2)
          have a0_2 := f2.keepc a0_1
          have a1_2 := f2.keepc a1_1
          have b0_2 := f2.keepc b0_1
          have b1_2 := f2.keepc b1_1
          clear f2 HF1 a0_1 a1_1 b0_1 b1_1
          go_wp2_with fail
          refine (K2.out _).mono ?_
          rintro e w3 ⟨rfl, f3⟩
          have HF3 := Lib.hid (HF2.out.noTrans f3)
          have a0_3 := f3.keepc a0_2
          have a1_3 := f3.keepc a1_2
          have b0_3 := f3.keepc b0_2
          have b1_3 := f3.keepc b1_2
          clear f3 HF2 a0_2 a1_2 b0_2 b1_2
          go_wp2_with fail
          refine (K3.out _).mono ?_
          rintro e w4 ⟨rfl, f4⟩
          have HF4 := Lib.hid (HF3.out.noTrans f4)
          have a0_4 := f4.keepc a0_3
          have a1_4 := f4.keepc a1_3
          have b0_4 := f4.keepc b0_3
          have b1_4 := f4.keepc b1_3
          clear f4 HF3 a0_3 a1_3 b0_3 b1_3
          go_wp2_with fail
          refine (K4.out _).mono ?_
          rintro e w5 ⟨rfl, f5⟩
          have HF5 := Lib.hid (HF4.out.noTrans f5)
          have a0_5 := f5.keepc a0_4
          have a1_5 := f5.keepc a1_4
          have b0_5 := f5.keepc b0_4
          have b1_5 := f5.keepc b1_4
          clear f5 HF4 a0_4 a1_4 b0_4 b1_4
          go_wp2_with fail
          refine (K5.out _).mono ?_
          rintro e w99 ⟨rfl, rfl⟩
          go_wp2_with fail
          refine (K6.out _).mono ?_
          rintro e w99 ⟨rfl, rfl⟩
          go_wp2_with fail
          go_ret
          exact ⟨by first | rfl | (simp; done) | (simp; omega), HF5.out⟩
        · have hl2 : l ≤ 1101 := by omega
          clear hl
          go_enter Try.func7, Try.ntmps7
          go_wp2_with fail
          rw [← HW.out]
          refine (awake_any _).mono ?_
          rintro e w1 ⟨rfl, f1⟩
          have HF1 := Lib.hid (HF0.out.noTrans f1)
          have a0_1 := f1.keepc a0_0
          have a1_1 := f1.keepc a1_0
          have b0_1 := f1.keepc b0_0
          have b1_1 := f1.keepc b1_0
          clear f1 HF0 a0_0 a1_0 b0_0 b1_0
          go_wp2_with fail
          refine (K1.out _).mono ?_
          rintro e w2 ⟨rfl, f2⟩
          have HF2 := Lib.hid (HF1.out.noTrans f2)
          have a0_2 := f2.keepc a0_1
          have a1_2 := f2.keepc a1_1
          have b0_2 := f2.keepc b0_1
          have b1_2 := f2.keepc b1_1
          clear f2 HF1 a0_1 a1_1 b0_1 b1_1
          go_wp2_with fail
          refine (K2.out _).mono ?_
          rintro e w3 ⟨rfl, f3⟩
          have HF3 := Lib.hid (HF2.out.noTrans f3)
          have a0_3 := f3.keepc a0_2
          have a1_3 := f3.keepc a1_2
          have b0_3 := f3.keepc b0_2
          have b1_3 := f3.keepc b1_2
          clear f3 HF2 a0_2 a1_2 b0_2 b1_2
          go_wp2_with fail
          refine (K3.out _).mono ?_
          rintro e w4 ⟨rfl, f4⟩
          have HF4 := Lib.hid (HF3.out.noTrans f4)
          have a0_4 := f4.keepc a0_3
          have a1_4 := f4.keepc a1_3
          have b0_4 := f4.keepc b0_3
          have b1_4 := f4.keepc b1_3
          clear f4 HF3 a0_3 a1_3 b0_3 b1_3
          go_wp2_with fail
          refine (K4.out _).mono ?_
          rintro e w5 ⟨rfl, f5⟩
          have HF5 := Lib.hid (HF4.out.noTrans f5)
          have a0_5 := f5.keepc a0_4
          have a1_5 := f5.keepc a1_4
          have b0_5 := f5.keepc b0_4
          have b1_5 := f5.keepc b1_4
          clear f5 HF4 a0_4 a1_4 b0_4 b1_4
          go_wp2_with fail
          refine (K5.out _).mono ?_
          rintro e w99 ⟨rfl, rfl⟩
          go_wp2_with fail
          refine (K6.out _).mono ?_
          rintro e w99 ⟨rfl, rfl⟩
          go_wp2_with fail
          go_ret
          exact ⟨by first | rfl | (simp; done) | (simp; omega), HF5.out⟩

    · have hl2 : l ≤ 1101 := FA rfl
      clear FA FB
      by_cases hv : v = 0
      · subst hv
        go_enter Try.func7, Try.ntmps7
        go_wp2_with fail
        rw [← HW.out]
        refine (awake_any _).mono ?_
        rintro e w1 ⟨rfl, f1⟩
        have HF1 := Lib.hid (HF0.out.noTrans f1)
        have a0_1 := f1.keepc a0_0
        have a1_1 := f1.keepc a1_0
        have b0_1 := f1.keepc b0_0
        have b1_1 := f1.keepc b1_0
        clear f1 HF0 a0_0 a1_0 b0_0 b1_0
        go_wp2_with fail
        refine (K1.out _).mono ?_
        rintro e w2 ⟨rfl, f2⟩
        have HF2 := Lib.hid (HF1.out.noTrans f2)
        have a0_2 := f2.keepc a0_1
        have a1_2 := f2.keepc a1_1
        have b0_2 := f2.keepc b0_1
        have b1_2 := f2.keepc b1_1
        clear f2 HF1 a0_1 a1_1 b0_1 b1_1
        go_wp2_with fail
        refine (K2.out _).mono ?_
        rintro e w3 ⟨rfl, f3⟩
        have HF3 := Lib.hid (HF2.out.noTrans f3)
        have a0_3 := f3.keepc a0_2
        have a1_3 := f3.keepc a1_2
        have b0_3 := f3.keepc b0_2
        have b1_3 := f3.keepc b1_2
        clear f3 HF2 a0_2 a1_2 b0_2 b1_2
        go_wp2_with fail
        refine (K3.out _).mono ?_
        rintro e w4 ⟨rfl, f4⟩
        have HF4 := Lib.hid (HF3.out.noTrans f4)
        have a0_4 := f4.keepc a0_3
        have a1_4 := f4.keepc a1_3
        have b0_4 := f4.keepc b0_3
        have b1_4 := f4.keepc b1_3
        clear f4 HF3 a0_3 a1_3 b0_3 b1_3
        go_wp2_with fail
        refine (K4.out _).mono ?_
        rintro e w5 ⟨rfl, f5⟩
        have HF5 := Lib.hid (HF4.out.noTrans f5)
        have a0_5 := f5.keepc a0_4
        have a1_5 := f5.keepc a1_4
        have b0_5 := f5.keepc b0_4
        have b1_5 := f5.keepc b1_4
        clear f5 HF4 a0_4 a1_4 b0_4 b1_4
        go_wp2_with fail
        refine (K5.out _).mono ?_
        rintro e w99 ⟨rfl, rfl⟩
        go_wp2_with fail
        go_ret
        exact ⟨by first | rfl | (simp; done) | (simp; omega), HF5.out⟩

      · have hv2 : 0 < v := by omega
        have hv3 : (v == 0) = false := by simpa using hv
        have hv4 : decide (v = 0) = false := by simpa using hv
        by_cases hm : 1098 < m
        · go_enter Try.func7, Try.ntmps7
          go_wp2_with fail
          rw [← HW.out]
          refine (awake_any _).mono ?_
          rintro e w1 ⟨rfl, f1⟩
          have HF1 := Lib.hid (HF0.out.noTrans f1)
          have a0_1 := f1.keepc a0_0
          have a1_1 := f1.keepc a1_0
          have b0_1 := f1.keepc b0_0
          have b1_1 := f1.keepc b1_0
          clear f1 HF0 a0_0 a1_0 b0_0 b1_0
          go_wp2_with fail
          refine (K1.out _).mono ?_
          rintro e w2 ⟨rfl, f2⟩
          have HF2 := Lib.hid (HF1.out.noTrans f2)
          have a0_2 := f2.keepc a0_1
          have a1_2 := f2.keepc a1_1
          have b0_2 := f2.keepc b0_1
          have b1_2 := f2.keepc b1_1
          clear f2 HF1 a0_1 a1_1 b0_1 b1_1
          go_wp2_with fail
          refine (K2.out _).mono ?_
          rintro e w3 ⟨rfl, f3⟩
          have HF3 := Lib.hid (HF2.out.noTrans f3)
          have a0_3 := f3.keepc a0_2
          have a1_3 := f3.keepc a1_2
          have b0_3 := f3.keepc b0_2
          have b1_3 := f3.keepc b1_2
          clear f3 HF2 a0_2 a1_2 b0_2 b1_2
          go_wp2_with fail
          refine (K3.out _).mono ?_
          rintro e w4 ⟨rfl, f4⟩
          have HF4 := Lib.hid (HF3.out.noTrans f4)
          have a0_4 := f4.keepc a0_3
          have a1_4 := f4.keepc a1_3
          have b0_4 := f4.keepc b0_3
          have b1_4 := f4.keepc b1_3
          clear f4 HF3 a0_3 a1_3 b0_3 b1_3
          go_wp2_with fail
          refine (K4.out _).mono ?_
          rintro e w5 ⟨rfl, f5⟩
          have HF5 := Lib.hid (HF4.out.noTrans f5)
          have a0_5 := f5.keepc a0_4
          have a1_5 := f5.keepc a1_4
          have b0_5 := f5.keepc b0_4
          have b1_5 := f5.keepc b1_4
          clear f5 HF4 a0_4 a1_4 b0_4 b1_4
          go_wp2_with fail
          refine (K5.out _).mono ?_
          rintro e w99 ⟨rfl, rfl⟩
          go_wp2_with fail
          refine (K6.out _).mono ?_
          rintro e w99 ⟨rfl, rfl⟩
          go_wp2_with fail
          go_ret
          exact ⟨by first | rfl | (simp; done) | (simp; omega), HF5.out⟩
        · have hm2 : m ≤ 1098 := by omega
          clear hm
          go_enter Try.func7, Try.ntmps7
          go_wp2_with fail
          rw [← HW.out]
          refine (awake_any _).mono ?_
          rintro e w1 ⟨rfl, f1⟩
          have HF1 := Lib.hid (HF0.out.noTrans f1)
          have a0_1 := f1.keepc a0_0
          have a1_1 := f1.keepc a1_0
          have b0_1 := f1.keepc b0_0
          have b1_1 := f1.keepc b1_0
          clear f1 HF0 a0_0 a1_0 b0_0 b1_0
          go_wp2_with fail
          refine (K1.out _).mono ?_
          rintro e w2 ⟨rfl, f2⟩
          have HF2 := Lib.hid (HF1.out.noTrans f2)
          have a0_2 := f2.keepc a0_1
          have a1_2 := f2.keepc a1_1
          have b0_2 := f2.keepc b0_1
          have b1_2 := f2.keepc b1_1
          clear f2 HF1 a0_1 a1_1 b0_1 b1_1
          go_wp2_with fail
          refine (K2.out _).mono ?_
          rintro e w3 ⟨rfl, f3⟩
          have HF3 := Lib.hid (HF2.out.noTrans f3)
          have a0_3 := f3.keepc a0_2
          have a1_3 := f3.keepc a1_2
          have b0_3 := f3.keepc b0_2
          have b1_3 := f3.keepc b1_2
          clear f3 HF2 a0_2 a1_2 b0_2 b1_2
          go_wp2_with fail
          refine (K3.out _).mono ?_
          rintro e w4 ⟨rfl, f4⟩
          have HF4 := Lib.hid (HF3.out.noTrans f4)
          have a0_4 := f4.keepc a0_3
          have a1_4 := f4.keepc a1_3
          have b0_4 := f4.keepc b0_3
          have b1_4 := f4.keepc b1_3
          clear f4 HF3 a0_3 a1_3 b0_3 b1_3
          go_wp2_with fail
          refine (K4.out _).mono ?_
          rintro e w5 ⟨rfl, f5⟩
          have HF5 := Lib.hid (HF4.out.noTrans f5)
          have a0_5 := f5.keepc a0_4
          have a1_5 := f5.keepc a1_4
          have b0_5 := f5.keepc b0_4
          have b1_5 := f5.keepc b1_4
          clear f5 HF4 a0_4 a1_4 b0_4 b1_4
          go_wp2_with fail
          refine (K5.out _).mono ?_
          rintro e w99 ⟨rfl, rfl⟩
          go_wp2_with fail
          refine (K6.out _).mono ?_
          rintro e w99 ⟨rfl, rfl⟩
          go_wp2_with fail
          go_ret
          exact ⟨by first | rfl | (simp; done) | (simp; omega), HF5.out⟩

  · rw [show fiB oa da ob db s = false by simp [fiB, he]] at K1
    rw [show laV oa da ob db s = 0 by simp [laV, he]] at K2
    generalize arE oa da ob db s = r at *
    have hr2 : (r == 0) = false := by simpa using he
    have hr3 : decide (r = 0) = false := by simpa using he
    go_enter Try.func7, Try.ntmps7
    go_wp2_with fail
    rw [← HW.out]
    refine (awake_any _).mono ?_
    rintro e w1 ⟨rfl, f1⟩
    have HF1 := Lib.hid (HF0.out.noTrans f1)
    have a0_1 := f1.keepc a0_0
    have a1_1 := f1.keepc a1_0
    have b0_1 := f1.keepc b0_0
    have b1_1 := f1.keepc b1_0
    clear f1 HF0 a0_0 a1_0 b0_0 b1_0
    go_wp2_with fail
    refine (K1.out _).mono ?_
    rintro e w2 ⟨rfl, f2⟩
    have HF2 := Lib.hid (HF1.out.noTrans f2)
    have a0_2 := f2.keepc a0_1
    have a1_2 := f2.keepc a1_1
    have b0_2 := f2.keepc b0_1
    have b1_2 := f2.keepc b1_1
    clear f2 HF1 a0_1 a1_1 b0_1 b1_1
    go_wp2_with fail
    refine (K2.out _).mono ?_
    rintro e w3 ⟨rfl, f3⟩
    have HF3 := Lib.hid (HF2.out.noTrans f3)
    have a0_3 := f3.keepc a0_2
    have a1_3 := f3.keepc a1_2
    have b0_3 := f3.keepc b0_2
    have b1_3 := f3.keepc b1_2
    clear f3 HF2 a0_2 a1_2 b0_2 b1_2
    go_wp2_with fail
    go_ret
    exact ⟨by first | rfl | (simp; done) | (simp; omega), HF3.out⟩

set_option maxRecDepth 20000 in
set_option maxHeartbeats 4000000 in
theorem apart_law (oa da ob db s : Int) (w : World) : Calls Try.prog 9 #[.agg #[.int .i64 oa, .int .i64 da], .agg #[.int .i64 ob, .int .i64 db], .int .i64 s] w fun e w' => e = .returned (.bool true) ∧ Fr no w w' := by
  have hT := two_box w oa da ob db
  obtain ⟨W, hW⟩ : ∃ W, W = (w.alloc (.cells #[.int .i64 oa, .int .i64 da] 31 (0, 0))).alloc (.cells #[.int .i64 ob, .int .i64 db] 31 (0, 0)) := ⟨_, rfl⟩
  rw [← hW] at hT
  have HW := Lib.hid hW
  obtain ⟨hF, a0_0, a1_0, b0_0, b1_0⟩ := hT
  have HF0 := Lib.hid hF
  clear hW hF
  have K1 := Lib.hid (fun w => end_any oa da s w)
  have K2 := Lib.hid (fun s w => send_any ob db s w)
  by_cases he : enE oa da s = 0
  · have ha : inE oa da s 2120 = 0 := by
      by_cases h : inE oa da s 2120 = 0
      · exact h
      · simp [enE, h] at he
    have hm : inV oa da s 2120 + 6088 ≤ 1099511627776 := by
      by_cases h : inV oa da s 2120 + 6088 > 1099511627776
      · simp [enE, ha, h] at he
      · omega
    rw [he, show enV oa da s = inV oa da s 2120 + 6088 by simp [enV, ha]; omega] at K1
    obtain ⟨ka, ka', ⟨s0, s1⟩, -, ⟨v0, v1⟩, -⟩ := in_ok ha
    have K2' := Lib.hid (fun w => K2.out (s + 1) w)
    obtain ⟨nx, hx⟩ : ∃ nx, nx = inV ob db (s + 1) 2120 := ⟨_, rfl⟩
    have HAF := Lib.hid (fun hb h1 h2 => apart_facts (nx := nx) ha hm hb hx h1 h2)
    have hio := fun h => in_ok (o := ob) (d := db) (s := s + 1) (x := 2120) h
    rw [← hx] at K2' hio
    generalize inV oa da s 2120 = v at *
    clear K2 he ha hx
    by_cases hb : inE ob db (s + 1) 2120 = 0
    · obtain ⟨kb, kb', -, -, ⟨x0, x1⟩, -⟩ := hio hb
      rw [hb] at K2'
      by_cases hz : nx = 0
      · subst hz
        clear hio HAF hb
        go_enter Try.func9, Try.ntmps9
        go_wp2_with fail
        rw [← HW.out]
        refine (awake_any _).mono ?_
        rintro e w1 ⟨rfl, f1⟩
        have HF1 := Lib.hid (HF0.out.noTrans f1)
        have a0_1 := f1.keepc a0_0
        have a1_1 := f1.keepc a1_0
        have b0_1 := f1.keepc b0_0
        have b1_1 := f1.keepc b1_0
        clear f1 HF0 a0_0 a1_0 b0_0 b1_0
        go_wp2_with fail
        refine (K1.out _).mono ?_
        rintro e w2 ⟨rfl, f2⟩
        have HF2 := Lib.hid (HF1.out.noTrans f2)
        have a0_2 := f2.keepc a0_1
        have a1_2 := f2.keepc a1_1
        have b0_2 := f2.keepc b0_1
        have b1_2 := f2.keepc b1_1
        clear f2 HF1 a0_1 a1_1 b0_1 b1_1
        go_wp2_with fail
        refine (K2'.out _).mono ?_
        rintro e w3 ⟨rfl, f3⟩
        have HF3 := Lib.hid (HF2.out.noTrans f3)
        have a0_3 := f3.keepc a0_2
        have a1_3 := f3.keepc a1_2
        have b0_3 := f3.keepc b0_2
        have b1_3 := f3.keepc b1_2
        clear f3 HF2 a0_2 a1_2 b0_2 b1_2
        go_wp2_with fail
        go_ret
        exact ⟨by first | rfl | (simp; done) | (simp; omega), HF3.out⟩

      · have hz2 : (nx == 0) = false := by simpa using hz
        have hz3 : decide (nx = 0) = false := by simpa using hz
        have K3 := Lib.hid (fun w => show_any oa da 0 w)
        have K4 := Lib.hid (fun w => apart_any oa da ob db nx w)
        have h0 : isT 0 = true := rfl
        have hn : isT nx = true := isT_t.2 ⟨x0, x1⟩
        rw [show shV oa da 0 = sh oa da 0 by simp [shV, ka', h0], show shE oa da 0 = 0 by simp [shE, ka', h0]] at K3
        rw [show apV oa da ob db nx = sh ob db nx - sh oa da nx by simp [apV, ka', kb', hn], show apE oa da ob db nx = 0 by simp [apE, ka', kb', hn]] at K4
        obtain ⟨u1, u2⟩ := fl_bd2 ka (show (0 : Int) ≤ 0 by omega) (show (0 : Int) ≤ MT by simp only [MT]; omega)
        obtain ⟨u3, u4⟩ := fl_bd2 kb (isT_t.1 hn).1 (isT_t.1 hn).2
        obtain ⟨u5, u6⟩ := fl_bd2 ka (isT_t.1 hn).1 (isT_t.1 hn).2
        have HH := HAF.out hb
        generalize hq : sh ob db nx - sh oa da nx = n at *
        have K5 := Lib.hid (fun w => size_any n w (by omega) (by omega))
        obtain ⟨y0, y1⟩ := sz_bd (n := n) (by omega) (by omega)
        clear hq u3 u4 u5 u6 h0 hn ka ka' kb kb' hb hio HAF hz hm x0 x1
        generalize sz n = m at *
        generalize sh oa da 0 = fi at *
        by_cases g1 : 1100 < m
        · clear HH
          go_enter Try.func9, Try.ntmps9
          go_wp2_with fail
          rw [← HW.out]
          refine (awake_any _).mono ?_
          rintro e w1 ⟨rfl, f1⟩
          have HF1 := Lib.hid (HF0.out.noTrans f1)
          have a0_1 := f1.keepc a0_0
          have a1_1 := f1.keepc a1_0
          have b0_1 := f1.keepc b0_0
          have b1_1 := f1.keepc b1_0
          clear f1 HF0 a0_0 a1_0 b0_0 b1_0
          go_wp2_with fail
          refine (K1.out _).mono ?_
          rintro e w2 ⟨rfl, f2⟩
          have HF2 := Lib.hid (HF1.out.noTrans f2)
          have a0_2 := f2.keepc a0_1
          have a1_2 := f2.keepc a1_1
          have b0_2 := f2.keepc b0_1
          have b1_2 := f2.keepc b1_1
          clear f2 HF1 a0_1 a1_1 b0_1 b1_1
          go_wp2_with fail
          refine (K2'.out _).mono ?_
          rintro e w3 ⟨rfl, f3⟩
          have HF3 := Lib.hid (HF2.out.noTrans f3)
          have a0_3 := f3.keepc a0_2
          have a1_3 := f3.keepc a1_2
          have b0_3 := f3.keepc b0_2
          have b1_3 := f3.keepc b1_2
          clear f3 HF2 a0_2 a1_2 b0_2 b1_2
          go_wp2_with fail
          refine (K3.out _).mono ?_
          rintro e w4 ⟨rfl, f4⟩
          have HF4 := Lib.hid (HF3.out.noTrans f4)
          have a0_4 := f4.keepc a0_3
          have a1_4 := f4.keepc a1_3
          have b0_4 := f4.keepc b0_3
          have b1_4 := f4.keepc b1_3
          clear f4 HF3 a0_3 a1_3 b0_3 b1_3
          go_wp2_with fail
          refine (K4.out _).mono ?_
          rintro e w5 ⟨rfl, f5⟩
          have HF5 := Lib.hid (HF4.out.noTrans f5)
          have a0_5 := f5.keepc a0_4
          have a1_5 := f5.keepc a1_4
          have b0_5 := f5.keepc b0_4
          have b1_5 := f5.keepc b1_4
          clear f5 HF4 a0_4 a1_4 b0_4 b1_4
          go_wp2_with fail
          refine (K5.out _).mono ?_
          rintro e w99 ⟨rfl, rfl⟩
          go_wp2_with fail
          go_ret
          exact ⟨by first | rfl | (simp; done) | (simp; omega), HF5.out⟩

        · have g2 : m ≤ 1100 := by omega
          clear g1
          by_cases g3 : s * 10000 < fi
          · clear HH
            go_enter Try.func9, Try.ntmps9
            go_wp2_with fail
            rw [← HW.out]
            refine (awake_any _).mono ?_
            rintro e w1 ⟨rfl, f1⟩
            have HF1 := Lib.hid (HF0.out.noTrans f1)
            have a0_1 := f1.keepc a0_0
            have a1_1 := f1.keepc a1_0
            have b0_1 := f1.keepc b0_0
            have b1_1 := f1.keepc b1_0
            clear f1 HF0 a0_0 a1_0 b0_0 b1_0
            go_wp2_with fail
            refine (K1.out _).mono ?_
            rintro e w2 ⟨rfl, f2⟩
            have HF2 := Lib.hid (HF1.out.noTrans f2)
            have a0_2 := f2.keepc a0_1
            have a1_2 := f2.keepc a1_1
            have b0_2 := f2.keepc b0_1
            have b1_2 := f2.keepc b1_1
            clear f2 HF1 a0_1 a1_1 b0_1 b1_1
            go_wp2_with fail
            refine (K2'.out _).mono ?_
            rintro e w3 ⟨rfl, f3⟩
            have HF3 := Lib.hid (HF2.out.noTrans f3)
            have a0_3 := f3.keepc a0_2
            have a1_3 := f3.keepc a1_2
            have b0_3 := f3.keepc b0_2
            have b1_3 := f3.keepc b1_2
            clear f3 HF2 a0_2 a1_2 b0_2 b1_2
            go_wp2_with fail
            refine (K3.out _).mono ?_
            rintro e w4 ⟨rfl, f4⟩
            have HF4 := Lib.hid (HF3.out.noTrans f4)
            have a0_4 := f4.keepc a0_3
            have a1_4 := f4.keepc a1_3
            have b0_4 := f4.keepc b0_3
            have b1_4 := f4.keepc b1_3
            clear f4 HF3 a0_3 a1_3 b0_3 b1_3
            go_wp2_with fail
            refine (K4.out _).mono ?_
            rintro e w5 ⟨rfl, f5⟩
            have HF5 := Lib.hid (HF4.out.noTrans f5)
            have a0_5 := f5.keepc a0_4
            have a1_5 := f5.keepc a1_4
            have b0_5 := f5.keepc b0_4
            have b1_5 := f5.keepc b1_4
            clear f5 HF4 a0_4 a1_4 b0_4 b1_4
            go_wp2_with fail
            refine (K5.out _).mono ?_
            rintro e w99 ⟨rfl, rfl⟩
            go_wp2_with fail
            go_ret
            exact ⟨by first | rfl | (simp; done) | (simp; omega), HF5.out⟩

          · have g4 : fi ≤ s * 10000 := by omega
            have g5 := HH g2 g4
            clear HH g3
            go_enter Try.func9, Try.ntmps9
            go_wp2_with fail
            rw [← HW.out]
            refine (awake_any _).mono ?_
            rintro e w1 ⟨rfl, f1⟩
            have HF1 := Lib.hid (HF0.out.noTrans f1)
            have a0_1 := f1.keepc a0_0
            have a1_1 := f1.keepc a1_0
            have b0_1 := f1.keepc b0_0
            have b1_1 := f1.keepc b1_0
            clear f1 HF0 a0_0 a1_0 b0_0 b1_0
            go_wp2_with fail
            refine (K1.out _).mono ?_
            rintro e w2 ⟨rfl, f2⟩
            have HF2 := Lib.hid (HF1.out.noTrans f2)
            have a0_2 := f2.keepc a0_1
            have a1_2 := f2.keepc a1_1
            have b0_2 := f2.keepc b0_1
            have b1_2 := f2.keepc b1_1
            clear f2 HF1 a0_1 a1_1 b0_1 b1_1
            go_wp2_with fail
            refine (K2'.out _).mono ?_
            rintro e w3 ⟨rfl, f3⟩
            have HF3 := Lib.hid (HF2.out.noTrans f3)
            have a0_3 := f3.keepc a0_2
            have a1_3 := f3.keepc a1_2
            have b0_3 := f3.keepc b0_2
            have b1_3 := f3.keepc b1_2
            clear f3 HF2 a0_2 a1_2 b0_2 b1_2
            go_wp2_with fail
            refine (K3.out _).mono ?_
            rintro e w4 ⟨rfl, f4⟩
            have HF4 := Lib.hid (HF3.out.noTrans f4)
            have a0_4 := f4.keepc a0_3
            have a1_4 := f4.keepc a1_3
            have b0_4 := f4.keepc b0_3
            have b1_4 := f4.keepc b1_3
            clear f4 HF3 a0_3 a1_3 b0_3 b1_3
            go_wp2_with fail
            refine (K4.out _).mono ?_
            rintro e w5 ⟨rfl, f5⟩
            have HF5 := Lib.hid (HF4.out.noTrans f5)
            have a0_5 := f5.keepc a0_4
            have a1_5 := f5.keepc a1_4
            have b0_5 := f5.keepc b0_4
            have b1_5 := f5.keepc b1_4
            clear f5 HF4 a0_4 a1_4 b0_4 b1_4
            go_wp2_with fail
            refine (K5.out _).mono ?_
            rintro e w99 ⟨rfl, rfl⟩
            go_wp2_with fail
            go_ret
            exact ⟨by first | rfl | (simp; done) | (simp; omega), HF5.out⟩

    · clear hio HAF
      generalize inE ob db (s + 1) 2120 = r at *
      have hr2 : (r == 0) = false := by simpa using hb
      have hr3 : decide (r = 0) = false := by simpa using hb
      go_enter Try.func9, Try.ntmps9
      go_wp2_with fail
      rw [← HW.out]
      refine (awake_any _).mono ?_
      rintro e w1 ⟨rfl, f1⟩
      have HF1 := Lib.hid (HF0.out.noTrans f1)
      have a0_1 := f1.keepc a0_0
      have a1_1 := f1.keepc a1_0
      have b0_1 := f1.keepc b0_0
      have b1_1 := f1.keepc b1_0
      clear f1 HF0 a0_0 a1_0 b0_0 b1_0
      go_wp2_with fail
      refine (K1.out _).mono ?_
      rintro e w2 ⟨rfl, f2⟩
      have HF2 := Lib.hid (HF1.out.noTrans f2)
      have a0_2 := f2.keepc a0_1
      have a1_2 := f2.keepc a1_1
      have b0_2 := f2.keepc b0_1
      have b1_2 := f2.keepc b1_1
      clear f2 HF1 a0_1 a1_1 b0_1 b1_1
      go_wp2_with fail
      refine (K2'.out _).mono ?_
      rintro e w3 ⟨rfl, f3⟩
      have HF3 := Lib.hid (HF2.out.noTrans f3)
      have a0_3 := f3.keepc a0_2
      have a1_3 := f3.keepc a1_2
      have b0_3 := f3.keepc b0_2
      have b1_3 := f3.keepc b1_2
      clear f3 HF2 a0_2 a1_2 b0_2 b1_2
      go_wp2_with fail
      go_ret
      exact ⟨by first | rfl | (simp; done) | (simp; omega), HF3.out⟩

  · generalize enE oa da s = r at *
    generalize enV oa da s = v at *
    have hr2 : (r == 0) = false := by simpa using he
    have hr3 : decide (r = 0) = false := by simpa using he
    go_enter Try.func9, Try.ntmps9
    go_wp2_with fail
    rw [← HW.out]
    refine (awake_any _).mono ?_
    rintro e w1 ⟨rfl, f1⟩
    have HF1 := Lib.hid (HF0.out.noTrans f1)
    have a0_1 := f1.keepc a0_0
    have a1_1 := f1.keepc a1_0
    have b0_1 := f1.keepc b0_0
    have b1_1 := f1.keepc b1_0
    clear f1 HF0 a0_0 a1_0 b0_0 b1_0
    go_wp2_with fail
    refine (K1.out _).mono ?_
    rintro e w2 ⟨rfl, f2⟩
    have HF2 := Lib.hid (HF1.out.noTrans f2)
    have a0_2 := f2.keepc a0_1
    have a1_2 := f2.keepc a1_1
    have b0_2 := f2.keepc b0_1
    have b1_2 := f2.keepc b1_1
    clear f2 HF1 a0_1 a1_1 b0_1 b1_1
    go_wp2_with fail
    refine (K2.out _ _).mono ?_
    rintro e w3 ⟨rfl, f3⟩
    have HF3 := Lib.hid (HF2.out.noTrans f3)
    have a0_3 := f3.keepc a0_2
    have a1_3 := f3.keepc a1_2
    have b0_3 := f3.keepc b0_2
    have b1_3 := f3.keepc b1_2
    clear f3 HF2 a0_2 a1_2 b0_2 b1_2
    go_wp2_with fail
    go_ret
    exact ⟨by first | rfl | (simp; done) | (simp; omega), HF3.out⟩

end Go.Proofs.Ytgddmmlkpajpmaa
