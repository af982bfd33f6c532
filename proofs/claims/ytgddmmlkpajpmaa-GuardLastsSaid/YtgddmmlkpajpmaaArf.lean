/- arrive, Fits, Late. -/
import Derived.Test.YtgddmmlkpajpmaaArv
namespace Go.Proofs.Ytgddmmlkpajpmaa
set_option linter.unusedVariables false
open Go.RowKit

theorem set_three {w : World} {B : Nat} {a b c : Value} (h : w.heap[B]? = some (.cells #[a, b, c] 56 (0, 0))) (x y z : Value) :
    (((w.setCell ⟨B, 0, none⟩ x).setCell ⟨B, 1, none⟩ y).setCell ⟨B, 2, none⟩ z).heap[B]? = some (.cells #[x, y, z] 56 (0, 0)) := by
  have h1 := three_set h 0 x
  have h2 := three_set h1 1 y
  have h3 := three_set h2 2 z
  simpa using h3
theorem set_three_fr {w w1 : World} {B : Nat} (h : Fr no w w1) (hB : w.heap.size ≤ B) (x y z : Value) :
    Fr no w (((w1.setCell ⟨B, 0, none⟩ x).setCell ⟨B, 1, none⟩ y).setCell ⟨B, 2, none⟩ z) :=
  ((h.setCell (p := ⟨B, 0, none⟩) (.inr hB) _).setCell (p := ⟨B, 1, none⟩) (.inr hB) _).setCell (p := ⟨B, 2, none⟩) (.inr hB) _
noncomputable def arX (oa da ob db s : Int) : Int := if arE oa da ob db s = 0 then inV oa da s 2120 else 0
noncomputable def arY (oa da ob db s : Int) : Int := if arE oa da ob db s = 0 then wiF ob db s else 0
noncomputable def arZ (oa da ob db s : Int) : Int := if arE oa da ob db s = 0 then wiT ob db s else 0

set_option maxHeartbeats 2000000 in
theorem arrive_any (oa da ob db s : Int) (w : World) : Calls Try.prog 49 #[.func (.func 50) #[.agg #[.int .i64 oa, .int .i64 da]] #[], .func (.func 51) #[.agg #[.int .i64 ob, .int .i64 db]] #[], .int .i64 s] w fun e w' =>
    e = .returned (.tuple #[.agg #[.int .i64 (arX oa da ob db s), .int .i64 (arY oa da ob db s), .int .i64 (arZ oa da ob db s)], .int .i64 (arE oa da ob db s)]) ∧ Fr no w w' := by
  obtain ⟨W, hW⟩ : ∃ W, W = w.alloc (.cells #[.int .i64 0, .int .i64 0, .int .i64 0] 56 (0, 0)) := ⟨_, rfl⟩
  have hF : Fr no w W := by rw [hW]; exact (Fr.refl no w).alloc _
  have h1 : W.heap[w.heap.size]? = some (.cells #[.int .i64 0, .int .i64 0, .int .i64 0] 56 (0, 0)) := by rw [hW]; exact heap_alloc_new w _
  have HB := Lib.hid h1
  have HW := Lib.hid hW
  have HF := Lib.hid hF
  clear hW hF h1
  have HS0 := Lib.hid (fun w => hsend_any oa da s w)
  have HWi := Lib.hid (fun w => hwindow_any ob db s w)
  have eg : ∀ args w, (callFunc 50 args).run Try.prog w = .ok (.enter 50 args) w := Go.Proofs.enters_of Try.func50 (by kernel_rfl) rfl
  have eh : ∀ args w, (callFunc 51 args).run Try.prog w = .ok (.enter 51 args) w := Go.Proofs.enters_of Try.func51 (by kernel_rfl) rfl
  by_cases hr : inE oa da s 2120 = 0
  · rw [hr] at HS0
    by_cases hq : inE ob db s 3221 = 0
    · have HR := Lib.hid (show arX oa da ob db s = inV oa da s 2120 ∧ arY oa da ob db s = wiF ob db s ∧ arZ oa da ob db s = wiT ob db s ∧ arE oa da ob db s = 0 by simp [arX, arY, arZ, arE, hr, hq])
      rw [hq] at HWi
      generalize inV oa da s 2120 = v at *
      generalize wiF ob db s = f at *
      generalize wiT ob db s = t at *
      clear hr hq
      go_enter Try.func49, Try.ntmps49
      go_wp2_with fail
      rw [← HW.out]
      refine (HS0.out _).mono ?_
      rintro e w1 ⟨rfl, f1⟩
      have HF1 := Lib.hid (HF.out.noTrans f1)
      have HB1 := Lib.hid (f1.blk HB.out (fun h => h))
      clear f1
      go_wp2_with fail
      refine (HWi.out _).mono ?_
      rintro e w2 ⟨rfl, f2⟩
      have HF2 := Lib.hid (HF1.out.noTrans f2)
      have hb2 := f2.blk HB1.out (fun h => h)
      obtain ⟨k0, k1, k2, g0, g1, g2⟩ := three_cells hb2
      have HS := Lib.hid (fun x y z => three_cells (set_three hb2 x y z))
      clear f2 hb2
      go_wp2_with fail
      obtain ⟨z0, z1, z2, -, -, -⟩ := HS.out (.int .i64 (v)) (.int .i64 (f)) (.int .i64 (t))
      refine bodyPost_ret (v := .tuple #[.agg #[.int .i64 (v), .int .i64 (f), .int .i64 (t)], .int .i64 (0)]) (by simp [results, Try.results49, go_sem, z0, z1, z2]) rfl ⟨?_, set_three_fr HF2.out (Nat.le_refl _) _ _ _⟩
      rw [HR.out.1, HR.out.2.1, HR.out.2.2.1, HR.out.2.2.2]
    · have HR := Lib.hid (show arX oa da ob db s = 0 ∧ arY oa da ob db s = 0 ∧ arZ oa da ob db s = 0 ∧ arE oa da ob db s = inE ob db s 3221 by simp [arX, arY, arZ, arE, hr, hq])
      generalize inV oa da s 2120 = v at *
      generalize wiF ob db s = f at *
      generalize wiT ob db s = t at *
      generalize inE ob db s 3221 = r at *
      have hr2 : (r == 0) = false := by simpa using hq
      clear hr hq
      go_enter Try.func49, Try.ntmps49
      go_wp2_with fail
      rw [← HW.out]
      refine (HS0.out _).mono ?_
      rintro e w1 ⟨rfl, f1⟩
      have HF1 := Lib.hid (HF.out.noTrans f1)
      have HB1 := Lib.hid (f1.blk HB.out (fun h => h))
      clear f1
      go_wp2_with fail
      refine (HWi.out _).mono ?_
      rintro e w2 ⟨rfl, f2⟩
      have HF2 := Lib.hid (HF1.out.noTrans f2)
      have hb2 := f2.blk HB1.out (fun h => h)
      obtain ⟨k0, k1, k2, g0, g1, g2⟩ := three_cells hb2
      have HS := Lib.hid (fun x y z => three_cells (set_three hb2 x y z))
      clear f2 hb2
      go_wp2_with fail
      obtain ⟨z0, z1, z2, -, -, -⟩ := HS.out (.int .i64 (0)) (.int .i64 (0)) (.int .i64 (0))
      refine bodyPost_ret (v := .tuple #[.agg #[.int .i64 (0), .int .i64 (0), .int .i64 (0)], .int .i64 (r)]) (by simp [results, Try.results49, go_sem, z0, z1, z2]) rfl ⟨?_, set_three_fr HF2.out (Nat.le_refl _) _ _ _⟩
      rw [HR.out.1, HR.out.2.1, HR.out.2.2.1, HR.out.2.2.2]
  · have HR := Lib.hid (show arX oa da ob db s = 0 ∧ arY oa da ob db s = 0 ∧ arZ oa da ob db s = 0 ∧ arE oa da ob db s = inE oa da s 2120 by simp [arX, arY, arZ, arE, hr])
    generalize inV oa da s 2120 = v at *
    generalize inE oa da s 2120 = r at *
    have hr2 : (r == 0) = false := by simpa using hr
    clear hr
    go_enter Try.func49, Try.ntmps49
    go_wp2_with fail
    rw [← HW.out]
    refine (HS0.out _).mono ?_
    rintro e w1 ⟨rfl, f1⟩
    have HF1 := Lib.hid (HF.out.noTrans f1)
    have hb2 := f1.blk HB.out (fun h => h)
    obtain ⟨k0, k1, k2, g0, g1, g2⟩ := three_cells hb2
    have HS := Lib.hid (fun x y z => three_cells (set_three hb2 x y z))
    clear f1 hb2
    go_wp2_with fail
    obtain ⟨z0, z1, z2, -, -, -⟩ := HS.out (.int .i64 (0)) (.int .i64 (0)) (.int .i64 (0))
    refine bodyPost_ret (v := .tuple #[.agg #[.int .i64 (0), .int .i64 (0), .int .i64 (0)], .int .i64 (r)]) (by simp [results, Try.results49, go_sem, z0, z1, z2]) rfl ⟨?_, set_three_fr HF1.out (Nat.le_refl _) _ _ _⟩
    rw [HR.out.1, HR.out.2.1, HR.out.2.2.1, HR.out.2.2.2]

theorem alloc3_cells (w : World) (x y z : Value) : (w.alloc (.cells #[x, y, z] 56 (0, 0))).cell? ⟨w.heap.size, 0, none⟩ = some x ∧ (w.alloc (.cells #[x, y, z] 56 (0, 0))).cell? ⟨w.heap.size, 1, none⟩ = some y ∧ (w.alloc (.cells #[x, y, z] 56 (0, 0))).cell? ⟨w.heap.size, 2, none⟩ = some z := by
  obtain ⟨a, b, c, -, -, -⟩ := three_cells (heap_alloc_new w (.cells #[x, y, z] 56 (0, 0)))
  exact ⟨a, b, c⟩

set_option maxHeartbeats 2000000 in
theorem fits_any (oa da ob db s : Int) (w : World) : Calls Try.prog 24 #[.agg #[.int .i64 oa, .int .i64 da], .agg #[.int .i64 ob, .int .i64 db], .int .i64 s] w fun e w' => e = .returned (.tuple #[.bool (fiB oa da ob db s), .int .i64 (arE oa da ob db s)]) ∧ Fr no w w' := by
  have hT := two_box w oa da ob db
  obtain ⟨W, hW⟩ : ∃ W, W = (w.alloc (.cells #[.int .i64 oa, .int .i64 da] 31 (0, 0))).alloc (.cells #[.int .i64 ob, .int .i64 db] 31 (0, 0)) := ⟨_, rfl⟩
  rw [← hW] at hT
  have HW := Lib.hid hW
  have HT := Lib.hid hT
  clear hW hT
  have HA := Lib.hid (fun w => arrive_any oa da ob db s w)
  by_cases hr : arE oa da ob db s = 0
  · have HR := Lib.hid (show fiB oa da ob db s = inR (inV oa da s 2120) (wiF ob db s) (wiT ob db s) by simp [fiB, hr])
    rw [hr, show arX oa da ob db s = inV oa da s 2120 by simp [arX, hr], show arY oa da ob db s = wiF ob db s by simp [arY, hr], show arZ oa da ob db s = wiT ob db s by simp [arZ, hr]] at HA
    rw [hr]
    clear hr
    generalize inV oa da s 2120 = v at *
    generalize wiF ob db s = f at *
    generalize wiT ob db s = t at *
    have HI := Lib.hid (fun w => gwithin_any v f t w)
    generalize inR v f t = q at *
    go_enter Try.func24, Try.ntmps24
    go_wp2_with fail
    rw [← HW.out]
    obtain ⟨HF0, a0, a1, b0, b1⟩ := HT.out
    refine (HA.out _).mono ?_
    rintro e w1 ⟨rfl, f1⟩
    have HF1 := Lib.hid (HF0.noTrans f1)
    clear f1 HF0
    go_wp2_with fail
    refine (HI.out _).mono ?_
    rintro e w2 ⟨rfl, rfl⟩
    go_wp2_with fail
    go_ret2
    rw [HR.out]
    exact ⟨rfl, HF1.out.alloc _⟩
  · have HR := Lib.hid (show fiB oa da ob db s = false by simp [fiB, hr])
    rw [show arX oa da ob db s = 0 by simp [arX, hr], show arY oa da ob db s = 0 by simp [arY, hr], show arZ oa da ob db s = 0 by simp [arZ, hr]] at HA
    generalize arE oa da ob db s = r at *
    have hr2 : (r == 0) = false := by simpa using hr
    clear hr
    go_enter Try.func24, Try.ntmps24
    go_wp2_with fail
    rw [← HW.out]
    obtain ⟨HF0, a0, a1, b0, b1⟩ := HT.out
    refine (HA.out _).mono ?_
    rintro e w1 ⟨rfl, f1⟩
    have HF1 := Lib.hid (HF0.noTrans f1)
    clear f1 HF0
    go_wp2_with fail
    go_ret2
    rw [HR.out]
    exact ⟨rfl, HF1.out.alloc _⟩

theorem arE_0 {oa da ob db s : Int} (h : arE oa da ob db s = 0) : inE oa da s 2120 = 0 ∧ inE ob db s 3221 = 0 := by
  unfold arE at h
  by_cases hr : inE oa da s 2120 = 0
  · rw [if_pos hr] at h; exact ⟨hr, h⟩
  · rw [if_neg hr] at h; exact absurd h hr
theorem shV_sh {o d t : Int} (h : okC o d = true) (t0 : 0 ≤ t) (t1 : t ≤ 1099511627776) : shV o d t = sh o d t ∧ shE o d t = 0 := by
  have : isT t = true := isT_t.2 ⟨t0, t1⟩
  simp [shV, shE, h, this]
set_option maxHeartbeats 2000000 in
theorem late_any (oa da ob db s : Int) (w : World) : Calls Try.prog 26 #[.agg #[.int .i64 oa, .int .i64 da], .agg #[.int .i64 ob, .int .i64 db], .int .i64 s] w fun e w' => e = .returned (.tuple #[.int .i64 (laV oa da ob db s), .int .i64 (arE oa da ob db s)]) ∧ Fr no w w' := by
  have hT := two_box w oa da ob db
  obtain ⟨W, hW⟩ : ∃ W, W = (w.alloc (.cells #[.int .i64 oa, .int .i64 da] 31 (0, 0))).alloc (.cells #[.int .i64 ob, .int .i64 db] 31 (0, 0)) := ⟨_, rfl⟩
  rw [← hW] at hT
  have HW := Lib.hid hW
  have HT := Lib.hid hT
  clear hW hT
  have HA := Lib.hid (fun w => arrive_any oa da ob db s w)
  by_cases hr : arE oa da ob db s = 0
  · have HR := Lib.hid (show laV oa da ob db s = sh ob db (inV oa da s 2120) - (s * 10000 + 2120) by simp [laV, hr])
    rw [hr, show arX oa da ob db s = inV oa da s 2120 by simp [arX, hr], show arY oa da ob db s = wiF ob db s by simp [arY, hr], show arZ oa da ob db s = wiT ob db s by simp [arZ, hr]] at HA
    rw [hr]
    obtain ⟨hra, hrb⟩ := arE_0 hr
    obtain ⟨hka, -, ⟨s0, s1⟩, -, ⟨v0, v1⟩, -⟩ := in_ok hra
    obtain ⟨hkb, hkb', -⟩ := in_ok hrb
    obtain ⟨u0, u1⟩ := fl_bd2 hkb v0 v1
    have HH := Lib.hid (fun w => show_any ob db (inV oa da s 2120) w)
    rw [(shV_sh hkb' v0 v1).1, (shV_sh hkb' v0 v1).2] at HH
    clear hr hra hrb hka hkb hkb'
    generalize inV oa da s 2120 = v at *
    generalize wiF ob db s = f at *
    generalize wiT ob db s = t at *
    generalize sh ob db v = q at *
    go_enter Try.func26, Try.ntmps26
    go_wp2_with fail
    rw [← HW.out]
    obtain ⟨HF0, a0, a1, b0, b1⟩ := HT.out
    refine (HA.out _).mono ?_
    rintro e w1 ⟨rfl, f1⟩
    have HF1 := Lib.hid (HF0.noTrans f1)
    have x0 := f1.keepc b0
    have x1 := f1.keepc b1
    have hlt := World.block_lt_of_cell? _ _ x0
    clear f1 HF0 a0 a1 b0 b1
    go_wp2_with fail
    refine (HH.out _).mono ?_
    rintro e w2 ⟨rfl, f2⟩
    have HF2 := Lib.hid ((HF1.out.alloc _).noTrans f2)
    clear f2 x0 x1
    go_wp2_with fail
    go_ret2
    rw [HR.out]
    exact ⟨rfl, HF2.out⟩
  · have HR := Lib.hid (show laV oa da ob db s = 0 by simp [laV, hr])
    rw [show arX oa da ob db s = 0 by simp [arX, hr], show arY oa da ob db s = 0 by simp [arY, hr], show arZ oa da ob db s = 0 by simp [arZ, hr]] at HA
    generalize arE oa da ob db s = r at *
    have hr2 : (r == 0) = false := by simpa using hr
    clear hr
    go_enter Try.func26, Try.ntmps26
    go_wp2_with fail
    rw [← HW.out]
    obtain ⟨HF0, a0, a1, b0, b1⟩ := HT.out
    refine (HA.out _).mono ?_
    rintro e w1 ⟨rfl, f1⟩
    have HF1 := Lib.hid (HF0.noTrans f1)
    clear f1 HF0
    go_wp2_with fail
    go_ret2
    rw [HR.out]
    exact ⟨rfl, HF1.out.alloc _⟩

set_option maxHeartbeats 2000000 in
theorem fitsR_any (oa da ob db s : Int) (w : World) : Calls Try.prog 25 #[.agg #[.int .i64 oa, .int .i64 da], .agg #[.int .i64 ob, .int .i64 db], .int .i64 s] w fun e w' => e = .returned (.tuple #[.bool (fiB oa da ob db s), .int .i64 (arE oa da ob db s)]) ∧ Fr no w w' := by
  have hT := two_box w oa da ob db
  obtain ⟨W, hW⟩ : ∃ W, W = (w.alloc (.cells #[.int .i64 oa, .int .i64 da] 31 (0, 0))).alloc (.cells #[.int .i64 ob, .int .i64 db] 31 (0, 0)) := ⟨_, rfl⟩
  rw [← hW] at hT
  have HW := Lib.hid hW
  have HT := Lib.hid hT
  clear hW hT
  have HA := Lib.hid (fun w => sendR_any oa da s w)
  have HB := Lib.hid (fun w => windowR_any ob db s w)
  by_cases hra : inE oa da s 2120 = 0
  · by_cases hrb : inE ob db s 3221 = 0
    · have HR := Lib.hid (show fiB oa da ob db s = inR (inV oa da s 2120) (wiF ob db s) (wiT ob db s) ∧ arE oa da ob db s = 0 by simp [fiB, arE, hra, hrb])
      rw [hra] at HA
      rw [hrb] at HB
      clear hra hrb
      generalize inV oa da s 2120 = v at *
      generalize wiF ob db s = f at *
      generalize wiT ob db s = t at *
      by_cases hc : f ≤ v
      · have HQ := Lib.hid (show inR v f t = decide (v ≤ t) by simp [inR, hc])
        go_enter Try.func25, Try.ntmps25
        go_wp2_with fail
        rw [← HW.out]
        obtain ⟨HF0, a0, a1, b0, b1⟩ := HT.out
        refine (HA.out _).mono ?_
        rintro e w1 ⟨rfl, f1⟩
        have HF1 := Lib.hid (HF0.noTrans f1)
        have x0 := f1.keepc b0
        have x1 := f1.keepc b1
        clear f1 HF0 a0 a1 b0 b1
        go_wp2_with fail
        refine (HB.out _).mono ?_
        rintro e w2 ⟨rfl, f2⟩
        have HF2 := Lib.hid (HF1.out.noTrans f2)
        have y0 := f2.keepc x0
        have y1 := f2.keepc x1
        clear f2 x0 x1
        go_wp2_with fail
        go_ret2
        rw [HR.out.1, HR.out.2, HQ.out]
        exact ⟨rfl, HF2.out⟩

      · have HQ := Lib.hid (show inR v f t = false by simp [inR, hc])
        have hc2 : v < f := by omega
        clear hc
        go_enter Try.func25, Try.ntmps25
        go_wp2_with fail
        rw [← HW.out]
        obtain ⟨HF0, a0, a1, b0, b1⟩ := HT.out
        refine (HA.out _).mono ?_
        rintro e w1 ⟨rfl, f1⟩
        have HF1 := Lib.hid (HF0.noTrans f1)
        have x0 := f1.keepc b0
        have x1 := f1.keepc b1
        clear f1 HF0 a0 a1 b0 b1
        go_wp2_with fail
        refine (HB.out _).mono ?_
        rintro e w2 ⟨rfl, f2⟩
        have HF2 := Lib.hid (HF1.out.noTrans f2)
        have y0 := f2.keepc x0
        have y1 := f2.keepc x1
        clear f2 x0 x1
        go_wp2_with fail
        go_ret2
        rw [HR.out.1, HR.out.2, HQ.out]
        exact ⟨rfl, HF2.out⟩

    · have HR := Lib.hid (show fiB oa da ob db s = false ∧ arE oa da ob db s = inE ob db s 3221 by simp [fiB, arE, hra, hrb])
      rw [hra] at HA
      generalize inV oa da s 2120 = v at *
      generalize wiF ob db s = f at *
      generalize wiT ob db s = t at *
      generalize inE ob db s 3221 = r at *
      have hr2 : (r == 0) = false := by simpa using hrb
      clear hra hrb
      go_enter Try.func25, Try.ntmps25
      go_wp2_with fail
      rw [← HW.out]
      obtain ⟨HF0, a0, a1, b0, b1⟩ := HT.out
      refine (HA.out _).mono ?_
      rintro e w1 ⟨rfl, f1⟩
      have HF1 := Lib.hid (HF0.noTrans f1)
      have x0 := f1.keepc b0
      have x1 := f1.keepc b1
      clear f1 HF0 a0 a1 b0 b1
      go_wp2_with fail
      refine (HB.out _).mono ?_
      rintro e w2 ⟨rfl, f2⟩
      have HF2 := Lib.hid (HF1.out.noTrans f2)
      have y0 := f2.keepc x0
      have y1 := f2.keepc x1
      clear f2 x0 x1
      go_wp2_with fail
      go_ret2
      rw [HR.out.1, HR.out.2]
      exact ⟨rfl, HF2.out⟩

  · have HR := Lib.hid (show fiB oa da ob db s = false ∧ arE oa da ob db s = inE oa da s 2120 by simp [fiB, arE, hra])
    generalize inV oa da s 2120 = v at *
    generalize inE oa da s 2120 = r at *
    have hr2 : (r == 0) = false := by simpa using hra
    clear hra
    go_enter Try.func25, Try.ntmps25
    go_wp2_with fail
    rw [← HW.out]
    obtain ⟨HF0, a0, a1, b0, b1⟩ := HT.out
    refine (HA.out _).mono ?_
    rintro e w1 ⟨rfl, f1⟩
    have HF1 := Lib.hid (HF0.noTrans f1)
    have x0 := f1.keepc b0
    have x1 := f1.keepc b1
    clear f1 HF0 a0 a1 b0 b1
    go_wp2_with fail
    go_ret2
    rw [HR.out.1, HR.out.2]
    exact ⟨rfl, HF1.out⟩

set_option maxHeartbeats 2000000 in
theorem lateR_any (oa da ob db s : Int) (w : World) : Calls Try.prog 27 #[.agg #[.int .i64 oa, .int .i64 da], .agg #[.int .i64 ob, .int .i64 db], .int .i64 s] w fun e w' => e = .returned (.tuple #[.int .i64 (laV oa da ob db s), .int .i64 (arE oa da ob db s)]) ∧ Fr no w w' := by
  have hT := two_box w oa da ob db
  obtain ⟨W, hW⟩ : ∃ W, W = (w.alloc (.cells #[.int .i64 oa, .int .i64 da] 31 (0, 0))).alloc (.cells #[.int .i64 ob, .int .i64 db] 31 (0, 0)) := ⟨_, rfl⟩
  rw [← hW] at hT
  have HW := Lib.hid hW
  have HT := Lib.hid hT
  clear hW hT
  have HA := Lib.hid (fun w => sendR_any oa da s w)
  have HB := Lib.hid (fun w => windowR_any ob db s w)
  by_cases hra : inE oa da s 2120 = 0
  · by_cases hrb : inE ob db s 3221 = 0
    · have HR := Lib.hid (show laV oa da ob db s = sh ob db (inV oa da s 2120) - (s * 10000 + 2120) ∧ arE oa da ob db s = 0 by simp [laV, arE, hra, hrb])
      rw [hra] at HA
      rw [hrb] at HB
      obtain ⟨hka, -, ⟨s0, s1⟩, -, ⟨v0, v1⟩, -⟩ := in_ok hra
      obtain ⟨hkb, hkb', -⟩ := in_ok hrb
      obtain ⟨u0, u1⟩ := fl_bd2 hkb v0 v1

      have HH := Lib.hid (fun w => at_any ob db (inV oa da s 2120) w hkb v0 v1)
      clear hra hrb hka hkb hkb'
      generalize inV oa da s 2120 = v at *
      generalize wiF ob db s = f at *
      generalize wiT ob db s = t at *
      generalize sh ob db v = q at *
      go_enter Try.func27, Try.ntmps27
      go_wp2_with fail
      rw [← HW.out]
      obtain ⟨HF0, a0, a1, b0, b1⟩ := HT.out
      refine (HA.out _).mono ?_
      rintro e w1 ⟨rfl, f1⟩
      have HF1 := Lib.hid (HF0.noTrans f1)
      have x0 := f1.keepc b0
      have x1 := f1.keepc b1
      clear f1 HF0 a0 a1 b0 b1
      go_wp2_with fail
      refine (HB.out _).mono ?_
      rintro e w2 ⟨rfl, f2⟩
      have HF2 := Lib.hid (HF1.out.noTrans f2)
      have y0 := f2.keepc x0
      have y1 := f2.keepc x1
      clear f2 x0 x1
      go_wp2_with fail
      refine (HH.out _).mono ?_
      rintro e w3 ⟨rfl, f3⟩
      have HF3 := Lib.hid (HF2.out.noTrans f3)
      clear f3
      go_wp2_with fail
      go_ret2
      rw [HR.out.1, HR.out.2]
      first | exact ⟨rfl, HF3.out⟩ | exact ⟨by simp; omega, HF3.out⟩

    · have HR := Lib.hid (show laV oa da ob db s = 0 ∧ arE oa da ob db s = inE ob db s 3221 by simp [laV, arE, hra, hrb])
      rw [hra] at HA
      generalize inV oa da s 2120 = v at *
      generalize wiF ob db s = f at *
      generalize wiT ob db s = t at *
      generalize inE ob db s 3221 = r at *
      have hr2 : (r == 0) = false := by simpa using hrb
      clear hra hrb
      go_enter Try.func27, Try.ntmps27
      go_wp2_with fail
      rw [← HW.out]
      obtain ⟨HF0, a0, a1, b0, b1⟩ := HT.out
      refine (HA.out _).mono ?_
      rintro e w1 ⟨rfl, f1⟩
      have HF1 := Lib.hid (HF0.noTrans f1)
      have x0 := f1.keepc b0
      have x1 := f1.keepc b1
      clear f1 HF0 a0 a1 b0 b1
      go_wp2_with fail
      refine (HB.out _).mono ?_
      rintro e w2 ⟨rfl, f2⟩
      have HF2 := Lib.hid (HF1.out.noTrans f2)
      have y0 := f2.keepc x0
      have y1 := f2.keepc x1
      clear f2 x0 x1
      go_wp2_with fail
      go_ret2
      rw [HR.out.1, HR.out.2]
      exact ⟨rfl, HF2.out⟩

  · have HR := Lib.hid (show laV oa da ob db s = 0 ∧ arE oa da ob db s = inE oa da s 2120 by simp [laV, arE, hra])
    generalize inV oa da s 2120 = v at *
    generalize inE oa da s 2120 = r at *
    have hr2 : (r == 0) = false := by simpa using hra
    clear hra
    go_enter Try.func27, Try.ntmps27
    go_wp2_with fail
    rw [← HW.out]
    obtain ⟨HF0, a0, a1, b0, b1⟩ := HT.out
    refine (HA.out _).mono ?_
    rintro e w1 ⟨rfl, f1⟩
    have HF1 := Lib.hid (HF0.noTrans f1)
    have x0 := f1.keepc b0
    have x1 := f1.keepc b1
    clear f1 HF0 a0 a1 b0 b1
    go_wp2_with fail
    go_ret2
    rw [HR.out.1, HR.out.2]
    exact ⟨rfl, HF1.out⟩

end Go.Proofs.Ytgddmmlkpajpmaa
