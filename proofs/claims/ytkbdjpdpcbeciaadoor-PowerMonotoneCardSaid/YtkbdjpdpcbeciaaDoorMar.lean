/- Scale of the document; Margin, Least, and those of the document. -/
import Derived.Test.YtkbdjpdpcbeciaaDoorScl
namespace Go.Proofs.YtkbdjpdpcbeciaaDoor
open Go.RowKit

set_option maxHeartbeats 1000000 in
theorem scaleR_any (p f : Int) (w : World) : Calls Tryd.prog 17 #[.int .i64 p, .int .i64 f] w fun e w' => e = .returned (.tuple #[.int .i64 (scV p f), .int .i64 (scE p f)]) ∧ w' = w := by
  have HP := isR_any p w
  cases h : isP p
  · rw [h] at HP
    have HP := Lib.hid HP
    have HV := Lib.hid (show scV p f = 0 by simp [scV, h])
    have HE := Lib.hid (show scE p f = 2 by simp [scE, h])
    clear h
    go_enter Tryd.func17, Tryd.ntmps17
    go_wp2_with fail
    refine HP.out.mono ?_
    rintro e w' ⟨rfl, rfl⟩
    go_wp2_with fail
    go_ret2
    rw [HV.out, HE.out]
    exact ⟨rfl, rfl⟩
  · rw [h] at HP
    have HP := Lib.hid HP
    by_cases h2 : f < 0
    · have HV := Lib.hid (show scV p f = 0 by simp [scV, inR]; omega)
      have HE := Lib.hid (show scE p f = 2 by simp [scE, inR]; omega)
      clear h
      go_enter Tryd.func17, Tryd.ntmps17
      go_wp2_with fail
      refine HP.out.mono ?_
      rintro e w' ⟨rfl, rfl⟩
      go_wp2_with fail
      go_ret2
      rw [HV.out, HE.out]
      exact ⟨rfl, rfl⟩
    have g2 : 0 ≤ f := by omega
    by_cases h3 : 1000 < f
    · have HV := Lib.hid (show scV p f = 0 by simp [scV, inR]; omega)
      have HE := Lib.hid (show scE p f = 2 by simp [scE, inR]; omega)
      clear h
      go_enter Tryd.func17, Tryd.ntmps17
      go_wp2_with fail
      refine HP.out.mono ?_
      rintro e w' ⟨rfl, rfl⟩
      go_wp2_with fail
      go_ret2
      rw [HV.out, HE.out]
      exact ⟨rfl, rfl⟩
    · have g3 : f ≤ 1000 := by omega
      have HV := Lib.hid (show scV p f = p * f / 1000 by simp [scV, h, inR, g2, g3])
      have HE := Lib.hid (show scE p f = 0 by simp [scE, h, inR, g2, g3])
      have hb := mul_bound p f MX 1000 (isP_t.1 h).1 (isP_t.1 h).2 g2 g3
      have hb2 : p * f ≤ 68719476736000 := hb.2
      have hw : IntKind.i64.wrap (p * f) = p * f := IntWalk.i64_in _ (by omega)
      have hb1 := hb.1
      have hq : Int.tdiv (p * f) 1000 = p * f / 1000 := Int.tdiv_eq_ediv_of_nonneg hb1
      clear h hb
      go_enter Tryd.func17, Tryd.ntmps17
      go_wp2_with fail
      refine HP.out.mono ?_
      rintro e w' ⟨rfl, rfl⟩
      go_wp2_with fail
      go_ret2
      rw [HV.out, HE.out]
      exact ⟨rfl, rfl⟩
/-- What Margin returns. -/
def mgV (s t o : Int) : Int := if isP s = true ∧ isR t o = true then max (-1) (1000 * s / t - o) else 0
def mgE (s t o : Int) : Int := if isP s = true ∧ isR t o = true then 0 else 2
set_option maxHeartbeats 1000000 in
theorem margin_any (s t o : Int) (w : World) : Calls Tryd.prog 23 #[.int .i64 s, .int .i64 t, .int .i64 o] w fun e w' => e = .returned (.tuple #[.int .i64 (mgV s t o), .int .i64 (mgE s t o)]) ∧ w' = w := by
  have HP := isPower_any s w
  have HR := isReceiver_any t o w
  cases h : isP s
  · rw [h] at HP
    have HP := Lib.hid HP
    have HV := Lib.hid (show mgV s t o = 0 by simp [mgV, h])
    have HE := Lib.hid (show mgE s t o = 2 by simp [mgE, h])
    clear h HR
    go_enter Tryd.func23, Tryd.ntmps23
    go_wp2_with fail
    refine HP.out.mono ?_
    rintro e w' ⟨rfl, rfl⟩
    go_wp2_with fail
    go_ret2
    rw [HV.out, HE.out]
    exact ⟨rfl, rfl⟩
  · rw [h] at HP
    have HP := Lib.hid HP
    cases h2 : isR t o
    · rw [h2] at HR
      have HR := Lib.hid HR
      have HV := Lib.hid (show mgV s t o = 0 by simp [mgV, h2])
      have HE := Lib.hid (show mgE s t o = 2 by simp [mgE, h2])
      clear h h2
      go_enter Tryd.func23, Tryd.ntmps23
      go_wp2_with fail
      refine HP.out.mono ?_
      rintro e w' ⟨rfl, rfl⟩
      go_wp2_with fail
      refine HR.out.mono ?_
      rintro e w' ⟨rfl, rfl⟩
      go_wp2_with fail
      go_ret2
      rw [HV.out, HE.out]
      exact ⟨rfl, rfl⟩
    · rw [h2] at HR
      have HR := Lib.hid HR
      have HE := Lib.hid (show mgE s t o = 0 by simp [mgE, h, h2])
      obtain ⟨a0, a1⟩ := isP_t.1 h
      obtain ⟨⟨b0, b1⟩, c0, c1⟩ := isR_t.1 h2
      have a1' : s ≤ 68719476736 := a1
      have c1' : o ≤ 68719476736 := c1
      have hw : IntKind.i64.wrap (1000 * s) = 1000 * s := IntWalk.i64_in _ (by omega)
      have hq : Int.tdiv (1000 * s) t = 1000 * s / t := Int.tdiv_eq_ediv_of_nonneg (by omega)
      have q0 : 0 ≤ 1000 * s / t := Int.ediv_nonneg (by omega) (by omega)
      have q1 : 1000 * s / t ≤ 1000 * s := Int.ediv_le_self _ (by omega)
      have ht : ¬ t = 0 := by omega
      have ht1 : ¬ t = -1 := by omega
      obtain ⟨q, hqq⟩ : ∃ q, q = 1000 * s / t := ⟨_, rfl⟩
      have HV := Lib.hid (show mgV s t o = max (-1) (q - o) by simp [mgV, h, h2, hqq])
      rw [← hqq] at hq q0 q1
      have hw2 : IntKind.i64.wrap q = q := IntWalk.i64_in _ (by omega)
      have hw3 : IntKind.i64.wrap (q - o) = q - o := IntWalk.i64_in _ (by omega)
      clear h h2 hqq a1 c1
      go_enter Tryd.func23, Tryd.ntmps23
      go_wp2_with fail
      refine HP.out.mono ?_
      rintro e w' ⟨rfl, rfl⟩
      go_wp2_with fail
      refine HR.out.mono ?_
      rintro e w' ⟨rfl, rfl⟩
      go_wp2_with fail
      all_goals
        go_ret2
        rw [HV.out, HE.out]
        refine ⟨?_, rfl⟩
        first
          | (rw [show max (-1) (q - o) = (-1 : Int) by omega]; rfl)
          | (rw [show max (-1) (q - o) = q - o by omega]; rfl)
set_option maxHeartbeats 1000000 in
theorem marginR_any (s t o : Int) (w : World) : Calls Tryd.prog 24 #[.int .i64 s, .int .i64 t, .int .i64 o] w fun e w' => e = .returned (.tuple #[.int .i64 (mgV s t o), .int .i64 (mgE s t o)]) ∧ w' = w := by
  have HP := isR_any s w
  have HR := right_any t o w
  cases h : isP s
  · rw [h] at HP
    have HP := Lib.hid HP
    have HV := Lib.hid (show mgV s t o = 0 by simp [mgV, h])
    have HE := Lib.hid (show mgE s t o = 2 by simp [mgE, h])
    clear h HR
    go_enter Tryd.func24, Tryd.ntmps24
    go_wp2_with fail
    refine HP.out.mono ?_
    rintro e w' ⟨rfl, rfl⟩
    go_wp2_with fail
    go_ret2
    rw [HV.out, HE.out]
    exact ⟨rfl, rfl⟩
  · rw [h] at HP
    have HP := Lib.hid HP
    cases h2 : isR t o
    · rw [h2] at HR
      have HR := Lib.hid HR
      have HV := Lib.hid (show mgV s t o = 0 by simp [mgV, h2])
      have HE := Lib.hid (show mgE s t o = 2 by simp [mgE, h2])
      clear h h2
      go_enter Tryd.func24, Tryd.ntmps24
      go_wp2_with fail
      refine HP.out.mono ?_
      rintro e w' ⟨rfl, rfl⟩
      go_wp2_with fail
      refine HR.out.mono ?_
      rintro e w' ⟨rfl, rfl⟩
      go_wp2_with fail
      go_ret2
      rw [HV.out, HE.out]
      exact ⟨rfl, rfl⟩
    · rw [h2] at HR
      have HR := Lib.hid HR
      have HE := Lib.hid (show mgE s t o = 0 by simp [mgE, h, h2])
      obtain ⟨a0, a1⟩ := isP_t.1 h
      obtain ⟨⟨b0, b1⟩, c0, c1⟩ := isR_t.1 h2
      have a1' : s ≤ 68719476736 := a1
      have c1' : o ≤ 68719476736 := c1
      have hw : IntKind.i64.wrap (1000 * s) = 1000 * s := IntWalk.i64_in _ (by omega)
      have hq : Int.tdiv (1000 * s) t = 1000 * s / t := Int.tdiv_eq_ediv_of_nonneg (by omega)
      have q0 : 0 ≤ 1000 * s / t := Int.ediv_nonneg (by omega) (by omega)
      have q1 : 1000 * s / t ≤ 1000 * s := Int.ediv_le_self _ (by omega)
      have ht : ¬ t = 0 := by omega
      have ht1 : ¬ t = -1 := by omega
      obtain ⟨q, hqq⟩ : ∃ q, q = 1000 * s / t := ⟨_, rfl⟩
      have HV := Lib.hid (show mgV s t o = max (-1) (q - o) by simp [mgV, h, h2, hqq])
      rw [← hqq] at hq q0 q1
      have hw2 : IntKind.i64.wrap q = q := IntWalk.i64_in _ (by omega)
      have hw3 : IntKind.i64.wrap (q - o) = q - o := IntWalk.i64_in _ (by omega)
      clear h h2 hqq a1 c1
      go_enter Tryd.func24, Tryd.ntmps24
      go_wp2_with fail
      refine HP.out.mono ?_
      rintro e w' ⟨rfl, rfl⟩
      go_wp2_with fail
      refine HR.out.mono ?_
      rintro e w' ⟨rfl, rfl⟩
      go_wp2_with fail
      all_goals
        go_ret2
        rw [HV.out, HE.out]
        refine ⟨?_, rfl⟩
        first
          | (rw [show max (-1) (q - o) = (-1 : Int) by omega]; rfl)
          | (rw [show max (-1) (q - o) = q - o by omega]; rfl)
/-- What Least returns. -/
def lsN (t o i : Int) : Int := (t * (o + i) + 999) / 1000
def lsV (t o i : Int) : Int := if isR t o = true ∧ inR i 0 4398046511104 = true then (if lsN t o i ≤ MX then lsN t o i else 0) else 0
def lsE (t o i : Int) : Int := if isR t o = true ∧ inR i 0 4398046511104 = true then (if lsN t o i ≤ MX then 0 else 8) else 2
set_option maxHeartbeats 1000000 in
theorem least_any (t o i : Int) (w : World) : Calls Tryd.prog 25 #[.int .i64 t, .int .i64 o, .int .i64 i] w fun e w' => e = .returned (.tuple #[.int .i64 (lsV t o i), .int .i64 (lsE t o i)]) ∧ w' = w := by
  have HR := isReceiver_any t o w
  cases h : isR t o
  · rw [h] at HR
    have HR := Lib.hid HR
    have HV := Lib.hid (show lsV t o i = 0 by simp [lsV, h])
    have HE := Lib.hid (show lsE t o i = 2 by simp [lsE, h])
    clear h
    go_enter Tryd.func25, Tryd.ntmps25
    go_wp2_with fail
    refine HR.out.mono ?_
    rintro e w' ⟨rfl, rfl⟩
    go_wp2_with fail
    go_ret2
    rw [HV.out, HE.out]
    exact ⟨rfl, rfl⟩
  rw [h] at HR
  have HR := Lib.hid HR
  have HI := within_any i 0 4398046511104 w
  cases h2 : inR i 0 4398046511104
  · rw [h2] at HI
    have HI := Lib.hid HI
    have HV := Lib.hid (show lsV t o i = 0 by simp [lsV, h2])
    have HE := Lib.hid (show lsE t o i = 2 by simp [lsE, h2])
    clear h h2
    go_enter Tryd.func25, Tryd.ntmps25
    go_wp2_with fail
    refine HR.out.mono ?_
    rintro e w' ⟨rfl, rfl⟩
    go_wp2_with fail
    refine HI.out.mono ?_
    rintro e w' ⟨rfl, rfl⟩
    go_wp2_with fail
    go_ret2
    rw [HV.out, HE.out]
    exact ⟨rfl, rfl⟩
  rw [h2] at HI
  have HI := Lib.hid HI
  obtain ⟨i0, i1⟩ := inR_t.1 h2
  obtain ⟨⟨b0, b1⟩, c0, c1⟩ := isR_t.1 h
  have c1' : o ≤ 68719476736 := c1
  have hb := mul_bound t (o + i) 100000 4466765987840 (by omega) b1 (by omega) (by omega)
  have hb0 : 0 ≤ t * (o + i) := hb.1
  have hb2 : t * (o + i) ≤ 446676598784000000 := hb.2
  have hwo : IntKind.i64.wrap (o + i) = o + i := IntWalk.i64_in _ (by omega)
  have hw : IntKind.i64.wrap (t * (o + i)) = t * (o + i) := IntWalk.i64_in _ (by omega)
  obtain ⟨l, hl⟩ : ∃ l, l = lsN t o i := ⟨_, rfl⟩
  have hl2 : (t * (o + i) + 999) / 1000 = l := hl.symm
  have l0 : 0 ≤ l := by omega
  have hw2 : IntKind.i64.wrap (t * (o + i) + 1000) = t * (o + i) + 1000 := IntWalk.i64_in _ (by omega)
  have hw3 : IntKind.i64.wrap (t * (o + i) + 1000 - 1) = t * (o + i) + 1000 - 1 := IntWalk.i64_in _ (by omega)
  have hq : Int.tdiv (t * (o + i) + 1000 - 1) 1000 = l := by rw [Int.tdiv_eq_ediv_of_nonneg (by omega), show t * (o + i) + 1000 - 1 = t * (o + i) + 999 by omega, hl2]
  have hq2 : (t * (o + i) + 1000 - 1) / 1000 = l := by rw [show t * (o + i) + 1000 - 1 = t * (o + i) + 999 by omega, hl2]
  have HL := isPower_any l w
  by_cases hm : l ≤ 68719476736
  · have HV := Lib.hid (show lsV t o i = l by rw [lsV, if_pos ⟨h, h2⟩, ← hl, if_pos hm])
    have HE := Lib.hid (show lsE t o i = 0 by rw [lsE, if_pos ⟨h, h2⟩, ← hl, if_pos hm])
    rw [show isP l = true from isP_t.2 ⟨l0, hm⟩] at HL
    have HL := Lib.hid HL
    clear h h2 hb c1 hl hm
    go_enter Tryd.func25, Tryd.ntmps25
    go_wp2_with fail
    refine HR.out.mono ?_
    rintro e w' ⟨rfl, rfl⟩
    go_wp2_with fail
    refine HI.out.mono ?_
    rintro e w' ⟨rfl, rfl⟩
    go_wp2_with fail
    refine HL.out.mono ?_
    rintro e w' ⟨rfl, rfl⟩
    go_wp2_with fail
    go_ret2
    rw [HV.out, HE.out]
    exact ⟨rfl, rfl⟩
  · have HV := Lib.hid (show lsV t o i = 0 by rw [lsV, if_pos ⟨h, h2⟩, ← hl, if_neg hm])
    have HE := Lib.hid (show lsE t o i = 8 by rw [lsE, if_pos ⟨h, h2⟩, ← hl, if_neg hm])
    rw [show isP l = false by simp [isP, inR, MX]; omega] at HL
    have HL := Lib.hid HL
    clear h h2 hb c1 hl hm
    go_enter Tryd.func25, Tryd.ntmps25
    go_wp2_with fail
    refine HR.out.mono ?_
    rintro e w' ⟨rfl, rfl⟩
    go_wp2_with fail
    refine HI.out.mono ?_
    rintro e w' ⟨rfl, rfl⟩
    go_wp2_with fail
    refine HL.out.mono ?_
    rintro e w' ⟨rfl, rfl⟩
    go_wp2_with fail
    go_ret2
    rw [HV.out, HE.out]
    exact ⟨rfl, rfl⟩
set_option maxHeartbeats 1000000 in
theorem leastR_any (t o i : Int) (w : World) : Calls Tryd.prog 26 #[.int .i64 t, .int .i64 o, .int .i64 i] w fun e w' => e = .returned (.tuple #[.int .i64 (lsV t o i), .int .i64 (lsE t o i)]) ∧ w' = w := by
  have HR := right_any t o w
  cases h : isR t o
  · rw [h] at HR
    have HR := Lib.hid HR
    have HV := Lib.hid (show lsV t o i = 0 by simp [lsV, h])
    have HE := Lib.hid (show lsE t o i = 2 by simp [lsE, h])
    clear h
    go_enter Tryd.func26, Tryd.ntmps26
    go_wp2_with fail
    refine HR.out.mono ?_
    rintro e w' ⟨rfl, rfl⟩
    go_wp2_with fail
    go_ret2
    rw [HV.out, HE.out]
    exact ⟨rfl, rfl⟩
  rw [h] at HR
  have HR := Lib.hid HR
  by_cases h3 : i < 0
  · have HV := Lib.hid (show lsV t o i = 0 by simp [lsV, inR]; omega)
    have HE := Lib.hid (show lsE t o i = 2 by simp [lsE, inR]; omega)
    clear h
    go_enter Tryd.func26, Tryd.ntmps26
    go_wp2_with fail
    refine HR.out.mono ?_
    rintro e w' ⟨rfl, rfl⟩
    go_wp2_with fail
    go_ret2
    rw [HV.out, HE.out]
    exact ⟨rfl, rfl⟩
  have i0 : 0 ≤ i := by omega
  by_cases h4 : 4398046511104 < i
  · have HV := Lib.hid (show lsV t o i = 0 by simp [lsV, inR]; omega)
    have HE := Lib.hid (show lsE t o i = 2 by simp [lsE, inR]; omega)
    clear h
    go_enter Tryd.func26, Tryd.ntmps26
    go_wp2_with fail
    refine HR.out.mono ?_
    rintro e w' ⟨rfl, rfl⟩
    go_wp2_with fail
    go_ret2
    rw [HV.out, HE.out]
    exact ⟨rfl, rfl⟩
  have i1 : i ≤ 4398046511104 := by omega
  have h2 : inR i 0 4398046511104 = true := inR_t.2 ⟨i0, i1⟩
  obtain ⟨⟨b0, b1⟩, c0, c1⟩ := isR_t.1 h
  have c1' : o ≤ 68719476736 := c1
  have hb := mul_bound t (o + i) 100000 4466765987840 (by omega) b1 (by omega) (by omega)
  have hb0 : 0 ≤ t * (o + i) := hb.1
  have hb2 : t * (o + i) ≤ 446676598784000000 := hb.2
  have hwo : IntKind.i64.wrap (o + i) = o + i := IntWalk.i64_in _ (by omega)
  have hw : IntKind.i64.wrap (t * (o + i)) = t * (o + i) := IntWalk.i64_in _ (by omega)
  obtain ⟨l, hl⟩ : ∃ l, l = lsN t o i := ⟨_, rfl⟩
  have hl2 : (t * (o + i) + 999) / 1000 = l := hl.symm
  have l0 : 0 ≤ l := by omega
  have hw2 : IntKind.i64.wrap (t * (o + i) + 999) = t * (o + i) + 999 := IntWalk.i64_in _ (by omega)
  have hq : Int.tdiv (t * (o + i) + 999) 1000 = l := by rw [Int.tdiv_eq_ediv_of_nonneg (by omega), hl2]
  by_cases hm : l ≤ 68719476736
  · have HV := Lib.hid (show lsV t o i = l by rw [lsV, if_pos ⟨h, h2⟩, ← hl, if_pos hm])
    have HE := Lib.hid (show lsE t o i = 0 by rw [lsE, if_pos ⟨h, h2⟩, ← hl, if_pos hm])
    have hm2 : ¬ 68719476736 < l := by omega
    clear h h2 hb c1 hl hm
    go_enter Tryd.func26, Tryd.ntmps26
    go_wp2_with fail
    refine HR.out.mono ?_
    rintro e w' ⟨rfl, rfl⟩
    go_wp2_with fail
    go_ret2
    rw [HV.out, HE.out]
    exact ⟨rfl, rfl⟩
  · have HV := Lib.hid (show lsV t o i = 0 by rw [lsV, if_pos ⟨h, h2⟩, ← hl, if_neg hm])
    have HE := Lib.hid (show lsE t o i = 8 by rw [lsE, if_pos ⟨h, h2⟩, ← hl, if_neg hm])
    have hm2 : 68719476736 < l := by omega
    clear h h2 hb c1 hl hm
    go_enter Tryd.func26, Tryd.ntmps26
    go_wp2_with fail
    refine HR.out.mono ?_
    rintro e w' ⟨rfl, rfl⟩
    go_wp2_with fail
    go_ret2
    rw [HV.out, HE.out]
    exact ⟨rfl, rfl⟩
end Go.Proofs.YtkbdjpdpcbeciaaDoor
