/- Sum, Received, and those of the document. -/
import Derived.Test.YtkbdjpdpcbeciaaDoorSum
namespace Go.Proofs.YtkbdjpdpcbeciaaDoor
open Go.RowKit

theorem isP_of (zs : List Int) (k : Nat) (hk : k < zs.length) (h : allP zs = true) : isP (zs.getD k 0) = true := by
  rw [allP, List.all_eq_true] at h
  rw [List.getD_eq_getElem?_getD, List.getElem?_eq_getElem hk]
  exact h _ (List.getElem_mem _)
theorem part_bound (zs : List Int) (k : Nat) (hk : k ≤ 64) (h : allP (zs.take k) = true) : 0 ≤ sumZ (zs.take k) ∧ sumZ (zs.take k) ≤ 4398046511104 := by
  have hb := sum_bound _ h
  have h2 : ((zs.take k).length : Int) ≤ 64 := by simp; omega
  rw [MX] at hb
  omega
theorem sm_big (zs : List Int) (h : 64 < zs.length) : smV zs = 0 ∧ smE zs = 8 := by
  rw [smV, smE, if_neg (by omega), if_neg (by omega)]; exact ⟨rfl, rfl⟩
theorem sm_bad (zs : List Int) (h : zs.length ≤ 64) (ha : allP zs = false) : smV zs = 0 ∧ smE zs = 2 := by
  rw [smV, smE, if_neg (by rw [ha]; simp), if_pos h, if_neg (by rw [ha]; simp)]; exact ⟨rfl, rfl⟩
theorem sm_good (zs : List Int) (h : zs.length ≤ 64) (ha : allP zs = true) : smV zs = sumZ zs ∧ smE zs = 0 := by
  rw [smV, smE, if_pos ⟨h, ha⟩, if_pos h, if_pos ha]; exact ⟨rfl, rfl⟩
set_option maxHeartbeats 2000000 in
theorem sum_any (ao : Option Addr) (len cap : Nat) (zs : List Int) (w : World) (hz : IntsIn w ao len zs) :
    Calls Tryd.prog 18 #[.slice ao len cap] w fun e w' => e = .returned (.tuple #[.int .i64 (smV zs), .int .i64 (smE zs)]) ∧ w' = w := by
  have hzl := hz.1
  by_cases hl : 64 < len
  · have HV := Lib.hid (sm_big zs (by omega)).1
    have HE := Lib.hid (sm_big zs (by omega)).2
    have hlI : (64 : Int) < (len : Int) := by omega
    clear hz hl hzl
    go_enter Tryd.func18, Tryd.ntmps18
    go_wp2_with fail
    go_ret2
    rw [HV.out, HE.out]
    exact ⟨rfl, rfl⟩
  have HL := Lib.hid (show len ≤ 64 by omega)
  have hlI : (len : Int) ≤ 64 := by omega
  have HZ := Lib.hid hz
  clear hz hl
  go_enter Tryd.func18, Tryd.ntmps18
  go_wp2_with fail
  go_loopw [5, 11] (fun _ i wr => ∃ k : Nat, k ≤ len ∧ i = .int .i64 k ∧ allP (zs.take k) = true ∧ wr = w) (fun _ i _ => len - (intOf i).toNat)
  case atStart => exact ⟨0, Nat.zero_le _, rfl, rfl, rfl⟩
  case round =>
    obtain ⟨k, hk, rfl, hall, rfl⟩ := hrel
    have HA := Lib.hid hall
    clear hall
    by_cases hlt : k < len
    · obtain ⟨b, off, rfl, hc⟩ := HZ.out.2 k hlt
      have HT := Lib.hid (allP_take zs k (by omega))
      have hkI : (k : Int) ≤ 63 := by have := HL.out; omega
      have hz1 := isPower_any (zs.getD k 0)
      cases hp : isP (zs.getD k 0)
      · rw [hp] at hz1 HT
        have HB : allP zs = false := by
          cases h : allP zs
          · rfl
          · have := isP_of zs k (by omega) h
            rw [hp] at this
            cases this
        have HV := Lib.hid (sm_bad zs (by have := HL.out; omega) HB).1
        have HE := Lib.hid (sm_bad zs (by have := HL.out; omega) HB).2
        have HP := Lib.hid hz1
        clear hp HB hz1
        generalize zs.getD k 0 = z at *
        go_wp2_with fail
        refine (HP.out _).mono ?_
        rintro e w1 ⟨rfl, rfl⟩
        go_wp2_with fail
        go_ret2
        rw [HV.out, HE.out]
        exact ⟨rfl, rfl⟩
      · rw [hp] at hz1 HT
        have HP := Lib.hid hz1
        clear hp hz1
        generalize zs.getD k 0 = z at *
        go_wp2_with fail
        refine (HP.out _).mono ?_
        rintro e w1 ⟨rfl, rfl⟩
        go_wp2_with fail
        go_roundw
        case rel => exact ⟨k + 1, by omega, by go_num, by rw [HT.out, HA.out]; rfl, trivial⟩
        case measure => simp [intOf]; omega
    · have hall : allP zs = true := by have := HA.out; rwa [List.take_of_length_le (by omega)] at this
      have HV := Lib.hid (sm_good zs (by have := HL.out; omega) hall).1
      have HE := Lib.hid (sm_good zs (by have := HL.out; omega) hall).2
      have HT := Lib.hid (total_any ao len cap zs wr HZ.out HL.out hall)
      clear hall
      go_wp2_with fail
      refine HT.out.mono ?_
      rintro e w1 ⟨rfl, rfl⟩
      go_wp2_with fail
      go_ret2
      rw [HV.out, HE.out]
      exact ⟨rfl, rfl⟩
set_option maxHeartbeats 2000000 in
theorem sumR_any (ao : Option Addr) (len cap : Nat) (zs : List Int) (w : World) (hz : IntsIn w ao len zs) :
    Calls Tryd.prog 20 #[.slice ao len cap] w fun e w' => e = .returned (.tuple #[.int .i64 (smV zs), .int .i64 (smE zs)]) ∧ w' = w := by
  have hzl := hz.1
  by_cases hl : 64 < len
  · have HV := Lib.hid (sm_big zs (by omega)).1
    have HE := Lib.hid (sm_big zs (by omega)).2
    have hlI : (64 : Int) < (len : Int) := by omega
    clear hz hl hzl
    go_enter Tryd.func20, Tryd.ntmps20
    go_wp2_with fail
    go_ret2
    rw [HV.out, HE.out]
    exact ⟨rfl, rfl⟩
  have HL := Lib.hid (show len ≤ 64 by omega)
  have hlI : (len : Int) ≤ 64 := by omega
  have HZ := Lib.hid hz
  clear hz hl
  go_enter Tryd.func20, Tryd.ntmps20
  go_wp2_with fail
  go_loopw [4, 5] (fun s i wr => ∃ k : Nat, k ≤ len ∧ i = .int .i64 k ∧ s = .int .i64 (sumZ (zs.take k)) ∧ allP (zs.take k) = true ∧ wr = w) (fun _ i _ => len - (intOf i).toNat)
  case atStart => exact ⟨0, Nat.zero_le _, rfl, rfl, rfl, rfl⟩
  case round =>
    obtain ⟨k, hk, rfl, rfl, hall, rfl⟩ := hrel
    have HA := Lib.hid hall
    clear hall
    by_cases hlt : k < len
    · obtain ⟨b, off, rfl, hc⟩ := HZ.out.2 k hlt
      have HT := Lib.hid (allP_take zs k (by omega))
      have HS := Lib.hid (sumZ_take zs k (by omega))
      have hkI : (k : Int) ≤ 63 := by have := HL.out; omega
      have hz1 := isR_any (zs.getD k 0)
      cases hp : isP (zs.getD k 0)
      · rw [hp] at hz1 HT
        have HB : allP zs = false := by
          cases h : allP zs
          · rfl
          · have := isP_of zs k (by omega) h
            rw [hp] at this
            cases this
        have HV := Lib.hid (sm_bad zs (by have := HL.out; omega) HB).1
        have HE := Lib.hid (sm_bad zs (by have := HL.out; omega) HB).2
        have HP := Lib.hid hz1
        clear hp HB hz1 HS
        generalize zs.getD k 0 = z at *
        generalize sumZ (zs.take k) = S at *
        go_wp2_with fail
        refine (HP.out _).mono ?_
        rintro e w1 ⟨rfl, rfl⟩
        go_wp2_with fail
        go_ret2
        rw [HV.out, HE.out]
        exact ⟨rfl, rfl⟩
      · rw [hp] at hz1 HT
        have HP := Lib.hid hz1
        obtain ⟨p0, p1⟩ := isP_t.1 hp
        have p1' : zs.getD k 0 ≤ 68719476736 := p1
        obtain ⟨s0, s1⟩ := part_bound zs k (by have := HL.out; omega) HA.out
        clear hp hz1 p1
        generalize zs.getD k 0 = z at *
        generalize sumZ (zs.take k) = S at *
        go_wp2_with fail
        refine (HP.out _).mono ?_
        rintro e w1 ⟨rfl, rfl⟩
        go_wp2_with fail
        go_roundw
        case rel => exact ⟨k + 1, by omega, by go_num, by rw [HS.out], by rw [HT.out, HA.out]; rfl, trivial⟩
        case measure => simp [intOf]; omega
    · have hall : allP zs = true := by have := HA.out; rwa [List.take_of_length_le (by omega)] at this
      have HV := Lib.hid (sm_good zs (by have := HL.out; omega) hall).1
      have HE := Lib.hid (sm_good zs (by have := HL.out; omega) hall).2
      have HS := Lib.hid (show sumZ (zs.take k) = sumZ zs by rw [List.take_of_length_le (by omega)])
      clear hall
      rw [HS.out]
      go_wp2_with fail
      go_ret2
      rw [HV.out, HE.out]
      exact ⟨rfl, rfl⟩
/-- What Received returns. -/
def rcB (s t o : Int) (zs : List Int) : Bool := isP s && isR t o && smE zs == 0 && decide (t * (o + sumZ zs) ≤ 1000 * s)
def rcE (s t o : Int) (zs : List Int) : Int := if isP s = true ∧ isR t o = true then smE zs else 2
theorem smE_cases (zs : List Int) : (smE zs = 0 ∧ zs.length ≤ 64 ∧ allP zs = true ∧ smV zs = sumZ zs) ∨ (smE zs = 2 ∧ smV zs = 0) ∨ (smE zs = 8 ∧ smV zs = 0) := by
  by_cases h : zs.length ≤ 64
  · cases ha : allP zs
    · exact .inr (.inl ⟨(sm_bad zs h ha).2, (sm_bad zs h ha).1⟩)
    · exact .inl ⟨(sm_good zs h ha).2, h, rfl, (sm_good zs h ha).1⟩
  · exact .inr (.inr ⟨(sm_big zs (by omega)).2, (sm_big zs (by omega)).1⟩)
theorem decideR_any (s t o i : Int) (w : World) (s0 : 0 ≤ s) (s1 : s ≤ 68719476736) (t0 : 1000 ≤ t) (t1 : t ≤ 100000) (o0 : 1 ≤ o) (o1 : o ≤ 68719476736) (i0 : 0 ≤ i) (i1 : i ≤ 4398046511104) :
    Calls Tryd.prog 41 #[.int .i64 s, .int .i64 t, .int .i64 o, .int .i64 i] w fun e w' => e = .returned (.bool (decide (t * (o + i) ≤ 1000 * s))) ∧ w' = w := by
  have hb := mul_bound t (o + i) 100000 4466765987840 (by omega) t1 (by omega) (by omega)
  have hb0 : 0 ≤ t * (o + i) := hb.1
  have hb2 : t * (o + i) ≤ 446676598784000000 := hb.2
  have hw : IntKind.i64.wrap (t * (o + i)) = t * (o + i) := IntWalk.i64_in _ (by omega)
  clear hb
  go_enter Tryd.func41, Tryd.ntmps41
  go_wp2_with fail
  go_ret
  exact ⟨rfl, rfl⟩
set_option maxHeartbeats 2000000 in
theorem received_any (s t o : Int) (ao : Option Addr) (len cap : Nat) (zs : List Int) (w : World) (hz : IntsIn w ao len zs) :
    Calls Tryd.prog 21 #[.int .i64 s, .int .i64 t, .int .i64 o, .slice ao len cap] w fun e w' => e = .returned (.tuple #[.bool (rcB s t o zs), .int .i64 (rcE s t o zs)]) ∧ w' = w := by
  have HP := isPower_any s w
  have HR := isReceiver_any t o w
  have HS := sum_any ao len cap zs w hz
  clear hz
  cases h : isP s
  · rw [h] at HP
    have HP := Lib.hid HP
    have HV := Lib.hid (show rcB s t o zs = false by simp [rcB, h])
    have HE := Lib.hid (show rcE s t o zs = 2 by simp [rcE, h])
    clear h HR HS
    go_enter Tryd.func21, Tryd.ntmps21
    go_wp2_with fail
    refine HP.out.mono ?_
    rintro e w' ⟨rfl, rfl⟩
    go_wp2_with fail
    go_ret2
    rw [HV.out, HE.out]
    exact ⟨rfl, rfl⟩
  rw [h] at HP
  have HP := Lib.hid HP
  cases h2 : isR t o
  · rw [h2] at HR
    have HR := Lib.hid HR
    have HV := Lib.hid (show rcB s t o zs = false by simp [rcB, h2])
    have HE := Lib.hid (show rcE s t o zs = 2 by simp [rcE, h2])
    clear h h2 HS
    go_enter Tryd.func21, Tryd.ntmps21
    go_wp2_with fail
    refine HP.out.mono ?_
    rintro e w' ⟨rfl, rfl⟩
    go_wp2_with fail
    refine HR.out.mono ?_
    rintro e w' ⟨rfl, rfl⟩
    go_wp2_with fail
    go_ret2
    rw [HV.out, HE.out]
    exact ⟨rfl, rfl⟩
  rw [h2] at HR
  have HR := Lib.hid HR
  rcases smE_cases zs with ⟨e0, hl, ha, ev⟩ | ⟨e0, ev⟩ | ⟨e0, ev⟩
  · have hb1 := sum_bound zs ha
    rw [e0, ev] at HS
    have HS := Lib.hid HS
    obtain ⟨s0, s1⟩ := isP_t.1 h
    obtain ⟨⟨t0, t1⟩, o0, o1⟩ := isR_t.1 h2
    have i1 : sumZ zs ≤ 4398046511104 := by rw [MX] at hb1; omega
    have i0 := hb1.1
    have s1' : s ≤ 68719476736 := s1
    have o1' : o ≤ 68719476736 := o1
    have HV := Lib.hid (show rcB s t o zs = decide (t * (o + sumZ zs) ≤ 1000 * s) by simp [rcB, h, h2, e0])
    have HE := Lib.hid (show rcE s t o zs = 0 by simp [rcE, h, h2, e0])
    clear h h2 e0 ev hl ha hb1 s1 o1
    generalize sumZ zs = i at *
    have hb := mul_bound t (o + i) 100000 4466765987840 (by omega) t1 (by omega) (by omega)
    have hb0 : 0 ≤ t * (o + i) := hb.1
    have hb2 : t * (o + i) ≤ 446676598784000000 := hb.2
    have hw : IntKind.i64.wrap (t * (o + i)) = t * (o + i) := IntWalk.i64_in _ (by omega)
    clear hb
    go_enter Tryd.func21, Tryd.ntmps21
    go_wp2_with fail
    refine HP.out.mono ?_
    rintro e w' ⟨rfl, rfl⟩
    go_wp2_with fail
    refine HR.out.mono ?_
    rintro e w' ⟨rfl, rfl⟩
    go_wp2_with fail
    refine HS.out.mono ?_
    rintro e w' ⟨rfl, rfl⟩
    go_wp2_with fail
    go_ret2
    rw [HV.out, HE.out]
    exact ⟨rfl, rfl⟩
  · rw [e0, ev] at HS
    have HS := Lib.hid HS
    have HV := Lib.hid (show rcB s t o zs = false by simp [rcB, e0])
    have HE := Lib.hid (show rcE s t o zs = 2 by simp [rcE, h, h2, e0])
    clear h h2 e0 ev
    go_enter Tryd.func21, Tryd.ntmps21
    go_wp2_with fail
    refine HP.out.mono ?_
    rintro e w' ⟨rfl, rfl⟩
    go_wp2_with fail
    refine HR.out.mono ?_
    rintro e w' ⟨rfl, rfl⟩
    go_wp2_with fail
    refine HS.out.mono ?_
    rintro e w' ⟨rfl, rfl⟩
    go_wp2_with fail
    go_ret2
    rw [HV.out, HE.out]
    exact ⟨rfl, rfl⟩
  · rw [e0, ev] at HS
    have HS := Lib.hid HS
    have HV := Lib.hid (show rcB s t o zs = false by simp [rcB, e0])
    have HE := Lib.hid (show rcE s t o zs = 8 by simp [rcE, h, h2, e0])
    clear h h2 e0 ev
    go_enter Tryd.func21, Tryd.ntmps21
    go_wp2_with fail
    refine HP.out.mono ?_
    rintro e w' ⟨rfl, rfl⟩
    go_wp2_with fail
    refine HR.out.mono ?_
    rintro e w' ⟨rfl, rfl⟩
    go_wp2_with fail
    refine HS.out.mono ?_
    rintro e w' ⟨rfl, rfl⟩
    go_wp2_with fail
    go_ret2
    rw [HV.out, HE.out]
    exact ⟨rfl, rfl⟩
set_option maxHeartbeats 2000000 in
theorem receivedR_any (s t o : Int) (ao : Option Addr) (len cap : Nat) (zs : List Int) (w : World) (hz : IntsIn w ao len zs) :
    Calls Tryd.prog 22 #[.int .i64 s, .int .i64 t, .int .i64 o, .slice ao len cap] w fun e w' => e = .returned (.tuple #[.bool (rcB s t o zs), .int .i64 (rcE s t o zs)]) ∧ w' = w := by
  have HP := isR_any s w
  have HR := right_any t o w
  have HS := sumR_any ao len cap zs w hz
  clear hz
  cases h : isP s
  · rw [h] at HP
    have HP := Lib.hid HP
    have HV := Lib.hid (show rcB s t o zs = false by simp [rcB, h])
    have HE := Lib.hid (show rcE s t o zs = 2 by simp [rcE, h])
    clear h HR HS
    go_enter Tryd.func22, Tryd.ntmps22
    go_wp2_with fail
    refine HP.out.mono ?_
    rintro e w' ⟨rfl, rfl⟩
    go_wp2_with fail
    go_ret2
    rw [HV.out, HE.out]
    exact ⟨rfl, rfl⟩
  rw [h] at HP
  have HP := Lib.hid HP
  cases h2 : isR t o
  · rw [h2] at HR
    have HR := Lib.hid HR
    have HV := Lib.hid (show rcB s t o zs = false by simp [rcB, h2])
    have HE := Lib.hid (show rcE s t o zs = 2 by simp [rcE, h2])
    clear h h2 HS
    go_enter Tryd.func22, Tryd.ntmps22
    go_wp2_with fail
    refine HP.out.mono ?_
    rintro e w' ⟨rfl, rfl⟩
    go_wp2_with fail
    refine HR.out.mono ?_
    rintro e w' ⟨rfl, rfl⟩
    go_wp2_with fail
    go_ret2
    rw [HV.out, HE.out]
    exact ⟨rfl, rfl⟩
  rw [h2] at HR
  have HR := Lib.hid HR
  rcases smE_cases zs with ⟨e0, hl, ha, ev⟩ | ⟨e0, ev⟩ | ⟨e0, ev⟩
  · have hb1 := sum_bound zs ha
    rw [e0, ev] at HS
    have HS := Lib.hid HS
    obtain ⟨s0, s1⟩ := isP_t.1 h
    obtain ⟨⟨t0, t1⟩, o0, o1⟩ := isR_t.1 h2
    have i1 : sumZ zs ≤ 4398046511104 := by rw [MX] at hb1; omega
    have i0 := hb1.1
    have s1' : s ≤ 68719476736 := s1
    have o1' : o ≤ 68719476736 := o1
    have HV := Lib.hid (show rcB s t o zs = decide (t * (o + sumZ zs) ≤ 1000 * s) by simp [rcB, h, h2, e0])
    have HE := Lib.hid (show rcE s t o zs = 0 by simp [rcE, h, h2, e0])
    clear h h2 e0 ev hl ha hb1 s1 o1
    generalize sumZ zs = i at *
    have HD := Lib.hid (decideR_any s t o i w s0 s1' t0 t1 o0 o1' i0 i1)
    go_enter Tryd.func22, Tryd.ntmps22
    go_wp2_with fail
    refine HP.out.mono ?_
    rintro e w' ⟨rfl, rfl⟩
    go_wp2_with fail
    refine HR.out.mono ?_
    rintro e w' ⟨rfl, rfl⟩
    go_wp2_with fail
    refine HS.out.mono ?_
    rintro e w' ⟨rfl, rfl⟩
    go_wp2_with fail
    refine HD.out.mono ?_
    rintro e w' ⟨rfl, rfl⟩
    go_wp2_with fail
    go_ret2
    rw [HV.out, HE.out]
    exact ⟨rfl, rfl⟩
  · rw [e0, ev] at HS
    have HS := Lib.hid HS
    have HV := Lib.hid (show rcB s t o zs = false by simp [rcB, e0])
    have HE := Lib.hid (show rcE s t o zs = 2 by simp [rcE, h, h2, e0])
    clear h h2 e0 ev
    go_enter Tryd.func22, Tryd.ntmps22
    go_wp2_with fail
    refine HP.out.mono ?_
    rintro e w' ⟨rfl, rfl⟩
    go_wp2_with fail
    refine HR.out.mono ?_
    rintro e w' ⟨rfl, rfl⟩
    go_wp2_with fail
    refine HS.out.mono ?_
    rintro e w' ⟨rfl, rfl⟩
    go_wp2_with fail
    go_ret2
    rw [HV.out, HE.out]
    exact ⟨rfl, rfl⟩
  · rw [e0, ev] at HS
    have HS := Lib.hid HS
    have HV := Lib.hid (show rcB s t o zs = false by simp [rcB, e0])
    have HE := Lib.hid (show rcE s t o zs = 8 by simp [rcE, h, h2, e0])
    clear h h2 e0 ev
    go_enter Tryd.func22, Tryd.ntmps22
    go_wp2_with fail
    refine HP.out.mono ?_
    rintro e w' ⟨rfl, rfl⟩
    go_wp2_with fail
    refine HR.out.mono ?_
    rintro e w' ⟨rfl, rfl⟩
    go_wp2_with fail
    refine HS.out.mono ?_
    rintro e w' ⟨rfl, rfl⟩
    go_wp2_with fail
    go_ret2
    rw [HV.out, HE.out]
    exact ⟨rfl, rfl⟩
end Go.Proofs.YtkbdjpdpcbeciaaDoor
