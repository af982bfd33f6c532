/- End, Fits, Late: the program's, with method values, and the document's. -/
import Derived.Test.YtgddmmlkpajpmaaApa
import Derived.Test.YtgddmmlkpajpmaaGrw
namespace Go.Proofs.Ytgddmmlkpajpmaa
set_option linter.unusedVariables false
open Go.RowKit

noncomputable def enV (o d s : Int) : Int := if inE o d s 2120 = 0 then (if inV o d s 2120 + 6088 > 1099511627776 then 0 else inV o d s 2120 + 6088) else 0
noncomputable def enE (o d s : Int) : Int := if inE o d s 2120 = 0 then (if inV o d s 2120 + 6088 > 1099511627776 then 15 else 0) else inE o d s 2120
/-- Of an arrival: the error; sent, first, last. -/
def arE (oa da ob db s : Int) : Int := if inE oa da s 2120 = 0 then inE ob db s 3221 else inE oa da s 2120
noncomputable def fiB (oa da ob db s : Int) : Bool := if arE oa da ob db s = 0 then inR (inV oa da s 2120) (wiF ob db s) (wiT ob db s) else false
noncomputable def laV (oa da ob db s : Int) : Int := if arE oa da ob db s = 0 then sh ob db (inV oa da s 2120) - (s * 10000 + 2120) else 0
theorem in_ok {o d s x : Int} (h : inE o d s x = 0) : OkC o d ∧ okC o d = true ∧ (0 ≤ s ∧ s ≤ 109951162) ∧ inV o d s x = rch o d (s * 10000 + x) ∧ (0 ≤ inV o d s x ∧ inV o d s x ≤ 1099511627776) ∧ Rc o d (s * 10000 + x) (inV o d s x) := by
  by_cases hc : csE o d s = 0
  · obtain ⟨hk, hi⟩ := csE_0' hc
    by_cases hl : sh o d 1099511627776 < s * 10000 + x
    · simp [inE, hc, rcE, hl] at h
    · have e : inV o d s x = rch o d (s * 10000 + x) := by simp [inV, hc, rcV, hl]
      have hr := rch_rc o d (s * 10000 + x) (OkC.of hk).d1
      have h2 : ¬ rch o d (s * 10000 + x) > 1099511627776 := fun h => hl ((rc_late hr).1 h)
      rw [e]
      exact ⟨OkC.of hk, hk, inR_t.1 hi, rfl, ⟨hr.lo, by omega⟩, hr⟩
  · simp [inE, hc] at h
theorem box_hand (w : World) (o d : Int) : Fr no w (w.alloc (.cells #[.int .i64 o, .int .i64 d] 54 (0, 0))) ∧ (w.alloc (.cells #[.int .i64 o, .int .i64 d] 54 (0, 0))).cell? ⟨w.heap.size, 0, none⟩ = some (.int .i64 o) ∧ (w.alloc (.cells #[.int .i64 o, .int .i64 d] 54 (0, 0))).cell? ⟨w.heap.size, 1, none⟩ = some (.int .i64 d) := by
  have h := heap_alloc_new w (.cells #[.int .i64 o, .int .i64 d] 54 (0, 0))
  exact ⟨(Fr.refl no w).alloc _, (two_cells h).1, (two_cells h).2.1⟩

theorem hsend_any (o d s : Int) (w : World) : Calls Try.prog 50 #[.agg #[.int .i64 o, .int .i64 d], .int .i64 s] w fun e w' => e = .returned (.tuple #[.int .i64 (inV o d s 2120), .int .i64 (inE o d s 2120)]) ∧ Fr no w w' := by
  obtain ⟨hF, c0, c1⟩ := box_hand w o d
  obtain ⟨W, hW⟩ : ∃ W, W = w.alloc (.cells #[.int .i64 o, .int .i64 d] 54 (0, 0)) := ⟨_, rfl⟩
  rw [← hW] at hF c0 c1
  have HW := Lib.hid hW
  have HF := Lib.hid hF
  clear hW hF
  have HS := Lib.hid (fun w => send_any o d s w)
  generalize inV o d s 2120 = v at *
  generalize inE o d s 2120 = r at *
  go_enter Try.func50, Try.ntmps50
  go_wp2_with fail
  rw [← HW.out]
  refine (HS.out _).mono ?_
  rintro e w1 ⟨rfl, f1⟩
  have HF1 := Lib.hid (HF.out.noTrans f1)
  clear f1
  go_wp2_with fail
  go_ret2
  exact ⟨rfl, HF1.out⟩
theorem hwindow_any (o d s : Int) (w : World) : Calls Try.prog 51 #[.agg #[.int .i64 o, .int .i64 d], .int .i64 s] w fun e w' => e = .returned (.tuple #[.int .i64 (wiF o d s), .int .i64 (wiT o d s), .int .i64 (inE o d s 3221)]) ∧ Fr no w w' := by
  obtain ⟨hF, c0, c1⟩ := box_hand w o d
  obtain ⟨W, hW⟩ : ∃ W, W = w.alloc (.cells #[.int .i64 o, .int .i64 d] 54 (0, 0)) := ⟨_, rfl⟩
  rw [← hW] at hF c0 c1
  have HW := Lib.hid hW
  have HF := Lib.hid hF
  clear hW hF
  have HS := Lib.hid (fun w => window_any o d s w)
  generalize wiF o d s = v at *
  generalize wiT o d s = u at *
  generalize inE o d s 3221 = r at *
  go_enter Try.func51, Try.ntmps51
  go_wp2_with fail
  rw [← HW.out]
  refine (HS.out _).mono ?_
  rintro e w1 ⟨rfl, f1⟩
  have HF1 := Lib.hid (HF.out.noTrans f1)
  clear f1
  go_wp2_with fail
  go_ret3
  exact ⟨rfl, HF1.out⟩
/-- (hand).end: also behind the last time. -/
theorem hend_any (o d s : Int) (w : World) : Calls Try.prog 47 #[.agg #[.int .i64 o, .int .i64 d], .int .i64 s] w fun e w' => e = .returned (.tuple #[.int .i64 (if inE o d s 2120 = 0 then inV o d s 2120 + 6088 else 0), .int .i64 (inE o d s 2120)]) ∧ Fr no w w' := by
  obtain ⟨hF, c0, c1⟩ := box_hand w o d
  obtain ⟨W, hW⟩ : ∃ W, W = w.alloc (.cells #[.int .i64 o, .int .i64 d] 54 (0, 0)) := ⟨_, rfl⟩
  rw [← hW] at hF c0 c1
  have HW := Lib.hid hW
  have HF := Lib.hid hF
  clear hW hF
  have HS := Lib.hid (fun w => hsend_any o d s w)
  obtain ⟨b0, b1⟩ := inV_bd o d s 2120
  generalize inV o d s 2120 = v at *
  by_cases hr : inE o d s 2120 = 0
  · rw [hr] at HS ⊢
    rw [if_pos rfl]
    clear hr
    go_enter Try.func47, Try.ntmps47
    go_wp2_with fail
    rw [← HW.out]
    refine (HS.out _).mono ?_
    rintro e w1 ⟨rfl, f1⟩
    have HF1 := Lib.hid (HF.out.noTrans f1)
    clear f1
    go_wp2_with fail
    go_ret2
    exact ⟨rfl, HF1.out⟩
  · rw [if_neg hr]
    generalize inE o d s 2120 = r at *
    have hr2 : (r == 0) = false := by simpa using hr
    clear hr
    go_enter Try.func47, Try.ntmps47
    go_wp2_with fail
    rw [← HW.out]
    refine (HS.out _).mono ?_
    rintro e w1 ⟨rfl, f1⟩
    have HF1 := Lib.hid (HF.out.noTrans f1)
    clear f1
    go_wp2_with fail
    go_ret2
    exact ⟨rfl, HF1.out⟩
set_option maxHeartbeats 1000000 in
theorem inTime_any (o d s : Int) (w : World) : Calls Try.prog 46 #[.func (.func 47) #[.agg #[.int .i64 o, .int .i64 d]] #[], .int .i64 s] w fun e w' => e = .returned (.tuple #[.int .i64 (enV o d s), .int .i64 (enE o d s)]) ∧ Fr no w w' := by
  have HS := Lib.hid (fun w => hend_any o d s w)
  have eg : ∀ args w, (callFunc 47 args).run Try.prog w = .ok (.enter 47 args) w := Go.Proofs.enters_of Try.func47 (by kernel_rfl) rfl
  obtain ⟨b0, b1⟩ := inV_bd o d s 2120
  by_cases hr : inE o d s 2120 = 0
  · rw [hr, if_pos rfl] at HS
    by_cases hv : inV o d s 2120 + 6088 > 1099511627776
    · have HR := Lib.hid (show enV o d s = 0 ∧ enE o d s = 15 by simp [enV, enE, hr, hv])
      generalize inV o d s 2120 = v at *
      clear hr
      go_enter Try.func46, Try.ntmps46
      go_wp2_with fail
      refine (HS.out _).mono ?_
      rintro e w1 ⟨rfl, f1⟩
      have HF1 := Lib.hid f1
      clear f1
      go_wp2_with fail
      go_ret2
      rw [HR.out.1, HR.out.2]
      exact ⟨rfl, HF1.out⟩
    · have HR := Lib.hid (show enV o d s = inV o d s 2120 + 6088 ∧ enE o d s = 0 by simp [enV, enE, hr, hv])
      generalize inV o d s 2120 = v at *
      have hv2 : v + 6088 ≤ 1099511627776 := by omega
      clear hr hv
      go_enter Try.func46, Try.ntmps46
      go_wp2_with fail
      refine (HS.out _).mono ?_
      rintro e w1 ⟨rfl, f1⟩
      have HF1 := Lib.hid f1
      clear f1
      go_wp2_with fail
      go_ret2
      rw [HR.out.1, HR.out.2]
      exact ⟨rfl, HF1.out⟩
  · rw [if_neg hr] at HS
    have HR := Lib.hid (show enV o d s = 0 ∧ enE o d s = inE o d s 2120 by simp [enV, enE, hr])
    generalize inE o d s 2120 = r at *
    have hr2 : (r == 0) = false := by simpa using hr
    clear hr
    go_enter Try.func46, Try.ntmps46
    go_wp2_with fail
    refine (HS.out _).mono ?_
    rintro e w1 ⟨rfl, f1⟩
    have HF1 := Lib.hid f1
    clear f1
    go_wp2_with fail
    go_ret2
    rw [HR.out.1, HR.out.2]
    exact ⟨rfl, HF1.out⟩
theorem end_any (o d s : Int) (w : World) : Calls Try.prog 22 #[.agg #[.int .i64 o, .int .i64 d], .int .i64 s] w fun e w' => e = .returned (.tuple #[.int .i64 (enV o d s), .int .i64 (enE o d s)]) ∧ Fr no w w' := by
  obtain ⟨hF, c0, c1⟩ := box_clock w o d
  obtain ⟨W, hW⟩ : ∃ W, W = w.alloc (.cells #[.int .i64 o, .int .i64 d] 31 (0, 0)) := ⟨_, rfl⟩
  rw [← hW] at hF c0 c1
  have HW := Lib.hid hW
  have HF := Lib.hid hF
  clear hW hF
  have HS := Lib.hid (fun w => inTime_any o d s w)
  generalize enV o d s = v at *
  generalize enE o d s = r at *
  go_enter Try.func22, Try.ntmps22
  go_wp2_with fail
  rw [← HW.out]
  refine (HS.out _).mono ?_
  rintro e w1 ⟨rfl, f1⟩
  have HF1 := Lib.hid (HF.out.noTrans f1)
  clear f1
  go_wp2_with fail
  go_ret2
  exact ⟨rfl, HF1.out⟩
set_option maxHeartbeats 1000000 in
theorem endR_any (o d s : Int) (w : World) : Calls Try.prog 23 #[.agg #[.int .i64 o, .int .i64 d], .int .i64 s] w fun e w' => e = .returned (.tuple #[.int .i64 (enV o d s), .int .i64 (enE o d s)]) ∧ Fr no w w' := by
  obtain ⟨hF, c0, c1⟩ := box_clock w o d
  obtain ⟨W, hW⟩ : ∃ W, W = w.alloc (.cells #[.int .i64 o, .int .i64 d] 31 (0, 0)) := ⟨_, rfl⟩
  rw [← hW] at hF c0 c1
  have HW := Lib.hid hW
  have HF := Lib.hid hF
  clear hW hF
  have HS := Lib.hid (fun w => sendR_any o d s w)
  obtain ⟨b0, b1⟩ := inV_bd o d s 2120
  by_cases hr : inE o d s 2120 = 0
  · rw [hr] at HS
    by_cases hv : inV o d s 2120 + 6088 > 1099511627776
    · have HR := Lib.hid (show enV o d s = 0 ∧ enE o d s = 15 by simp [enV, enE, hr, hv])
      generalize inV o d s 2120 = v at *
      clear hr
      go_enter Try.func23, Try.ntmps23
      go_wp2_with fail
      rw [← HW.out]
      refine (HS.out _).mono ?_
      rintro e w1 ⟨rfl, f1⟩
      have HF1 := Lib.hid (HF.out.noTrans f1)
      clear f1
      go_wp2_with fail
      go_ret2
      rw [HR.out.1, HR.out.2]
      exact ⟨rfl, HF1.out⟩
    · have HR := Lib.hid (show enV o d s = inV o d s 2120 + 6088 ∧ enE o d s = 0 by simp [enV, enE, hr, hv])
      generalize inV o d s 2120 = v at *
      have hv2 : v + 6088 ≤ 1099511627776 := by omega
      clear hr hv
      go_enter Try.func23, Try.ntmps23
      go_wp2_with fail
      rw [← HW.out]
      refine (HS.out _).mono ?_
      rintro e w1 ⟨rfl, f1⟩
      have HF1 := Lib.hid (HF.out.noTrans f1)
      clear f1
      go_wp2_with fail
      go_ret2
      rw [HR.out.1, HR.out.2]
      first | exact ⟨rfl, HF1.out⟩ | exact ⟨by simp; omega, HF1.out⟩
  · have HR := Lib.hid (show enV o d s = 0 ∧ enE o d s = inE o d s 2120 by simp [enV, enE, hr])
    generalize inV o d s 2120 = v at *
    generalize inE o d s 2120 = r at *
    have hr2 : (r == 0) = false := by simpa using hr
    clear hr
    go_enter Try.func23, Try.ntmps23
    go_wp2_with fail
    rw [← HW.out]
    refine (HS.out _).mono ?_
    rintro e w1 ⟨rfl, f1⟩
    have HF1 := Lib.hid (HF.out.noTrans f1)
    clear f1
    go_wp2_with fail
    go_ret2
    rw [HR.out.1, HR.out.2]
    exact ⟨rfl, HF1.out⟩

end Go.Proofs.Ytgddmmlkpajpmaa
