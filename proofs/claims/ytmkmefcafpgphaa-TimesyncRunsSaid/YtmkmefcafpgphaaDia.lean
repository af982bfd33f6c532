/- Checks; dials. -/
import Derived.Test.YtmkmefcafpgphaaFlo
import Derived.Laws.EntriesVeiled
namespace Go.Proofs.Ytmkmefcafpgphaa
set_option linter.unusedVariables false
open Go.RowKit

set_option maxHeartbeats 1000000 in
theorem check_any (o d : Int) (w : World) : Calls Try.prog 41 #[.agg #[.int .i64 o, .int .i64 d]] w fun e w' => e = .returned (.int .i64 (erC o d)) ∧ Fr no w w' := by
  have HW1 := Lib.hid (fun w => within_any o (-1099511627776) 1099511627776 w)
  have HW2 := Lib.hid (fun w => within_any d (-100000) 100000 w)
  cases h1 : inR o (-1099511627776) 1099511627776
  · have HR := Lib.hid (show erC o d = 1 by simp [erC, okC, h1])
    rw [h1] at HW1
    clear h1
    go_enter Try.func41, Try.ntmps41
    go_wp2_with fail
    refine (HW1.out _).mono ?_
    rintro e w' ⟨rfl, rfl⟩
    go_wp2_with fail
    go_ret
    rw [HR.out]
    exact ⟨rfl, (Fr.refl no w).alloc _⟩
  · rw [h1] at HW1
    cases h2 : inR d (-100000) 100000
    · have HR := Lib.hid (show erC o d = 1 by simp [erC, okC, h1, h2])
      rw [h2] at HW2
      clear h1 h2
      go_enter Try.func41, Try.ntmps41
      go_wp2_with fail
      refine (HW1.out _).mono ?_
      rintro e w' ⟨rfl, rfl⟩
      go_wp2_with fail
      refine (HW2.out _).mono ?_
      rintro e w' ⟨rfl, rfl⟩
      go_wp2_with fail
      go_ret
      rw [HR.out]
      exact ⟨rfl, (Fr.refl no w).alloc _⟩
    · have HR := Lib.hid (show erC o d = 0 by simp [erC, okC, h1, h2])
      rw [h2] at HW2
      clear h1 h2
      go_enter Try.func41, Try.ntmps41
      go_wp2_with fail
      refine (HW1.out _).mono ?_
      rintro e w' ⟨rfl, rfl⟩
      go_wp2_with fail
      refine (HW2.out _).mono ?_
      rintro e w' ⟨rfl, rfl⟩
      go_wp2_with fail
      go_ret
      rw [HR.out]
      exact ⟨rfl, (Fr.refl no w).alloc _⟩
set_option maxHeartbeats 1000000 in
theorem checkR_any (o d : Int) (w : World) : Calls Try.prog 44 #[.agg #[.int .i64 o, .int .i64 d]] w fun e w' => e = .returned (.int .i64 (erC o d)) ∧ Fr no w w' := by
  have hh : True := trivial
  by_cases h1 : o < -1099511627776
  · have HR := Lib.hid (show erC o d = 1 by simp [erC, okC, inR]; omega)
    clear hh
    go_enter Try.func44, Try.ntmps44
    go_wp2_with fail
    go_ret
    rw [HR.out]
    exact ⟨rfl, (Fr.refl no w).alloc _⟩
  have g1 : -1099511627776 ≤ o := by omega
  by_cases h2 : 1099511627776 < o
  · have HR := Lib.hid (show erC o d = 1 by simp [erC, okC, inR]; omega)
    clear hh
    go_enter Try.func44, Try.ntmps44
    go_wp2_with fail
    go_ret
    rw [HR.out]
    exact ⟨rfl, (Fr.refl no w).alloc _⟩
  have g2 : o ≤ 1099511627776 := by omega
  by_cases h3 : d < -100000
  · have HR := Lib.hid (show erC o d = 1 by simp [erC, okC, inR]; omega)
    clear hh
    go_enter Try.func44, Try.ntmps44
    go_wp2_with fail
    go_ret
    rw [HR.out]
    exact ⟨rfl, (Fr.refl no w).alloc _⟩
  have g3 : -100000 ≤ d := by omega
  by_cases h4 : 100000 < d
  · have HR := Lib.hid (show erC o d = 1 by simp [erC, okC, inR]; omega)
    clear hh
    go_enter Try.func44, Try.ntmps44
    go_wp2_with fail
    go_ret
    rw [HR.out]
    exact ⟨rfl, (Fr.refl no w).alloc _⟩
  have g4 : d ≤ 100000 := by omega
  have HR := Lib.hid (show erC o d = 0 by simp [erC, okC, inR]; omega)
  clear hh
  go_enter Try.func44, Try.ntmps44
  go_wp2_with fail
  go_ret
  rw [HR.out]
  exact ⟨rfl, (Fr.refl no w).alloc _⟩

set_option maxHeartbeats 400000 in
theorem floorR_any (a : Int) (w : World) (h1 : -109951162777600000 ≤ a) (h2 : a ≤ 109951162777600000) :
    Calls Try.prog 67 #[.int .i64 a, .int .i64 1000000000] w fun e w' => e = .returned (.int .i64 (fl a)) ∧ w' = w := by
  by_cases h : 0 ≤ a
  · have hm := fl_pos h
    have HR := Lib.hid (show a / 1000000000 = fl a from rfl)
    go_enter Try.func67, Try.ntmps67
    go_wp2_with fail
    go_ret
    rw [HR.out]
    exact ⟨rfl, rfl⟩
  · obtain ⟨hq, hm⟩ := fl_neg (show a < 0 by omega)
    have hf : -109951163 ≤ fl a ∧ fl a ≤ 0 := by unfold fl; omega
    obtain ⟨hf1, hf2⟩ := hf
    have hn : a < 0 := by omega
    rcases hm with hm | hm
    · rw [if_pos hm] at hq
      have hb1 : -109951163 ≤ a.tdiv 1000000000 := by omega
      have hb2 : a.tdiv 1000000000 ≤ 1 := by omega
      have HQ := Lib.hid (show a.tdiv 1000000000 - 1 = fl a by omega)
      clear hq hf1 hf2
      go_enter Try.func67, Try.ntmps67
      go_wp2_with fail
      go_ret
      rw [← HQ.out]
      exact ⟨rfl, rfl⟩
    · rw [hm, if_neg (by omega)] at hq
      have hb1 : -109951163 ≤ a.tdiv 1000000000 := by omega
      have hm0 : 0 ≤ a.tmod 1000000000 := by omega
      have HQ := Lib.hid hq
      clear hq hf1 hf2 hm
      go_enter Try.func67, Try.ntmps67
      go_wp2_with fail
      go_ret
      rw [← HQ.out]
      exact ⟨rfl, rfl⟩
/-- A valid clock. -/
structure OkC (o d : Int) : Prop where
  o1 : -1099511627776 ≤ o
  o2 : o ≤ 1099511627776
  d1 : -100000 ≤ d
  d2 : d ≤ 100000
theorem OkC.of {o d : Int} (h : okC o d = true) : OkC o d := by obtain ⟨⟨a, b⟩, c, e⟩ := okC_t.1 h; exact ⟨a, b, c, e⟩
theorem fl_bd {a : Int} (h1 : -109951162777600000 ≤ a) (h2 : a ≤ 109951162777600000) : -109951163 ≤ fl a ∧ fl a ≤ 109951162 := by unfold fl; omega
set_option maxHeartbeats 1000000 in
theorem at_any (o d t : Int) (w : World) (hk : OkC o d) (t0 : 0 ≤ t) (t1 : t ≤ 1099511627776) :
    Calls Try.prog 47 #[.agg #[.int .i64 o, .int .i64 d], .int .i64 t] w fun e w' => e = .returned (.int .i64 (sh o d t)) ∧ Fr no w w' := by
  have m1 := mul_lo hk.d1 t0 t1
  have m2 := mul_hi hk.d2 t0 t1
  obtain ⟨o1, o2, d1, d2⟩ := hk
  obtain ⟨f1, f2⟩ := fl_bd m1 m2
  have HF := Lib.hid (fun w => floorR_any (t * d) w m1 m2)
  have HR := Lib.hid (show o + t + fl (t * d) = sh o d t from rfl)
  go_enter Try.func47, Try.ntmps47
  go_wp2_with fail
  go_quiet ((go_at_call 67; refine Calls.quiet_of_same (HF.out _)))
  rename_i nq
  go_wp2_with fail
  go_ret
  rw [← HR.out]
  exact ⟨rfl, ((Fr.refl no w).alloc _).drewN _⟩
set_option maxHeartbeats 1000000 in
theorem shows_any (o d t : Int) (b : Nat) (w : World) (hk : OkC o d) (t0 : 0 ≤ t) (t1 : t ≤ 1099511627776)
    (c0 : w.cell? ⟨b, 0, none⟩ = some (.int .i64 o)) (c1 : w.cell? ⟨b, 1, none⟩ = some (.int .i64 d)) :
    Calls Try.prog 73 (#[.int .i64 t] ++ #[.pointer (some ⟨b, 0, none⟩)]) w fun e w' => e = .returned (.int .i64 (sh o d t)) ∧ ∃ q, w' = w.drewN q := by
  have m1 := mul_lo hk.d1 t0 t1
  have m2 := mul_hi hk.d2 t0 t1
  obtain ⟨o1, o2, d1, d2⟩ := hk
  obtain ⟨f1, f2⟩ := fl_bd m1 m2
  have HF := Lib.hid (fun w => floor_any (t * d) w m1 m2)
  have HR := Lib.hid (show o + t + fl (t * d) = sh o d t from rfl)
  go_enter Try.func73, Try.ntmps73
  go_wp2_with fail
  go_quiet ((go_at_call 74; refine Calls.quiet_of_same (HF.out _)))
  rename_i nq
  go_wp2_with fail
  go_ret
  rw [← HR.out]
  exact ⟨rfl, _, rfl⟩
set_option maxHeartbeats 1000000 in
theorem dialOf_any (o d : Int) (w : World) :
    Calls Try.prog 58 #[.agg #[.int .i64 o, .int .i64 d]] w fun e w' => e = .returned (.agg #[.func (.func 73) #[] #[.pointer (some ⟨w.heap.size, 0, none⟩)]]) ∧ w'.heap[w.heap.size]? = some (.cells #[.int .i64 o, .int .i64 d] 23 (0, 0)) ∧ Fr no w w' := by
  go_enter Try.func58, Try.ntmps58
  go_wp2_with fail
  refine bodyPost_ret (v := .agg #[.func (.func 73) #[] #[.pointer (some ⟨w.heap.size, 0, none⟩)]]) (by simp [results, Try.results58, go_sem]) rfl ⟨rfl, ?_, ((Fr.refl no w).alloc _).alloc _⟩
  exact alloc_keeps (heap_alloc_new w _) _
end Go.Proofs.Ytmkmefcafpgphaa
