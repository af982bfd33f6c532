/- Show, Reach, Slot: the program's and the document's. -/
import Derived.Test.YtmkmefcafpgphaaRch
namespace Go.Proofs.Ytmkmefcafpgphaa
set_option linter.unusedVariables false
open Go.RowKit

theorem erC_0 {o d : Int} (h : okC o d = true) : erC o d = 0 := by simp [erC, h]
theorem erC_1 {o d : Int} (h : okC o d = false) : erC o d = 1 := by simp [erC, h]
/-- A boxed clock. -/
theorem box_clock (w : World) (o d : Int) : Fr no w (w.alloc (.cells #[.int .i64 o, .int .i64 d] 23 (0, 0))) ∧ (w.alloc (.cells #[.int .i64 o, .int .i64 d] 23 (0, 0))).cell? ⟨w.heap.size, 0, none⟩ = some (.int .i64 o) ∧ (w.alloc (.cells #[.int .i64 o, .int .i64 d] 23 (0, 0))).cell? ⟨w.heap.size, 1, none⟩ = some (.int .i64 d) := by
  have h := heap_alloc_new w (.cells #[.int .i64 o, .int .i64 d] 23 (0, 0))
  exact ⟨(Fr.refl no w).alloc _, by simp only [World.cell?, h]; rfl, by simp only [World.cell?, h]; rfl⟩
def shV (o d t : Int) : Int := if okC o d && isT t then sh o d t else 0
def shE (o d t : Int) : Int := if okC o d then (if isT t then 0 else 2) else 1
theorem two_cells {w : World} {B T : Nat} {a b : Value} (h : w.heap[B]? = some (.cells #[a, b] T (0, 0))) :
    w.cell? ⟨B, 0, none⟩ = some a ∧ w.cell? ⟨B, 1, none⟩ = some b ∧ w.frozen? ⟨B, 0, none⟩ = false ∧ w.frozen? ⟨B, 1, none⟩ = false := by
  simp [World.cell?, World.frozen?, h]

theorem field_dial (b : Nat) (w : World) : (Instr.field 79 (.agg #[.func (.func 73) #[] #[.pointer (some ⟨b, 0, none⟩)]]) 0).run Try.prog w = .ok (.func (.func 73) #[] #[.pointer (some ⟨b, 0, none⟩)]) w := by kernel_rfl
theorem enter39 (args : Array Value) (w : World) : (callFunc 73 args).run Try.prog w = .ok (.enter 73 args) w := Go.Proofs.enters_of Try.func73 (by kernel_rfl) rfl args w

set_option maxHeartbeats 2000000 in
theorem show_any (o d t : Int) (w : World) : Calls Try.prog 43 #[.agg #[.int .i64 o, .int .i64 d], .int .i64 t] w fun e w' => e = .returned (.tuple #[.int .i64 (shV o d t), .int .i64 (shE o d t)]) ∧ Fr no w w' := by
  obtain ⟨hF, c0, c1⟩ := box_clock w o d
  obtain ⟨W, hW⟩ : ∃ W, W = w.alloc (.cells #[.int .i64 o, .int .i64 d] 23 (0, 0)) := ⟨_, rfl⟩
  rw [← hW] at hF c0 c1
  have HW := Lib.hid hW
  have HF := Lib.hid hF
  clear hW hF
  have HC := Lib.hid (check_any o d W)
  have HT := Lib.hid (fun w => isTime_any t w)
  cases hk : okC o d
  · rw [erC_1 hk] at HC
    have HR := Lib.hid (show shV o d t = 0 ∧ shE o d t = 1 by simp [shV, shE, hk])
    clear hk
    go_enter Try.func43, Try.ntmps43
    go_wp2_with fail
    rw [← HW.out]
    refine HC.out.mono ?_
    rintro e w1 ⟨rfl, f1⟩
    have HF1 := Lib.hid (HF.out.noTrans f1)
    clear f1
    go_wp2_with fail
    go_ret2
    rw [HR.out.1, HR.out.2]
    exact ⟨rfl, HF1.out⟩
  · rw [erC_0 hk] at HC
    cases ht : isT t
    · rw [ht] at HT
      have HR := Lib.hid (show shV o d t = 0 ∧ shE o d t = 2 by simp [shV, shE, hk, ht])
      clear hk ht
      go_enter Try.func43, Try.ntmps43
      go_wp2_with fail
      rw [← HW.out]
      refine HC.out.mono ?_
      rintro e w1 ⟨rfl, f1⟩
      have HF1 := Lib.hid (HF.out.noTrans f1)
      clear f1
      go_wp2_with fail
      refine (HT.out _).mono ?_
      rintro e w2 ⟨rfl, rfl⟩
      go_wp2_with fail
      go_ret2
      rw [HR.out.1, HR.out.2]
      exact ⟨rfl, HF1.out⟩
    · rw [ht] at HT
      have HR := Lib.hid (show shV o d t = sh o d t ∧ shE o d t = 0 by simp [shV, shE, hk, ht])
      have HK := Lib.hid (OkC.of hk)
      have HT2 := Lib.hid (isT_t.1 ht)
      clear hk ht
      have efd := field_dial
      have eg := enter39
      go_enter Try.func43, Try.ntmps43
      go_wp2_with fail
      rw [← HW.out]
      refine HC.out.mono ?_
      rintro e w1 ⟨rfl, f1⟩
      have HF1 := Lib.hid (HF.out.noTrans f1)
      have d0 := f1.keepc c0
      have d1 := f1.keepc c1
      clear f1
      go_wp2_with fail
      refine (HT.out _).mono ?_
      rintro e w2 ⟨rfl, rfl⟩
      go_wp2_with fail
      refine (dialOf_any o d _).mono ?_
      rintro e w3 ⟨rfl, hb, f3⟩
      have HF3 := Lib.hid (HF1.out.noTrans f3)
      have HS := Lib.hid (shows_any o d t _ w3 HK.out HT2.out.1 HT2.out.2 (two_cells hb).1 (two_cells hb).2.1)
      clear f3 hb
      go_wp2_with fail
      refine (HS.out).mono ?_
      rintro e w4 ⟨rfl, q, rfl⟩
      go_wp2_with fail
      go_ret2
      rw [HR.out.1, HR.out.2]
      exact ⟨rfl, HF3.out.drewN _⟩
noncomputable def reV (o d x : Int) : Int := if okC o d then rcV o d x else 0
def reE (o d x : Int) : Int := if okC o d then rcE o d x else 1
end Go.Proofs.Ytmkmefcafpgphaa
