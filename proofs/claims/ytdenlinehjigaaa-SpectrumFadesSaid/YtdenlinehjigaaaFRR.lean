/- Factor, by the document. -/
import Derived.Test.YtdenlinehjigaaaFcR
namespace Go.Proofs.Ytdenlinehjigaaa
open Go.RowKit
set_option linter.unusedVariables false

set_option maxHeartbeats 8000000 in
theorem factorRR_any (a0 : Option Addr) (l0 k0 : Nat) (a1 : Option Addr) (l1 k1 : Nat) (ss : List Src) (fs : List Fd) (a b c t : Int) (w : World) (hs : SpIn w a0 l0 a1 l1 ss fs) :
    Calls Try.prog 36 #[.agg #[.slice a0 l0 k0, .slice a1 l1 k1], .int .i64 a, .int .i64 b, .int .i64 c, .int .i64 t] w fun e w' => e = .returned (.tuple #[.int .i64 (fcV (ckS l0 l1 ss fs) a b c t fs), .int .i64 (fcE (ckS l0 l1 ss fs) a b c t)]) ∧ Fr no w w' := by
  obtain ⟨W, hW⟩ : ∃ W, W = w.alloc (.cells #[.slice a0 l0 k0, .slice a1 l1 k1] 47 (0, 0)) := ⟨_, rfl⟩
  have hF : Fr no w W := by rw [hW]; exact (Fr.refl no w).alloc _
  have h1 : W.heap[w.heap.size]? = some (.cells #[.slice a0 l0 k0, .slice a1 l1 k1] 47 (0, 0)) := by rw [hW]; exact heap_alloc_new w _
  obtain ⟨c0, c1⟩ := two_cells h1
  have HS := Lib.hid (hs.kept hF)
  have HF := Lib.hid hF
  have HW := Lib.hid hW
  have HC := checkT_any a0 l0 k0 a1 l1 k1 ss fs W (HS.out.s) (HS.out.f) HS.out.c
  clear hs hF h1 hW
  cases hB : (ckS l0 l1 ss fs)
  · rw [hB] at HC
    have HR := Lib.hid (show fcV false a b c t fs = 0 ∧ fcE false a b c t = 1 by simp [fcV, fcE])
    have HC := Lib.hid HC
    clear hB
    go_enter Try.func36, Try.ntmps36
    go_wp2_with fail
    rw [← HW.out]
    refine HC.out.mono ?_
    rintro e w1 ⟨rfl, f1⟩
    have HF1 := Lib.hid (HF.out.noTrans f1)
    clear f1
    go_wp2_with fail
    go_ret2
    rw [HR.out.1, HR.out.2]
    exact ⟨rfl, HF1.out⟩
  · rw [hB] at HC
    have HL := Lib.hid (show l1 ≤ 80 by have := (ckS_len hB).2.1; omega)
    have HC := Lib.hid HC
    have HX := Lib.hid (fun w h => factorR_any a0 l0 k0 a1 l1 k1 ss fs a b c t w h HL.out)
    have HX1 := Lib.hid (show ftF a b c t fs = ftF a b c t fs from rfl)
    have HV := Lib.hid (show fcV true a b c t fs = if rgB a b c t then ftF a b c t fs else 0 by simp [fcV])
    have HE := Lib.hid (show fcE true a b c t = if rgB a b c t then 0 else 2 by simp [fcE])
    have HRG := Lib.hid (show rgB a b c t = (inR a 0 31 && inR b 0 31 && inR c 0 15 && inR t 0 1099511627776) from rfl)
    clear hB
    generalize ftF a b c t fs = ft at *
    go_enter Try.func36, Try.ntmps36
    go_wp2_with fail
    rw [← HW.out]
    refine HC.out.mono ?_
    rintro e w1 ⟨rfl, f1⟩
    have g0 := f1.keepc c0
    have g1 := f1.keepc c1
    have HF1 := Lib.hid (HF.out.noTrans f1)
    have HX2 := Lib.hid (HX.out w1 (HS.out.kept f1))
    have HFR := Lib.hid (Fr.refl no w1)
    clear f1 c0 c1
    have HN1 := Lib.hid (fun w => channelR_any c w)
    have HN2 := Lib.hid (fun w => timeR_any t w)
    go_wp2_with (first | (go_at_call 95; refine (HN1.out _).mono ?_; rintro e w2 ⟨rfl, rfl⟩) | (go_at_call 96; refine (HN2.out _).mono ?_; rintro e w2 ⟨rfl, rfl⟩) | (go_at_call 97; refine HX2.out.mono ?_; rintro e w3 ⟨rfl, f3⟩; have HG3 := Lib.hid (HF1.out.noTrans f3)))
    all_goals go_ret2
    all_goals rw [HV.out, HE.out, HRG.out]
    all_goals first
      | (refine ⟨?_, HF1.out⟩; rw [show (inR a 0 31 && inR b 0 31 && inR c 0 15 && inR t 0 1099511627776) = false by first | (simp [*]; done) | (simp_all; done) | (simp [inR, *]; omega) | (simp_all [inR]; omega)]; rfl)
      | (refine ⟨?_, HG3.out⟩; rw [show (inR a 0 31 && inR b 0 31 && inR c 0 15 && inR t 0 1099511627776) = true by first | (simp [*]; done) | (simp [inR, *]; omega) | (simp_all [inR]; omega) | (simp_all [inR]; done)]; rfl)
end Go.Proofs.Ytdenlinehjigaaa
