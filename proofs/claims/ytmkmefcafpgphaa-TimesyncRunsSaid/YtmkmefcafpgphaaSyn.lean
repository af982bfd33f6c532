/- Synced: Check, Measure, correct: the program's and the document's. -/
import Derived.Test.YtmkmefcafpgphaaApa
namespace Go.Proofs.Ytmkmefcafpgphaa
set_option linter.unusedVariables false
open Go.RowKit

def isS (s : Int) : Bool := inR s 0 109951162
theorem isS_t {s : Int} : isS s = true ↔ 0 ≤ s ∧ s ≤ 109951162 := inR_t
def isN (s c : Int) : Bool := decide (s = -1) && decide (c = 0)
def isW (s c : Int) : Bool := isS s && inR c 1 4096
def okS (o d s c : Int) : Bool := okC o d && (isN s c || isW s c)
def ckS (o d s c : Int) : Int := if okS o d s c then 0 else 1
def meE (o d s t : Int) : Int := if okC o d then (if isS s && isT t then 0 else 2) else 1
def meV (o d s t : Int) : Int := if okC o d && (isS s && isT t) then sh o d t - (s * 10000 + 2120) else 0
def coE (o d s c sl df : Int) : Int := if sl ≤ s then 5 else if inR df (-4999) 4999 then (if c = 4096 then 13 else adE o d df) else 15
def coO (o d s c sl df : Int) : Int := if coE o d s c sl df = 0 then o + df else 0
def coD (o d s c sl df : Int) : Int := if coE o d s c sl df = 0 then d else 0
def coS (o d s c sl df : Int) : Int := if coE o d s c sl df = 0 then sl else 0
def coC (o d s c sl df : Int) : Int := if coE o d s c sl df = 0 then c + 1 else 0
theorem four_cells {w : World} {B T : Nat} {c0 c1 c2 c3 : Value} (h : w.heap[B]? = some (.cells #[c0, c1, c2, c3] T (0, 0))) :
    w.cell? ⟨B, 0, none⟩ = some c0 ∧ w.cell? ⟨B, 1, none⟩ = some c1 ∧ w.cell? ⟨B, 2, none⟩ = some c2 ∧ w.cell? ⟨B, 3, none⟩ = some c3 ∧
    w.frozen? ⟨B, 0, none⟩ = false ∧ w.frozen? ⟨B, 1, none⟩ = false ∧ w.frozen? ⟨B, 2, none⟩ = false ∧ w.frozen? ⟨B, 3, none⟩ = false := by
  simp [World.cell?, World.frozen?, h]
theorem set_four {w : World} {B : Nat} {a b c d : Value} (h : w.heap[B]? = some (.cells #[a, b, c, d] 25 (0, 0))) (x y z u : Value) :
    ((((w.setCell ⟨B, 0, none⟩ x).setCell ⟨B, 1, none⟩ y).setCell ⟨B, 2, none⟩ z).setCell ⟨B, 3, none⟩ u).heap[B]? = some (.cells #[x, y, z, u] 25 (0, 0)) := by
  have h1 := three_set h 0 x
  have h2 := three_set h1 1 y
  have h3 := three_set h2 2 z
  have h4 := three_set h3 3 u
  simpa using h4
theorem set_four_fr {w w1 : World} {B : Nat} (h : Fr no w w1) (hB : w.heap.size ≤ B) (x y z u : Value) :
    Fr no w ((((w1.setCell ⟨B, 0, none⟩ x).setCell ⟨B, 1, none⟩ y).setCell ⟨B, 2, none⟩ z).setCell ⟨B, 3, none⟩ u) :=
  (((h.setCell (p := ⟨B, 0, none⟩) (.inr hB) _).setCell (p := ⟨B, 1, none⟩) (.inr hB) _).setCell (p := ⟨B, 2, none⟩) (.inr hB) _).setCell (p := ⟨B, 3, none⟩) (.inr hB) _

set_option maxHeartbeats 400000 in
theorem twithin_any (n a b : Int) (w : World) : Calls Try.prog 54 #[.int .i64 n, .int .i64 a, .int .i64 b] w fun e w' => e = .returned (.bool (inR n a b)) ∧ w' = w := by
  by_cases h1 : a ≤ n
  · have HR := Lib.hid (show inR n a b = decide (n ≤ b) by simp [inR, h1])
    go_enter Try.func54, Try.ntmps54
    go_wp2_with fail
    go_ret
    rw [HR.out]
    exact ⟨rfl, rfl⟩
  · have HR := Lib.hid (show inR n a b = false by simp [inR, h1])
    have h3 : n < a := by omega
    clear h1
    go_enter Try.func54, Try.ntmps54
    go_wp2_with fail
    go_ret
    rw [HR.out]
    exact ⟨rfl, rfl⟩
theorem isS_any (n : Int) (w : World) : Calls Try.prog 42 #[.int .i64 n] w fun e w' => e = .returned (.bool (isS n)) ∧ w' = w := by
  go_enter Try.func42, Try.ntmps42
  go_wp2_with fail
  refine (twithin_any n 0 109951162 _).mono ?_
  rintro e w' ⟨rfl, rfl⟩
  go_wp2_with fail
  go_ret
  exact ⟨rfl, rfl⟩
set_option maxHeartbeats 400000 in
theorem isSR_any (n : Int) (w : World) : Calls Try.prog 45 #[.int .i64 n] w fun e w' => e = .returned (.bool (isS n)) ∧ w' = w := by
  by_cases h1 : 0 ≤ n
  · have HR := Lib.hid (show isS n = decide (n ≤ 109951162) by simp [isS, inR, h1])
    go_enter Try.func45, Try.ntmps45
    go_wp2_with fail
    go_ret
    rw [HR.out]
    exact ⟨rfl, rfl⟩
  · have HR := Lib.hid (show isS n = false by simp [isS, inR, h1])
    have h3 : n < 0 := by omega
    clear h1
    go_enter Try.func45, Try.ntmps45
    go_wp2_with fail
    go_ret
    rw [HR.out]
    exact ⟨rfl, rfl⟩
theorem box_sync (w : World) (o d s c : Int) : ∃ W, W = w.alloc (.cells #[.int .i64 o, .int .i64 d, .int .i64 s, .int .i64 c] 25 (0, 0)) ∧ Fr no w W ∧ W.cell? ⟨w.heap.size, 0, none⟩ = some (.int .i64 o) ∧ W.cell? ⟨w.heap.size, 1, none⟩ = some (.int .i64 d) ∧ W.cell? ⟨w.heap.size, 2, none⟩ = some (.int .i64 s) ∧ W.cell? ⟨w.heap.size, 3, none⟩ = some (.int .i64 c) := by
  obtain ⟨h0, h1, h2, h3, -⟩ := four_cells (heap_alloc_new w (.cells #[.int .i64 o, .int .i64 d, .int .i64 s, .int .i64 c] 25 (0, 0)))
  exact ⟨_, rfl, (Fr.refl no w).alloc _, h0, h1, h2, h3⟩

set_option maxHeartbeats 1000000 in
theorem isN_any (o d s c : Int) (w : World) : Calls Try.prog 50 #[.agg #[.int .i64 o, .int .i64 d, .int .i64 s, .int .i64 c]] w fun e w' => e = .returned (.bool (isN s c)) ∧ Fr no w w' := by
  obtain ⟨W, hW, hF, c0_0, c1_0, c2_0, c3_0⟩ := box_sync w o d s c
  have HW := Lib.hid hW
  have HF0 := Lib.hid hF
  clear hW hF
  by_cases h1 : s = -1
  · subst h1
    by_cases h2 : c = 0
    · subst h2
      go_enter Try.func50, Try.ntmps50
      go_wp2_with fail
      rw [← HW.out]
      go_wp2_with fail
      go_ret
      exact ⟨by simp [isN], HF0.out⟩
    · have h3 : decide (c = 0) = false := by simpa using h2
      have h4 : (c == 0) = false := by simpa using h2
      go_enter Try.func50, Try.ntmps50
      go_wp2_with fail
      rw [← HW.out]
      go_wp2_with fail
      go_ret
      exact ⟨by simp [isN, h2], HF0.out⟩
  · have h3 : decide (s = -1) = false := by simpa using h1
    have h4 : (s == -1) = false := by simpa using h1
    go_enter Try.func50, Try.ntmps50
    go_wp2_with fail
    rw [← HW.out]
    go_wp2_with fail
    go_ret
    exact ⟨by simp [isN, h1], HF0.out⟩
set_option maxHeartbeats 1000000 in
theorem isW_any (o d s c : Int) (w : World) : Calls Try.prog 51 #[.agg #[.int .i64 o, .int .i64 d, .int .i64 s, .int .i64 c]] w fun e w' => e = .returned (.bool (isW s c)) ∧ Fr no w w' := by
  obtain ⟨W, hW, hF, c0_0, c1_0, c2_0, c3_0⟩ := box_sync w o d s c
  have HW := Lib.hid hW
  have HF0 := Lib.hid hF
  clear hW hF
  have HA := Lib.hid (fun w => isS_any s w)
  have HB := Lib.hid (fun w => twithin_any c 1 4096 w)
  cases h1 : isS s
  · rw [h1] at HA
    have HR := Lib.hid (show isW s c = false by simp [isW, h1])
    clear h1
    go_enter Try.func51, Try.ntmps51
    go_wp2_with fail
    rw [← HW.out]
    refine (HA.out _).mono ?_
    rintro e w_1 ⟨rfl, rfl⟩
    go_wp2_with fail
    go_ret
    rw [HR.out]
    exact ⟨rfl, HF0.out⟩
  · rw [h1] at HA
    have HR := Lib.hid (show isW s c = inR c 1 4096 by simp [isW, h1])
    generalize inR c 1 4096 = q at *
    clear h1
    go_enter Try.func51, Try.ntmps51
    go_wp2_with fail
    rw [← HW.out]
    refine (HA.out _).mono ?_
    rintro e w_1 ⟨rfl, rfl⟩
    go_wp2_with fail
    refine (HB.out _).mono ?_
    rintro e w_2 ⟨rfl, rfl⟩
    go_wp2_with fail
    go_ret
    rw [HR.out]
    exact ⟨rfl, HF0.out⟩

set_option maxHeartbeats 2000000 in
theorem ckS_any (o d s c : Int) (w : World) : Calls Try.prog 17 #[.agg #[.int .i64 o, .int .i64 d, .int .i64 s, .int .i64 c]] w fun e w' => e = .returned (.int .i64 (ckS o d s c)) ∧ Fr no w w' := by
  obtain ⟨W, hW, hF, c0_0, c1_0, c2_0, c3_0⟩ := box_sync w o d s c
  have HW := Lib.hid hW
  have HF0 := Lib.hid hF
  clear hW hF
  have HA := Lib.hid (fun w => check_any o d w)
  have HB := Lib.hid (fun w => isN_any o d s c w)
  have HC := Lib.hid (fun w => isW_any o d s c w)
  cases h1 : okC o d
  · rw [erC_1 h1] at HA
    have HR := Lib.hid (show ckS o d s c = 1 by simp [ckS, okS, h1])
    clear h1
    go_enter Try.func17, Try.ntmps17
    go_wp2_with fail
    rw [← HW.out]
    refine (HA.out _).mono ?_
    rintro e w1 ⟨rfl, f1⟩
    have HF1 := Lib.hid (HF0.out.noTrans f1)
    have c0_1 := f1.keepc c0_0
    have c1_1 := f1.keepc c1_0
    have c2_1 := f1.keepc c2_0
    have c3_1 := f1.keepc c3_0
    clear f1 HF0 c0_0 c1_0 c2_0 c3_0
    go_wp2_with fail
    go_ret
    rw [HR.out]
    exact ⟨rfl, HF1.out⟩
  · rw [erC_0 h1] at HA
    cases h2 : isN s c
    · rw [h2] at HB
      cases h3 : isW s c
      · rw [h3] at HC
        have HR := Lib.hid (show ckS o d s c = 1 by simp [ckS, okS, h1, h2, h3])
        clear h1 h2 h3
        go_enter Try.func17, Try.ntmps17
        go_wp2_with fail
        rw [← HW.out]
        refine (HA.out _).mono ?_
        rintro e w1 ⟨rfl, f1⟩
        have HF1 := Lib.hid (HF0.out.noTrans f1)
        have c0_1 := f1.keepc c0_0
        have c1_1 := f1.keepc c1_0
        have c2_1 := f1.keepc c2_0
        have c3_1 := f1.keepc c3_0
        clear f1 HF0 c0_0 c1_0 c2_0 c3_0
        go_wp2_with fail
        refine (HB.out _).mono ?_
        rintro e w2 ⟨rfl, f2⟩
        have HF2 := Lib.hid (HF1.out.noTrans f2)
        have c0_2 := f2.keepc c0_1
        have c1_2 := f2.keepc c1_1
        have c2_2 := f2.keepc c2_1
        have c3_2 := f2.keepc c3_1
        clear f2 HF1 c0_1 c1_1 c2_1 c3_1
        go_wp2_with fail
        refine (HC.out _).mono ?_
        rintro e w3 ⟨rfl, f3⟩
        have HF3 := Lib.hid (HF2.out.noTrans f3)
        have c0_3 := f3.keepc c0_2
        have c1_3 := f3.keepc c1_2
        have c2_3 := f3.keepc c2_2
        have c3_3 := f3.keepc c3_2
        clear f3 HF2 c0_2 c1_2 c2_2 c3_2
        go_wp2_with fail
        go_ret
        rw [HR.out]
        exact ⟨rfl, HF3.out⟩
      · rw [h3] at HC
        have HR := Lib.hid (show ckS o d s c = 0 by simp [ckS, okS, h1, h2, h3])
        clear h1 h2 h3
        go_enter Try.func17, Try.ntmps17
        go_wp2_with fail
        rw [← HW.out]
        refine (HA.out _).mono ?_
        rintro e w1 ⟨rfl, f1⟩
        have HF1 := Lib.hid (HF0.out.noTrans f1)
        have c0_1 := f1.keepc c0_0
        have c1_1 := f1.keepc c1_0
        have c2_1 := f1.keepc c2_0
        have c3_1 := f1.keepc c3_0
        clear f1 HF0 c0_0 c1_0 c2_0 c3_0
        go_wp2_with fail
        refine (HB.out _).mono ?_
        rintro e w2 ⟨rfl, f2⟩
        have HF2 := Lib.hid (HF1.out.noTrans f2)
        have c0_2 := f2.keepc c0_1
        have c1_2 := f2.keepc c1_1
        have c2_2 := f2.keepc c2_1
        have c3_2 := f2.keepc c3_1
        clear f2 HF1 c0_1 c1_1 c2_1 c3_1
        go_wp2_with fail
        refine (HC.out _).mono ?_
        rintro e w3 ⟨rfl, f3⟩
        have HF3 := Lib.hid (HF2.out.noTrans f3)
        have c0_3 := f3.keepc c0_2
        have c1_3 := f3.keepc c1_2
        have c2_3 := f3.keepc c2_2
        have c3_3 := f3.keepc c3_2
        clear f3 HF2 c0_2 c1_2 c2_2 c3_2
        go_wp2_with fail
        go_ret
        rw [HR.out]
        exact ⟨rfl, HF3.out⟩
    · rw [h2] at HB
      have HR := Lib.hid (show ckS o d s c = 0 by simp [ckS, okS, h1, h2])
      clear h1 h2
      go_enter Try.func17, Try.ntmps17
      go_wp2_with fail
      rw [← HW.out]
      refine (HA.out _).mono ?_
      rintro e w1 ⟨rfl, f1⟩
      have HF1 := Lib.hid (HF0.out.noTrans f1)
      have c0_1 := f1.keepc c0_0
      have c1_1 := f1.keepc c1_0
      have c2_1 := f1.keepc c2_0
      have c3_1 := f1.keepc c3_0
      clear f1 HF0 c0_0 c1_0 c2_0 c3_0
      go_wp2_with fail
      refine (HB.out _).mono ?_
      rintro e w2 ⟨rfl, f2⟩
      have HF2 := Lib.hid (HF1.out.noTrans f2)
      have c0_2 := f2.keepc c0_1
      have c1_2 := f2.keepc c1_1
      have c2_2 := f2.keepc c2_1
      have c3_2 := f2.keepc c3_1
      clear f2 HF1 c0_1 c1_1 c2_1 c3_1
      go_wp2_with fail
      go_ret
      rw [HR.out]
      exact ⟨rfl, HF2.out⟩

set_option maxHeartbeats 4000000 in
theorem ckSR_any (o d s c : Int) (w : World) : Calls Try.prog 18 #[.agg #[.int .i64 o, .int .i64 d, .int .i64 s, .int .i64 c]] w fun e w' => e = .returned (.int .i64 (ckS o d s c)) ∧ Fr no w w' := by
  obtain ⟨W, hW, hF, c0_0, c1_0, c2_0, c3_0⟩ := box_sync w o d s c
  have HW := Lib.hid hW
  have HF0 := Lib.hid hF
  clear hW hF
  have HA := Lib.hid (fun w => checkR_any o d w)
  have HB := Lib.hid (fun w => isSR_any s w)
  cases h1 : okC o d
  · rw [erC_1 h1] at HA
    have HR := Lib.hid (show ckS o d s c = 1 by simp [ckS, okS, h1])
    clear h1
    go_enter Try.func18, Try.ntmps18
    go_wp2_with fail
    rw [← HW.out]
    refine (HA.out _).mono ?_
    rintro e w1 ⟨rfl, f1⟩
    have HF1 := Lib.hid (HF0.out.noTrans f1)
    have c0_1 := f1.keepc c0_0
    have c1_1 := f1.keepc c1_0
    have c2_1 := f1.keepc c2_0
    have c3_1 := f1.keepc c3_0
    clear f1 HF0 c0_0 c1_0 c2_0 c3_0
    go_wp2_with fail
    go_ret
    rw [HR.out]
    exact ⟨rfl, HF1.out⟩
  · rw [erC_0 h1] at HA
    by_cases hs : s = -1
    · subst hs
      have hv : ckS o d (-1) c = if c = 0 then 0 else 1 := by simp [ckS, okS, isN, isW, isS, inR, h1]
      by_cases a1 : c < 0
      · have HR := Lib.hid (show ckS o d (-1) c = 1 by rw [hv]; simp; omega)
        clear hv h1
        go_enter Try.func18, Try.ntmps18
        go_wp2_with fail
        rw [← HW.out]
        refine (HA.out _).mono ?_
        rintro e w1 ⟨rfl, f1⟩
        have HF1 := Lib.hid (HF0.out.noTrans f1)
        have c0_1 := f1.keepc c0_0
        have c1_1 := f1.keepc c1_0
        have c2_1 := f1.keepc c2_0
        have c3_1 := f1.keepc c3_0
        clear f1 HF0 c0_0 c1_0 c2_0 c3_0
        go_wp2_with fail
        go_ret
        rw [HR.out]
        exact ⟨rfl, HF1.out⟩
      have a2 : 0 ≤ c := by omega
      clear a1
      by_cases a3 : 4096 < c
      · have HR := Lib.hid (show ckS o d (-1) c = 1 by rw [hv]; simp; omega)
        clear hv h1
        go_enter Try.func18, Try.ntmps18
        go_wp2_with fail
        rw [← HW.out]
        refine (HA.out _).mono ?_
        rintro e w1 ⟨rfl, f1⟩
        have HF1 := Lib.hid (HF0.out.noTrans f1)
        have c0_1 := f1.keepc c0_0
        have c1_1 := f1.keepc c1_0
        have c2_1 := f1.keepc c2_0
        have c3_1 := f1.keepc c3_0
        clear f1 HF0 c0_0 c1_0 c2_0 c3_0
        go_wp2_with fail
        go_ret
        rw [HR.out]
        exact ⟨rfl, HF1.out⟩
      have a4 : c ≤ 4096 := by omega
      clear a3
      by_cases a5 : c = 0
      · subst a5
        have HR := Lib.hid (show ckS o d (-1) 0 = 0 by rw [hv]; simp)
        clear hv h1
        go_enter Try.func18, Try.ntmps18
        go_wp2_with fail
        rw [← HW.out]
        refine (HA.out _).mono ?_
        rintro e w1 ⟨rfl, f1⟩
        have HF1 := Lib.hid (HF0.out.noTrans f1)
        have c0_1 := f1.keepc c0_0
        have c1_1 := f1.keepc c1_0
        have c2_1 := f1.keepc c2_0
        have c3_1 := f1.keepc c3_0
        clear f1 HF0 c0_0 c1_0 c2_0 c3_0
        go_wp2_with fail
        go_ret
        rw [HR.out]
        exact ⟨rfl, HF1.out⟩
      have a6 : decide (c = 0) = false := by simpa using a5
      have a7 : (c == 0) = false := by simpa using a5
      have HR := Lib.hid (show ckS o d (-1) c = 1 by rw [hv]; simp; omega)
      clear hv h1
      go_enter Try.func18, Try.ntmps18
      go_wp2_with fail
      rw [← HW.out]
      refine (HA.out _).mono ?_
      rintro e w1 ⟨rfl, f1⟩
      have HF1 := Lib.hid (HF0.out.noTrans f1)
      have c0_1 := f1.keepc c0_0
      have c1_1 := f1.keepc c1_0
      have c2_1 := f1.keepc c2_0
      have c3_1 := f1.keepc c3_0
      clear f1 HF0 c0_0 c1_0 c2_0 c3_0
      go_wp2_with fail
      go_ret
      rw [HR.out]
      exact ⟨rfl, HF1.out⟩
    · have g1 : decide (s = -1) = false := by simpa using hs
      have g2 : (s == -1) = false := by simpa using hs
      cases h2 : isS s
      · rw [h2] at HB
        have HR := Lib.hid (show ckS o d s c = 1 by simp [ckS, okS, isN, isW, h1, h2, hs])
        clear h1 h2
        go_enter Try.func18, Try.ntmps18
        go_wp2_with fail
        rw [← HW.out]
        refine (HA.out _).mono ?_
        rintro e w1 ⟨rfl, f1⟩
        have HF1 := Lib.hid (HF0.out.noTrans f1)
        have c0_1 := f1.keepc c0_0
        have c1_1 := f1.keepc c1_0
        have c2_1 := f1.keepc c2_0
        have c3_1 := f1.keepc c3_0
        clear f1 HF0 c0_0 c1_0 c2_0 c3_0
        go_wp2_with fail
        refine (HB.out _).mono ?_
        rintro e w_2 ⟨rfl, rfl⟩
        go_wp2_with fail
        go_ret
        rw [HR.out]
        exact ⟨rfl, HF1.out⟩
      · rw [h2] at HB
        have hv : ckS o d s c = if 1 ≤ c ∧ c ≤ 4096 then 0 else 1 := by simp [ckS, okS, isN, isW, inR, h1, h2, hs]
        clear h2
        by_cases a1 : c < 0
        · have HR := Lib.hid (show ckS o d s c = 1 by rw [hv]; simp; omega)
          clear hv h1
          go_enter Try.func18, Try.ntmps18
          go_wp2_with fail
          rw [← HW.out]
          refine (HA.out _).mono ?_
          rintro e w1 ⟨rfl, f1⟩
          have HF1 := Lib.hid (HF0.out.noTrans f1)
          have c0_1 := f1.keepc c0_0
          have c1_1 := f1.keepc c1_0
          have c2_1 := f1.keepc c2_0
          have c3_1 := f1.keepc c3_0
          clear f1 HF0 c0_0 c1_0 c2_0 c3_0
          go_wp2_with fail
          refine (HB.out _).mono ?_
          rintro e w_2 ⟨rfl, rfl⟩
          go_wp2_with fail
          go_ret
          rw [HR.out]
          exact ⟨rfl, HF1.out⟩
        have a2 : 0 ≤ c := by omega
        clear a1
        by_cases a3 : 4096 < c
        · have HR := Lib.hid (show ckS o d s c = 1 by rw [hv]; simp; omega)
          clear hv h1
          go_enter Try.func18, Try.ntmps18
          go_wp2_with fail
          rw [← HW.out]
          refine (HA.out _).mono ?_
          rintro e w1 ⟨rfl, f1⟩
          have HF1 := Lib.hid (HF0.out.noTrans f1)
          have c0_1 := f1.keepc c0_0
          have c1_1 := f1.keepc c1_0
          have c2_1 := f1.keepc c2_0
          have c3_1 := f1.keepc c3_0
          clear f1 HF0 c0_0 c1_0 c2_0 c3_0
          go_wp2_with fail
          refine (HB.out _).mono ?_
          rintro e w_2 ⟨rfl, rfl⟩
          go_wp2_with fail
          go_ret
          rw [HR.out]
          exact ⟨rfl, HF1.out⟩
        have a4 : c ≤ 4096 := by omega
        clear a3
        by_cases a5 : c = 0
        · subst a5
          have HR := Lib.hid (show ckS o d s 0 = 1 by rw [hv]; simp)
          clear hv h1
          go_enter Try.func18, Try.ntmps18
          go_wp2_with fail
          rw [← HW.out]
          refine (HA.out _).mono ?_
          rintro e w1 ⟨rfl, f1⟩
          have HF1 := Lib.hid (HF0.out.noTrans f1)
          have c0_1 := f1.keepc c0_0
          have c1_1 := f1.keepc c1_0
          have c2_1 := f1.keepc c2_0
          have c3_1 := f1.keepc c3_0
          clear f1 HF0 c0_0 c1_0 c2_0 c3_0
          go_wp2_with fail
          refine (HB.out _).mono ?_
          rintro e w_2 ⟨rfl, rfl⟩
          go_wp2_with fail
          go_ret
          rw [HR.out]
          exact ⟨rfl, HF1.out⟩
        have a6 : decide (c = 0) = false := by simpa using a5
        have a7 : (c == 0) = false := by simpa using a5
        have HR := Lib.hid (show ckS o d s c = 0 by rw [hv]; simp; omega)
        clear hv h1
        go_enter Try.func18, Try.ntmps18
        go_wp2_with fail
        rw [← HW.out]
        refine (HA.out _).mono ?_
        rintro e w1 ⟨rfl, f1⟩
        have HF1 := Lib.hid (HF0.out.noTrans f1)
        have c0_1 := f1.keepc c0_0
        have c1_1 := f1.keepc c1_0
        have c2_1 := f1.keepc c2_0
        have c3_1 := f1.keepc c3_0
        clear f1 HF0 c0_0 c1_0 c2_0 c3_0
        go_wp2_with fail
        refine (HB.out _).mono ?_
        rintro e w_2 ⟨rfl, rfl⟩
        go_wp2_with fail
        go_ret
        rw [HR.out]
        exact ⟨rfl, HF1.out⟩
end Go.Proofs.Ytmkmefcafpgphaa
