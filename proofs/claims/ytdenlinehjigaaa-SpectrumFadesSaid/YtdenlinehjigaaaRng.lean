/- Ranges, points, walls; Scale. -/
import Derived.Test.YtdenlinehjigaaaOvl
namespace Go.Proofs.Ytdenlinehjigaaa
open Go.RowKit

abbrev MX : Int := 68719476736
/-- from least to most -/
def inR (n a b : Int) : Bool := decide (a ≤ n) && decide (n ≤ b)
def isP (n : Int) : Bool := inR n 0 MX
def isR (t o : Int) : Bool := inR t 1000 100000 && inR o 1 MX
theorem inR_t {n a b : Int} : inR n a b = true ↔ a ≤ n ∧ n ≤ b := by simp [inR]
theorem isP_t {n : Int} : isP n = true ↔ 0 ≤ n ∧ n ≤ MX := inR_t
theorem isR_t {t o : Int} : isR t o = true ↔ (1000 ≤ t ∧ t ≤ 100000) ∧ 1 ≤ o ∧ o ≤ MX := by simp [isR, inR_t]
set_option maxHeartbeats 400000 in
theorem within_any (n a b : Int) (w : World) : Calls Try.prog 69 #[.int .i64 n, .int .i64 a, .int .i64 b] w fun e w' => e = .returned (.bool (inR n a b)) ∧ w' = w := by
  by_cases h1 : a ≤ n
  · have HR := Lib.hid (show inR n a b = decide (n ≤ b) by simp [inR, h1])
    go_enter Try.func69, Try.ntmps69
    go_wp2_with fail
    go_ret
    rw [HR.out]
    exact ⟨rfl, rfl⟩
  · have HR := Lib.hid (show inR n a b = false by simp [inR, h1])
    have h3 : n < a := by omega
    clear h1
    go_enter Try.func69, Try.ntmps69
    go_wp2_with fail
    go_ret
    rw [HR.out]
    exact ⟨rfl, rfl⟩
set_option maxHeartbeats 400000 in
theorem withinP_any (n a b : Int) (w : World) : Calls Try.prog 139 #[.int .i64 n, .int .i64 a, .int .i64 b] w fun e w' => e = .returned (.bool (inR n a b)) ∧ w' = w := by
  by_cases h1 : a ≤ n
  · have HR := Lib.hid (show inR n a b = decide (n ≤ b) by simp [inR, h1])
    go_enter Try.func139, Try.ntmps139
    go_wp2_with fail
    go_ret
    rw [HR.out]
    exact ⟨rfl, rfl⟩
  · have HR := Lib.hid (show inR n a b = false by simp [inR, h1])
    have h3 : n < a := by omega
    clear h1
    go_enter Try.func139, Try.ntmps139
    go_wp2_with fail
    go_ret
    rw [HR.out]
    exact ⟨rfl, rfl⟩
theorem isPower_any (n : Int) (w : World) : Calls Try.prog 73 #[.int .i64 n] w fun e w' => e = .returned (.bool (isP n)) ∧ w' = w := by
  go_enter Try.func73, Try.ntmps73
  go_wp2_with fail
  refine (within_any n 0 68719476736 _).mono ?_
  rintro e w' ⟨rfl, rfl⟩
  go_wp2_with fail
  go_ret
  exact ⟨rfl, rfl⟩
theorem isPowerP_any (n : Int) (w : World) : Calls Try.prog 126 #[.int .i64 n] w fun e w' => e = .returned (.bool (isP n)) ∧ w' = w := by
  go_enter Try.func126, Try.ntmps126
  go_wp2_with fail
  refine (withinP_any n 0 68719476736 _).mono ?_
  rintro e w' ⟨rfl, rfl⟩
  go_wp2_with fail
  go_ret
  exact ⟨rfl, rfl⟩
theorem isReceiver_any (t o : Int) (w : World) : Calls Try.prog 127 #[.int .i64 t, .int .i64 o] w fun e w' => e = .returned (.bool (isR t o)) ∧ w' = w := by
  cases h : inR t 1000 100000
  · have HR := Lib.hid (show isR t o = false by simp [isR, h])
    have HW := Lib.hid (withinP_any t 1000 100000 w)
    rw [h] at HW
    clear h
    go_enter Try.func127, Try.ntmps127
    go_wp2_with fail
    refine HW.out.mono ?_
    rintro e w' ⟨rfl, rfl⟩
    go_wp2_with fail
    go_ret
    rw [HR.out]
    exact ⟨rfl, rfl⟩
  · have HR := Lib.hid (show isR t o = inR o 1 MX by simp [isR, h])
    have HW := Lib.hid (withinP_any t 1000 100000 w)
    rw [h] at HW
    clear h
    go_enter Try.func127, Try.ntmps127
    go_wp2_with fail
    refine HW.out.mono ?_
    rintro e w' ⟨rfl, rfl⟩
    go_wp2_with fail
    refine (withinP_any o 1 68719476736 _).mono ?_
    rintro e w' ⟨rfl, rfl⟩
    go_wp2_with fail
    go_ret
    rw [HR.out]
    exact ⟨rfl, rfl⟩
set_option maxHeartbeats 400000 in
theorem isR_any (n : Int) (w : World) : Calls Try.prog 134 #[.int .i64 n] w fun e w' => e = .returned (.bool (isP n)) ∧ w' = w := by
  by_cases h1 : 0 ≤ n
  · have HR := Lib.hid (show isP n = decide (n ≤ 68719476736) by simp [isP, inR, h1, MX])
    go_enter Try.func134, Try.ntmps134
    go_wp2_with fail
    go_ret
    rw [HR.out]
    exact ⟨rfl, rfl⟩
  · have HR := Lib.hid (show isP n = false by simp [isP, inR, h1])
    have h3 : n < 0 := by omega
    clear h1
    go_enter Try.func134, Try.ntmps134
    go_wp2_with fail
    go_ret
    rw [HR.out]
    exact ⟨rfl, rfl⟩
set_option maxHeartbeats 1000000 in
theorem right_any (t o : Int) (w : World) : Calls Try.prog 145 #[.int .i64 t, .int .i64 o] w fun e w' => e = .returned (.bool (isR t o)) ∧ w' = w := by
  have hh : True := trivial
  by_cases h1 : t < 1000
  · have g1 : ¬ 1000 ≤ t := by omega
    have HR := Lib.hid (show isR t o = false by simp [isR, inR, MX]; omega)
    clear hh
    go_enter Try.func145, Try.ntmps145
    go_wp2_with fail
    go_ret
    rw [HR.out]
    exact ⟨rfl, rfl⟩
  have g1 : 1000 ≤ t := by omega
  by_cases h2 : 100000 < t
  · have g2 : ¬ t ≤ 100000 := by omega
    have HR := Lib.hid (show isR t o = false by simp [isR, inR, MX]; omega)
    clear hh
    go_enter Try.func145, Try.ntmps145
    go_wp2_with fail
    go_ret
    rw [HR.out]
    exact ⟨rfl, rfl⟩
  have g2 : t ≤ 100000 := by omega
  by_cases h3 : o < 1
  · have g3 : ¬ 1 ≤ o := by omega
    have HR := Lib.hid (show isR t o = false by simp [isR, inR, MX]; omega)
    clear hh
    go_enter Try.func145, Try.ntmps145
    go_wp2_with fail
    go_ret
    rw [HR.out]
    exact ⟨rfl, rfl⟩
  have g3 : 1 ≤ o := by omega
  by_cases h4 : 68719476736 < o
  · have g4 : ¬ o ≤ 68719476736 := by omega
    have HR := Lib.hid (show isR t o = false by simp [isR, inR, MX]; omega)
    clear hh
    go_enter Try.func145, Try.ntmps145
    go_wp2_with fail
    go_ret
    rw [HR.out]
    exact ⟨rfl, rfl⟩
  · have g4 : o ≤ 68719476736 := by omega
    have HR := Lib.hid (show isR t o = true by simp [isR, inR, MX]; omega)
    clear hh
    go_enter Try.func145, Try.ntmps145
    go_wp2_with fail
    go_ret
    rw [HR.out]
    exact ⟨rfl, rfl⟩

/-- What Scale returns. -/
def scV (p f : Int) : Int := if isP p = true ∧ inR f 0 1000 = true then p * f / 1000 else 0
def scE (p f : Int) : Int := if isP p = true ∧ inR f 0 1000 = true then 0 else 2
theorem mul_bound (a b A B : Int) (h0 : 0 ≤ a) (h1 : a ≤ A) (h2 : 0 ≤ b) (h3 : b ≤ B) : 0 ≤ a * b ∧ a * b ≤ A * B :=
  ⟨Int.mul_nonneg h0 h2, Int.mul_le_mul h1 h3 h2 (Int.le_trans h0 h1)⟩
set_option maxHeartbeats 1000000 in
theorem scale_any (p f : Int) (w : World) : Calls Try.prog 99 #[.int .i64 p, .int .i64 f] w fun e w' => e = .returned (.tuple #[.int .i64 (scV p f), .int .i64 (scE p f)]) ∧ w' = w := by
  have HP := isPowerP_any p w
  have HF := withinP_any f 0 1000 w
  cases h : isP p
  · rw [h] at HP
    have HP := Lib.hid HP
    have HV := Lib.hid (show scV p f = 0 by simp [scV, h])
    have HE := Lib.hid (show scE p f = 2 by simp [scE, h])
    clear h HF
    go_enter Try.func99, Try.ntmps99
    go_wp2_with fail
    refine HP.out.mono ?_
    rintro e w' ⟨rfl, rfl⟩
    go_wp2_with fail
    go_ret2
    rw [HV.out, HE.out]
    exact ⟨rfl, rfl⟩
  · rw [h] at HP
    have HP := Lib.hid HP
    cases h2 : inR f 0 1000
    · rw [h2] at HF
      have HF := Lib.hid HF
      have HV := Lib.hid (show scV p f = 0 by simp [scV, h2])
      have HE := Lib.hid (show scE p f = 2 by simp [scE, h2])
      clear h h2
      go_enter Try.func99, Try.ntmps99
      go_wp2_with fail
      refine HP.out.mono ?_
      rintro e w' ⟨rfl, rfl⟩
      go_wp2_with fail
      refine HF.out.mono ?_
      rintro e w' ⟨rfl, rfl⟩
      go_wp2_with fail
      go_ret2
      rw [HV.out, HE.out]
      exact ⟨rfl, rfl⟩
    · rw [h2] at HF
      have HF := Lib.hid HF
      have HV := Lib.hid (show scV p f = p * f / 1000 by simp [scV, h, h2])
      have HE := Lib.hid (show scE p f = 0 by simp [scE, h, h2])
      have hb := mul_bound p f MX 1000 (isP_t.1 h).1 (isP_t.1 h).2 (inR_t.1 h2).1 (inR_t.1 h2).2
      have hb2 : p * f ≤ 68719476736000 := hb.2
      have hw : IntKind.i64.wrap (p * f) = p * f := IntWalk.i64_in _ (by omega)
      have hb1 := hb.1
      have hq : Int.tdiv (p * f) 1000 = p * f / 1000 := Int.tdiv_eq_ediv_of_nonneg hb1
      clear h h2 hb
      go_enter Try.func99, Try.ntmps99
      go_wp2_with fail
      refine HP.out.mono ?_
      rintro e w' ⟨rfl, rfl⟩
      go_wp2_with fail
      refine HF.out.mono ?_
      rintro e w' ⟨rfl, rfl⟩
      go_wp2_with fail
      go_ret2
      rw [HV.out, HE.out]
      exact ⟨rfl, rfl⟩
/-- A point of a site. -/
def ptB (x y : Int) : Bool := inR x 0 10000 && inR y 0 10000
theorem ptB_t {x y : Int} : ptB x y = true ↔ (0 ≤ x ∧ x ≤ 10000) ∧ 0 ≤ y ∧ y ≤ 10000 := by simp [ptB, inR_t]
theorem isPoint_any (x y : Int) (w : World) : Calls Try.prog 71 #[.agg #[.int .i64 x, .int .i64 y]] w fun e w' => e = .returned (.bool (ptB x y)) ∧ Fr no w w' := by
  have HX := within_any x 0 10000
  have HY := Lib.hid (within_any y 0 10000)
  cases h : inR x 0 10000
  · rw [h] at HX
    have HX := Lib.hid HX
    have HR := Lib.hid (show ptB x y = false by simp [ptB, h])
    clear h
    go_enter Try.func71, Try.ntmps71
    go_wp2_with fail
    refine (HX.out _).mono ?_
    rintro e w' ⟨rfl, rfl⟩
    go_wp2_with fail
    go_ret
    rw [HR.out]
    exact ⟨rfl, (Fr.refl no w).alloc _⟩
  · rw [h] at HX
    have HX := Lib.hid HX
    have HR := Lib.hid (show ptB x y = inR y 0 10000 by simp [ptB, h])
    clear h
    go_enter Try.func71, Try.ntmps71
    go_wp2_with fail
    refine (HX.out _).mono ?_
    rintro e w' ⟨rfl, rfl⟩
    go_wp2_with fail
    refine (HY.out _).mono ?_
    rintro e w' ⟨rfl, rfl⟩
    go_wp2_with fail
    go_ret
    rw [HR.out]
    exact ⟨rfl, (Fr.refl no w).alloc _⟩
set_option maxHeartbeats 1000000 in
theorem point_any (x y : Int) (w : World) : Calls Try.prog 133 #[.agg #[.int .i64 x, .int .i64 y]] w fun e w' => e = .returned (.bool (ptB x y)) ∧ Fr no w w' := by
  go_enter Try.func133, Try.ntmps133
  go_wp2_with fail
  all_goals
    go_ret
    refine ⟨ret_bool ?_, (Fr.refl no w).alloc _⟩
    rw [Bool.eq_iff_iff]
    simp only [ptB_t, decide_eq_true_eq, Bool.false_eq_true, false_iff]
    omega
/-- A wall of a site. -/
def wlB (ax ay bx by_ f : Int) : Bool := ptB ax ay && (ptB bx by_ && inR f 0 1000)
theorem wlB_t {ax ay bx by_ f : Int} : wlB ax ay bx by_ f = true ↔ ptB ax ay = true ∧ ptB bx by_ = true ∧ 0 ≤ f ∧ f ≤ 1000 := by simp [wlB, inR_t]
set_option maxHeartbeats 1000000 in
theorem isWall_0 (ax ay bx by_ f : Int) (w : World) (g0 : ptB ax ay = false) : Calls Try.prog 75 #[.agg #[.int .i64 ax, .int .i64 ay, .int .i64 bx, .int .i64 by_, .int .i64 f]] w fun e w' => e = .returned (.bool (false)) ∧ Fr no w w' := by
  have K0 := Lib.hid (fun w => isPoint_any ax ay w)
  rw [g0] at K0
  clear g0
  have KS := Lib.hid (show ∀ w0 w' : World, Fr no w0 w' → w0.cell? ⟨w.heap.size, 0, none⟩ = some (.int .i64 ax) → w0.cell? ⟨w.heap.size, 1, none⟩ = some (.int .i64 ay) → w0.cell? ⟨w.heap.size, 2, none⟩ = some (.int .i64 bx) → w0.cell? ⟨w.heap.size, 3, none⟩ = some (.int .i64 by_) → w0.cell? ⟨w.heap.size, 4, none⟩ = some (.int .i64 f) → (w'.cell? ⟨w.heap.size, 0, none⟩ = some (.int .i64 ax) ∧ w'.cell? ⟨w.heap.size, 1, none⟩ = some (.int .i64 ay) ∧ w'.cell? ⟨w.heap.size, 2, none⟩ = some (.int .i64 bx) ∧ w'.cell? ⟨w.heap.size, 3, none⟩ = some (.int .i64 by_) ∧ w'.cell? ⟨w.heap.size, 4, none⟩ = some (.int .i64 f)) from fun _ _ h a0 a1 a2 a3 a4 => ⟨h.keepc a0, h.keepc a1, h.keepc a2, h.keepc a3, h.keepc a4⟩)
  obtain ⟨W, hW⟩ : ∃ W, W = (w.alloc (.cells #[.int .i64 ax, .int .i64 ay, .int .i64 bx, .int .i64 by_, .int .i64 f] 101 (0, 0))) := ⟨_, rfl⟩
  have HF := Lib.hid (show Fr no w W by rw [hW]; exact (Fr.refl no w).alloc _)
  have c0 : W.cell? ⟨w.heap.size, 0, none⟩ = some (.int .i64 ax) := by rw [hW]; go_simp
  have c1 : W.cell? ⟨w.heap.size, 1, none⟩ = some (.int .i64 ay) := by rw [hW]; go_simp
  have c2 : W.cell? ⟨w.heap.size, 2, none⟩ = some (.int .i64 bx) := by rw [hW]; go_simp
  have c3 : W.cell? ⟨w.heap.size, 3, none⟩ = some (.int .i64 by_) := by rw [hW]; go_simp
  have c4 : W.cell? ⟨w.heap.size, 4, none⟩ = some (.int .i64 f) := by rw [hW]; go_simp
  have HW := Lib.hid hW
  clear hW
  go_enter Try.func75, Try.ntmps75
  go_wp2_with fail
  rw [← HW.out]
  refine (K0.out _).mono ?_
  rintro e w3 ⟨rfl, f3⟩
  obtain ⟨d0, d1, d2, d3, d4⟩ := KS.out _ _ f3 c0 c1 c2 c3 c4
  have HF3 := Lib.hid (HF.out.noTrans f3)
  clear f3
  go_wp2_with fail
  go_ret
  exact ⟨rfl, HF3.out⟩
set_option maxHeartbeats 1000000 in
theorem isWall_1 (ax ay bx by_ f : Int) (w : World) (g0 : ptB ax ay = true) (g1 : ptB bx by_ = false) : Calls Try.prog 75 #[.agg #[.int .i64 ax, .int .i64 ay, .int .i64 bx, .int .i64 by_, .int .i64 f]] w fun e w' => e = .returned (.bool (false)) ∧ Fr no w w' := by
  have K0 := Lib.hid (fun w => isPoint_any ax ay w)
  rw [g0] at K0
  have K1 := Lib.hid (fun w => isPoint_any bx by_ w)
  rw [g1] at K1
  clear g0 g1
  have KS := Lib.hid (show ∀ w0 w' : World, Fr no w0 w' → w0.cell? ⟨w.heap.size, 0, none⟩ = some (.int .i64 ax) → w0.cell? ⟨w.heap.size, 1, none⟩ = some (.int .i64 ay) → w0.cell? ⟨w.heap.size, 2, none⟩ = some (.int .i64 bx) → w0.cell? ⟨w.heap.size, 3, none⟩ = some (.int .i64 by_) → w0.cell? ⟨w.heap.size, 4, none⟩ = some (.int .i64 f) → (w'.cell? ⟨w.heap.size, 0, none⟩ = some (.int .i64 ax) ∧ w'.cell? ⟨w.heap.size, 1, none⟩ = some (.int .i64 ay) ∧ w'.cell? ⟨w.heap.size, 2, none⟩ = some (.int .i64 bx) ∧ w'.cell? ⟨w.heap.size, 3, none⟩ = some (.int .i64 by_) ∧ w'.cell? ⟨w.heap.size, 4, none⟩ = some (.int .i64 f)) from fun _ _ h a0 a1 a2 a3 a4 => ⟨h.keepc a0, h.keepc a1, h.keepc a2, h.keepc a3, h.keepc a4⟩)
  obtain ⟨W, hW⟩ : ∃ W, W = (w.alloc (.cells #[.int .i64 ax, .int .i64 ay, .int .i64 bx, .int .i64 by_, .int .i64 f] 101 (0, 0))) := ⟨_, rfl⟩
  have HF := Lib.hid (show Fr no w W by rw [hW]; exact (Fr.refl no w).alloc _)
  have c0 : W.cell? ⟨w.heap.size, 0, none⟩ = some (.int .i64 ax) := by rw [hW]; go_simp
  have c1 : W.cell? ⟨w.heap.size, 1, none⟩ = some (.int .i64 ay) := by rw [hW]; go_simp
  have c2 : W.cell? ⟨w.heap.size, 2, none⟩ = some (.int .i64 bx) := by rw [hW]; go_simp
  have c3 : W.cell? ⟨w.heap.size, 3, none⟩ = some (.int .i64 by_) := by rw [hW]; go_simp
  have c4 : W.cell? ⟨w.heap.size, 4, none⟩ = some (.int .i64 f) := by rw [hW]; go_simp
  have HW := Lib.hid hW
  clear hW
  go_enter Try.func75, Try.ntmps75
  go_wp2_with fail
  rw [← HW.out]
  refine (K0.out _).mono ?_
  rintro e w3 ⟨rfl, f3⟩
  obtain ⟨d0, d1, d2, d3, d4⟩ := KS.out _ _ f3 c0 c1 c2 c3 c4
  have HF3 := Lib.hid (HF.out.noTrans f3)
  clear f3
  go_wp2_with fail
  refine (K1.out _).mono ?_
  rintro e w4 ⟨rfl, f4⟩
  obtain ⟨e0, e1, e2, e3, e4⟩ := KS.out _ _ f4 d0 d1 d2 d3 d4
  have HF4 := Lib.hid (HF3.out.noTrans f4)
  clear f4
  go_wp2_with fail
  go_ret
  exact ⟨rfl, HF4.out⟩
set_option maxHeartbeats 1000000 in
theorem isWall_2 (ax ay bx by_ f : Int) (w : World) (g0 : ptB ax ay = true) (g1 : ptB bx by_ = true) : Calls Try.prog 75 #[.agg #[.int .i64 ax, .int .i64 ay, .int .i64 bx, .int .i64 by_, .int .i64 f]] w fun e w' => e = .returned (.bool (inR f 0 1000)) ∧ Fr no w w' := by
  have K0 := Lib.hid (fun w => isPoint_any ax ay w)
  rw [g0] at K0
  have K1 := Lib.hid (fun w => isPoint_any bx by_ w)
  rw [g1] at K1
  clear g0 g1
  have KS := Lib.hid (show ∀ w0 w' : World, Fr no w0 w' → w0.cell? ⟨w.heap.size, 0, none⟩ = some (.int .i64 ax) → w0.cell? ⟨w.heap.size, 1, none⟩ = some (.int .i64 ay) → w0.cell? ⟨w.heap.size, 2, none⟩ = some (.int .i64 bx) → w0.cell? ⟨w.heap.size, 3, none⟩ = some (.int .i64 by_) → w0.cell? ⟨w.heap.size, 4, none⟩ = some (.int .i64 f) → (w'.cell? ⟨w.heap.size, 0, none⟩ = some (.int .i64 ax) ∧ w'.cell? ⟨w.heap.size, 1, none⟩ = some (.int .i64 ay) ∧ w'.cell? ⟨w.heap.size, 2, none⟩ = some (.int .i64 bx) ∧ w'.cell? ⟨w.heap.size, 3, none⟩ = some (.int .i64 by_) ∧ w'.cell? ⟨w.heap.size, 4, none⟩ = some (.int .i64 f)) from fun _ _ h a0 a1 a2 a3 a4 => ⟨h.keepc a0, h.keepc a1, h.keepc a2, h.keepc a3, h.keepc a4⟩)
  obtain ⟨W, hW⟩ : ∃ W, W = (w.alloc (.cells #[.int .i64 ax, .int .i64 ay, .int .i64 bx, .int .i64 by_, .int .i64 f] 101 (0, 0))) := ⟨_, rfl⟩
  have HF := Lib.hid (show Fr no w W by rw [hW]; exact (Fr.refl no w).alloc _)
  have c0 : W.cell? ⟨w.heap.size, 0, none⟩ = some (.int .i64 ax) := by rw [hW]; go_simp
  have c1 : W.cell? ⟨w.heap.size, 1, none⟩ = some (.int .i64 ay) := by rw [hW]; go_simp
  have c2 : W.cell? ⟨w.heap.size, 2, none⟩ = some (.int .i64 bx) := by rw [hW]; go_simp
  have c3 : W.cell? ⟨w.heap.size, 3, none⟩ = some (.int .i64 by_) := by rw [hW]; go_simp
  have c4 : W.cell? ⟨w.heap.size, 4, none⟩ = some (.int .i64 f) := by rw [hW]; go_simp
  have HW := Lib.hid hW
  clear hW
  go_enter Try.func75, Try.ntmps75
  go_wp2_with fail
  rw [← HW.out]
  refine (K0.out _).mono ?_
  rintro e w3 ⟨rfl, f3⟩
  obtain ⟨d0, d1, d2, d3, d4⟩ := KS.out _ _ f3 c0 c1 c2 c3 c4
  have HF3 := Lib.hid (HF.out.noTrans f3)
  clear f3
  go_wp2_with fail
  refine (K1.out _).mono ?_
  rintro e w4 ⟨rfl, f4⟩
  obtain ⟨e0, e1, e2, e3, e4⟩ := KS.out _ _ f4 d0 d1 d2 d3 d4
  have HF4 := Lib.hid (HF3.out.noTrans f4)
  clear f4
  go_wp2_with fail
  refine (within_any f 0 1000 _).mono ?_
  rintro e w' ⟨rfl, rfl⟩
  go_wp2_with fail
  go_ret
  exact ⟨rfl, HF4.out⟩
theorem isWall_any (ax ay bx by_ f : Int) (w : World) : Calls Try.prog 75 #[.agg #[.int .i64 ax, .int .i64 ay, .int .i64 bx, .int .i64 by_, .int .i64 f]] w fun e w' => e = .returned (.bool (wlB ax ay bx by_ f)) ∧ Fr no w w' := by
  cases g0 : ptB ax ay
  · rw [show wlB ax ay bx by_ f = false by simp [wlB, g0]]; exact isWall_0 ax ay bx by_ f w g0
  cases g1 : ptB bx by_
  · rw [show wlB ax ay bx by_ f = false by simp [wlB, g0, g1]]; exact isWall_1 ax ay bx by_ f w g0 g1
  · rw [show wlB ax ay bx by_ f = inR f 0 1000 by simp [wlB, g0, g1]]; exact isWall_2 ax ay bx by_ f w g0 g1
end Go.Proofs.Ytdenlinehjigaaa
