/- The laws of levels and of scales. -/
import Derived.Test.YtkbdjpdpcbeciaaDoorAwake
namespace Go.Proofs.YtkbdjpdpcbeciaaDoor
open Go.RowKit

theorem Fr.belowNone {B : Nat} {w w' : World} (h : Fr no w w') (hB : B ≤ w.heap.size) : Below B w w' := h.below (fun _ h => h.elim) hB
set_option maxHeartbeats 4000000 in
theorem levels_law (n p f : Int) (w : World) (hd : Dec w) : Calls Tryd.prog 3 #[.int .i64 n, .int .i64 p, .int .i64 f] w fun e w' => e = .returned (.bool true) ∧ Below w.heap.size w w' := by
  have HD := Lib.hid hd
  clear hd
  go_enter Tryd.func3, Tryd.ntmps3
  go_wp2_with fail
  refine (awake_any _ HD.out).mono ?_
  rintro e w1 ⟨rfl, f1⟩
  have HF1 := Lib.hid f1
  have HD1 := Lib.hid (HD.out.kept f1 (fun h => h))
  clear f1
  go_wp2_with fail
  refine (levelP_any n _ HD1.out).mono ?_
  rintro e w' ⟨rfl, rfl⟩
  go_wp2_with fail
  refine (levelR_any n _).mono ?_
  rintro e w2 ⟨rfl, f2⟩
  have HF2 := Lib.hid (HF1.out.noTrans f2)
  have HD2 := Lib.hid (HD1.out.kept f2 (fun h => h))
  clear f2
  go_wp2_with fail
  refine (decibels_any p _ HD2.out).mono ?_
  rintro e w3 ⟨rfl, f3⟩
  have HF3 := Lib.hid (HF2.out.noTrans f3)
  clear f3
  go_wp2_with fail
  refine (decibelsR_any p _).mono ?_
  rintro e w4 ⟨rfl, f4⟩
  have HF4 := Lib.hid (HF3.out.noTrans f4)
  clear f4
  go_wp2_with fail
  refine (scale_any p f _).mono ?_
  rintro e w' ⟨rfl, rfl⟩
  go_wp2_with fail
  refine (scaleR_any p f _).mono ?_
  rintro e w' ⟨rfl, rfl⟩
  go_wp2_with fail
  go_ret
  exact ⟨rfl, HF4.out.belowNone (Nat.le_refl _)⟩
set_option maxHeartbeats 4000000 in
theorem scales_bb (a b f x y : Int) (w : World) (hd : Dec w) (H1 : ∀ w : World, Calls Tryd.prog 16 #[.int .i64 a, .int .i64 f] w fun e w' => e = .returned (.tuple #[.int .i64 0, .int .i64 2]) ∧ w' = w) (H2 : ∀ w : World, Calls Tryd.prog 16 #[.int .i64 b, .int .i64 f] w fun e w' => e = .returned (.tuple #[.int .i64 0, .int .i64 2]) ∧ w' = w) :
    Calls Tryd.prog 10 #[.int .i64 a, .int .i64 b, .int .i64 f] w fun e w' => e = .returned (.bool true) ∧ Below w.heap.size w w' := by
  have HD := Lib.hid hd
  have K1 := Lib.hid H1
  have K2 := Lib.hid H2
  clear hd H1 H2
  go_enter Tryd.func10, Tryd.ntmps10
  go_wp2_with fail
  refine (awake_any _ HD.out).mono ?_
  rintro e w1 ⟨rfl, f1⟩
  have HF1 := Lib.hid f1
  have HD1 := Lib.hid (HD.out.kept f1 (fun h => h))
  clear f1
  go_wp2_with fail
  refine (K1.out _).mono ?_
  rintro e w' ⟨rfl, rfl⟩
  go_wp2_with fail
  refine (K2.out _).mono ?_
  rintro e w' ⟨rfl, rfl⟩
  go_wp2_with fail
  go_ret
  exact ⟨rfl, HF1.out.belowNone (Nat.le_refl _)⟩
set_option maxHeartbeats 4000000 in
theorem scales_bg (a b f x y : Int) (w : World) (hd : Dec w) (H1 : ∀ w : World, Calls Tryd.prog 16 #[.int .i64 a, .int .i64 f] w fun e w' => e = .returned (.tuple #[.int .i64 0, .int .i64 2]) ∧ w' = w) (H2 : ∀ w : World, Calls Tryd.prog 16 #[.int .i64 b, .int .i64 f] w fun e w' => e = .returned (.tuple #[.int .i64 y, .int .i64 0]) ∧ w' = w) :
    Calls Tryd.prog 10 #[.int .i64 a, .int .i64 b, .int .i64 f] w fun e w' => e = .returned (.bool true) ∧ Below w.heap.size w w' := by
  have HD := Lib.hid hd
  have K1 := Lib.hid H1
  have K2 := Lib.hid H2
  clear hd H1 H2
  go_enter Tryd.func10, Tryd.ntmps10
  go_wp2_with fail
  refine (awake_any _ HD.out).mono ?_
  rintro e w1 ⟨rfl, f1⟩
  have HF1 := Lib.hid f1
  have HD1 := Lib.hid (HD.out.kept f1 (fun h => h))
  clear f1
  go_wp2_with fail
  refine (K1.out _).mono ?_
  rintro e w' ⟨rfl, rfl⟩
  go_wp2_with fail
  refine (K2.out _).mono ?_
  rintro e w' ⟨rfl, rfl⟩
  go_wp2_with fail
  go_ret
  exact ⟨rfl, HF1.out.belowNone (Nat.le_refl _)⟩
set_option maxHeartbeats 4000000 in
theorem scales_gb (a b f x y : Int) (w : World) (hd : Dec w) (H1 : ∀ w : World, Calls Tryd.prog 16 #[.int .i64 a, .int .i64 f] w fun e w' => e = .returned (.tuple #[.int .i64 x, .int .i64 0]) ∧ w' = w) (H2 : ∀ w : World, Calls Tryd.prog 16 #[.int .i64 b, .int .i64 f] w fun e w' => e = .returned (.tuple #[.int .i64 0, .int .i64 2]) ∧ w' = w) :
    Calls Tryd.prog 10 #[.int .i64 a, .int .i64 b, .int .i64 f] w fun e w' => e = .returned (.bool true) ∧ Below w.heap.size w w' := by
  have HD := Lib.hid hd
  have K1 := Lib.hid H1
  have K2 := Lib.hid H2
  clear hd H1 H2
  go_enter Tryd.func10, Tryd.ntmps10
  go_wp2_with fail
  refine (awake_any _ HD.out).mono ?_
  rintro e w1 ⟨rfl, f1⟩
  have HF1 := Lib.hid f1
  have HD1 := Lib.hid (HD.out.kept f1 (fun h => h))
  clear f1
  go_wp2_with fail
  refine (K1.out _).mono ?_
  rintro e w' ⟨rfl, rfl⟩
  go_wp2_with fail
  refine (K2.out _).mono ?_
  rintro e w' ⟨rfl, rfl⟩
  go_wp2_with fail
  go_ret
  exact ⟨rfl, HF1.out.belowNone (Nat.le_refl _)⟩
set_option maxHeartbeats 4000000 in
theorem scales_gt (a b f x y : Int) (w : World) (hd : Dec w) (H1 : ∀ w : World, Calls Tryd.prog 16 #[.int .i64 a, .int .i64 f] w fun e w' => e = .returned (.tuple #[.int .i64 x, .int .i64 0]) ∧ w' = w) (H2 : ∀ w : World, Calls Tryd.prog 16 #[.int .i64 b, .int .i64 f] w fun e w' => e = .returned (.tuple #[.int .i64 y, .int .i64 0]) ∧ w' = w) (H3 : ∀ w : World, Calls Tryd.prog 16 #[.int .i64 a, .int .i64 1000] w fun e w' => e = .returned (.tuple #[.int .i64 a, .int .i64 0]) ∧ w' = w) (H4 : ∀ w : World, Calls Tryd.prog 16 #[.int .i64 a, .int .i64 0] w fun e w' => e = .returned (.tuple #[.int .i64 0, .int .i64 0]) ∧ w' = w) (hx0 : 0 ≤ x) (hxa : x ≤ a) (hab : b < a) :
    Calls Tryd.prog 10 #[.int .i64 a, .int .i64 b, .int .i64 f] w fun e w' => e = .returned (.bool true) ∧ Below w.heap.size w w' := by
  have HD := Lib.hid hd
  have K1 := Lib.hid H1
  have K2 := Lib.hid H2
  have K3 := Lib.hid H3
  have K4 := Lib.hid H4
  clear hd H1 H2 H3 H4
  go_enter Tryd.func10, Tryd.ntmps10
  go_wp2_with fail
  refine (awake_any _ HD.out).mono ?_
  rintro e w1 ⟨rfl, f1⟩
  have HF1 := Lib.hid f1
  have HD1 := Lib.hid (HD.out.kept f1 (fun h => h))
  clear f1
  go_wp2_with fail
  refine (K1.out _).mono ?_
  rintro e w' ⟨rfl, rfl⟩
  go_wp2_with fail
  refine (K2.out _).mono ?_
  rintro e w' ⟨rfl, rfl⟩
  go_wp2_with fail
  refine (K3.out _).mono ?_
  rintro e w' ⟨rfl, rfl⟩
  go_wp2_with fail
  refine (K4.out _).mono ?_
  rintro e w' ⟨rfl, rfl⟩
  go_wp2_with fail
  go_ret
  exact ⟨rfl, HF1.out.belowNone (Nat.le_refl _)⟩
set_option maxHeartbeats 4000000 in
theorem scales_le (a b f x y : Int) (w : World) (hd : Dec w) (H1 : ∀ w : World, Calls Tryd.prog 16 #[.int .i64 a, .int .i64 f] w fun e w' => e = .returned (.tuple #[.int .i64 x, .int .i64 0]) ∧ w' = w) (H2 : ∀ w : World, Calls Tryd.prog 16 #[.int .i64 b, .int .i64 f] w fun e w' => e = .returned (.tuple #[.int .i64 y, .int .i64 0]) ∧ w' = w) (H3 : ∀ w : World, Calls Tryd.prog 16 #[.int .i64 a, .int .i64 1000] w fun e w' => e = .returned (.tuple #[.int .i64 a, .int .i64 0]) ∧ w' = w) (H4 : ∀ w : World, Calls Tryd.prog 16 #[.int .i64 a, .int .i64 0] w fun e w' => e = .returned (.tuple #[.int .i64 0, .int .i64 0]) ∧ w' = w) (hx0 : 0 ≤ x) (hxa : x ≤ a) (hab : ¬ b < a) (hxy : x ≤ y) :
    Calls Tryd.prog 10 #[.int .i64 a, .int .i64 b, .int .i64 f] w fun e w' => e = .returned (.bool true) ∧ Below w.heap.size w w' := by
  have HD := Lib.hid hd
  have K1 := Lib.hid H1
  have K2 := Lib.hid H2
  have K3 := Lib.hid H3
  have K4 := Lib.hid H4
  clear hd H1 H2 H3 H4
  go_enter Tryd.func10, Tryd.ntmps10
  go_wp2_with fail
  refine (awake_any _ HD.out).mono ?_
  rintro e w1 ⟨rfl, f1⟩
  have HF1 := Lib.hid f1
  have HD1 := Lib.hid (HD.out.kept f1 (fun h => h))
  clear f1
  go_wp2_with fail
  refine (K1.out _).mono ?_
  rintro e w' ⟨rfl, rfl⟩
  go_wp2_with fail
  refine (K2.out _).mono ?_
  rintro e w' ⟨rfl, rfl⟩
  go_wp2_with fail
  refine (K3.out _).mono ?_
  rintro e w' ⟨rfl, rfl⟩
  go_wp2_with fail
  refine (K4.out _).mono ?_
  rintro e w' ⟨rfl, rfl⟩
  go_wp2_with fail
  go_ret
  exact ⟨rfl, HF1.out.belowNone (Nat.le_refl _)⟩
theorem scV_good (p f : Int) (h : isP p = true) (g : inR f 0 1000 = true) : scV p f = p * f / 1000 ∧ scE p f = 0 := by simp [scV, scE, h, g]
theorem sc_bad (p f : Int) (h : ¬ (isP p = true ∧ inR f 0 1000 = true)) : scV p f = 0 ∧ scE p f = 2 := by rw [scV, scE, if_neg h, if_neg h]; exact ⟨rfl, rfl⟩
theorem scales_law (a b f : Int) (w : World) (hd : Dec w) : Calls Tryd.prog 10 #[.int .i64 a, .int .i64 b, .int .i64 f] w fun e w' => e = .returned (.bool true) ∧ Below w.heap.size w w' := by
  have H1 := scale_any a f
  have H2 := scale_any b f
  by_cases ha : isP a = true ∧ inR f 0 1000 = true
  · by_cases hb : isP b = true ∧ inR f 0 1000 = true
    · obtain ⟨a0, a1⟩ := isP_t.1 ha.1
      obtain ⟨b0, b1⟩ := isP_t.1 hb.1
      obtain ⟨f0, f1⟩ := inR_t.1 ha.2
      rw [(scV_good a f ha.1 ha.2).1, (scV_good a f ha.1 ha.2).2] at H1
      rw [(scV_good b f hb.1 hb.2).1, (scV_good b f hb.1 hb.2).2] at H2
      have H3 := scale_any a 1000
      have H4 := scale_any a 0
      rw [(scV_good a 1000 ha.1 (by decide)).1, (scV_good a 1000 ha.1 (by decide)).2, show a * 1000 / 1000 = a by omega] at H3
      rw [(scV_good a 0 ha.1 (by decide)).1, (scV_good a 0 ha.1 (by decide)).2, show a * 0 / 1000 = 0 by omega] at H4
      have hm := mul_bound a f a 1000 a0 (Int.le_refl _) f0 f1
      have hx0 : 0 ≤ a * f / 1000 := by omega
      have hxa : a * f / 1000 ≤ a := by omega
      by_cases hab : b < a
      · exact scales_gt a b f _ _ w hd H1 H2 H3 H4 hx0 hxa hab
      · have := Int.mul_le_mul_of_nonneg_right (show a ≤ b by omega) f0
        exact scales_le a b f _ _ w hd H1 H2 H3 H4 hx0 hxa hab (by omega)
    · rw [(sc_bad b f hb).1, (sc_bad b f hb).2] at H2
      rw [(scV_good a f ha.1 ha.2).2] at H1
      exact scales_gb a b f _ 0 w hd H1 H2
  · rw [(sc_bad a f ha).1, (sc_bad a f ha).2] at H1
    by_cases hb : isP b = true ∧ inR f 0 1000 = true
    · rw [(scV_good b f hb.1 hb.2).2] at H2
      exact scales_bg a b f 0 _ w hd H1 H2
    · rw [(sc_bad b f hb).1, (sc_bad b f hb).2] at H2
      exact scales_bb a b f 0 0 w hd H1 H2
end Go.Proofs.YtkbdjpdpcbeciaaDoor
