/- The law of order. -/
import Derived.Test.YtkbdjpdpcbeciaaDoorLawA
namespace Go.Proofs.YtkbdjpdpcbeciaaDoor
open Go.RowKit

set_option maxHeartbeats 4000000 in
theorem order_A1_U1 (n : Int) (u : Int) (w : World) (hd : Dec w) (hn0 : 0 ≤ n) (hn6 : n < 6) (a b : Int) (hab : a ≤ b) (hu : u < 1)
    (H1 : ∀ w : World, Dec w → Calls Tryd.prog 12 #[.int .i64 n] w fun e w' => e = .returned (.tuple #[.int .i64 a, .int .i64 0]) ∧ w' = w)
    (H2 : ∀ w : World, Dec w → Calls Tryd.prog 12 #[.int .i64 (n + 1)] w fun e w' => e = .returned (.tuple #[.int .i64 b, .int .i64 0]) ∧ w' = w)
    (H3 : ∀ w : World, Dec w → Calls Tryd.prog 14 #[.int .i64 u] w fun e w' => e = .returned (.tuple #[.int .i64 0, .int .i64 2]) ∧ Fr no w w') :
    Calls Tryd.prog 6 #[.int .i64 n, .int .i64 u] w fun e w' => e = .returned (.bool true) ∧ Below w.heap.size w w' := by
  have HD := Lib.hid hd
  have K1 := Lib.hid H1
  have K2 := Lib.hid H2
  have K3 := Lib.hid H3
  clear hd H1 H2 H3
  go_enter Tryd.func6, Tryd.ntmps6
  go_wp2_with fail
  refine (awake_any _ HD.out).mono ?_
  rintro e w1 ⟨rfl, f1⟩
  have HF1 := Lib.hid f1
  have HD1 := Lib.hid (HD.out.kept f1 (fun h => h))
  clear f1
  go_wp2_with fail
  refine (K1.out _ HD1.out).mono ?_
  rintro e w' ⟨rfl, rfl⟩
  go_wp2_with fail
  refine (K2.out _ HD1.out).mono ?_
  rintro e w' ⟨rfl, rfl⟩
  go_wp2_with fail
  refine (K3.out _ HD1.out).mono ?_
  rintro e w2 ⟨rfl, f2⟩
  have HF2 := Lib.hid (HF1.out.noTrans f2)
  have HD2 := Lib.hid (HD1.out.kept f2 (fun h => h))
  clear f2
  go_wp2_with fail
  go_ret
  exact ⟨rfl, HF2.out.belowNone (Nat.le_refl _)⟩
set_option maxHeartbeats 4000000 in
theorem order_A1_U2 (n : Int) (u : Int) (w : World) (hd : Dec w) (hn0 : 0 ≤ n) (hn6 : n < 6) (a b : Int) (hab : a ≤ b) (hu : 68719476736 < u)
    (H1 : ∀ w : World, Dec w → Calls Tryd.prog 12 #[.int .i64 n] w fun e w' => e = .returned (.tuple #[.int .i64 a, .int .i64 0]) ∧ w' = w)
    (H2 : ∀ w : World, Dec w → Calls Tryd.prog 12 #[.int .i64 (n + 1)] w fun e w' => e = .returned (.tuple #[.int .i64 b, .int .i64 0]) ∧ w' = w)
    (H3 : ∀ w : World, Dec w → Calls Tryd.prog 14 #[.int .i64 u] w fun e w' => e = .returned (.tuple #[.int .i64 0, .int .i64 2]) ∧ Fr no w w') :
    Calls Tryd.prog 6 #[.int .i64 n, .int .i64 u] w fun e w' => e = .returned (.bool true) ∧ Below w.heap.size w w' := by
  have HD := Lib.hid hd
  have K1 := Lib.hid H1
  have K2 := Lib.hid H2
  have K3 := Lib.hid H3
  clear hd H1 H2 H3
  go_enter Tryd.func6, Tryd.ntmps6
  go_wp2_with fail
  refine (awake_any _ HD.out).mono ?_
  rintro e w1 ⟨rfl, f1⟩
  have HF1 := Lib.hid f1
  have HD1 := Lib.hid (HD.out.kept f1 (fun h => h))
  clear f1
  go_wp2_with fail
  refine (K1.out _ HD1.out).mono ?_
  rintro e w' ⟨rfl, rfl⟩
  go_wp2_with fail
  refine (K2.out _ HD1.out).mono ?_
  rintro e w' ⟨rfl, rfl⟩
  go_wp2_with fail
  refine (K3.out _ HD1.out).mono ?_
  rintro e w2 ⟨rfl, f2⟩
  have HF2 := Lib.hid (HF1.out.noTrans f2)
  have HD2 := Lib.hid (HD1.out.kept f2 (fun h => h))
  clear f2
  go_wp2_with fail
  go_ret
  exact ⟨rfl, HF2.out.belowNone (Nat.le_refl _)⟩
set_option maxHeartbeats 4000000 in
theorem order_A1_U3 (n : Int) (u : Int) (w : World) (hd : Dec w) (hn0 : 0 ≤ n) (hn6 : n < 6) (a b : Int) (hab : a ≤ b) (l : Int) (hl : l ≤ u)
    (H1 : ∀ w : World, Dec w → Calls Tryd.prog 12 #[.int .i64 n] w fun e w' => e = .returned (.tuple #[.int .i64 a, .int .i64 0]) ∧ w' = w)
    (H2 : ∀ w : World, Dec w → Calls Tryd.prog 12 #[.int .i64 (n + 1)] w fun e w' => e = .returned (.tuple #[.int .i64 b, .int .i64 0]) ∧ w' = w)
    (H3 : ∀ w : World, Dec w → Calls Tryd.prog 14 #[.int .i64 u] w fun e w' => e = .returned (.tuple #[.int .i64 108, .int .i64 0]) ∧ Fr no w w')
    (L0 : ∀ w : World, Dec w → Calls Tryd.prog 12 #[.int .i64 108] w fun e w' => e = .returned (.tuple #[.int .i64 l, .int .i64 0]) ∧ w' = w)
    (L1 : ∀ w : World, Dec w → Calls Tryd.prog 12 #[.int .i64 109] w fun e w' => e = .returned (.tuple #[.int .i64 0, .int .i64 2]) ∧ w' = w) :
    Calls Tryd.prog 6 #[.int .i64 n, .int .i64 u] w fun e w' => e = .returned (.bool true) ∧ Below w.heap.size w w' := by
  have HD := Lib.hid hd
  have K1 := Lib.hid H1
  have K2 := Lib.hid H2
  have K3 := Lib.hid H3
  have M0 := Lib.hid L0
  have M1 := Lib.hid L1
  clear hd H1 H2 H3 L0 L1
  go_enter Tryd.func6, Tryd.ntmps6
  go_wp2_with fail
  refine (awake_any _ HD.out).mono ?_
  rintro e w1 ⟨rfl, f1⟩
  have HF1 := Lib.hid f1
  have HD1 := Lib.hid (HD.out.kept f1 (fun h => h))
  clear f1
  go_wp2_with fail
  refine (K1.out _ HD1.out).mono ?_
  rintro e w' ⟨rfl, rfl⟩
  go_wp2_with fail
  refine (K2.out _ HD1.out).mono ?_
  rintro e w' ⟨rfl, rfl⟩
  go_wp2_with fail
  refine (K3.out _ HD1.out).mono ?_
  rintro e w2 ⟨rfl, f2⟩
  have HF2 := Lib.hid (HF1.out.noTrans f2)
  have HD2 := Lib.hid (HD1.out.kept f2 (fun h => h))
  clear f2
  go_wp2_with fail
  refine (M0.out _ HD2.out).mono ?_
  rintro e w' ⟨rfl, rfl⟩
  go_wp2_with fail
  refine (M1.out _ HD2.out).mono ?_
  rintro e w' ⟨rfl, rfl⟩
  go_wp2_with fail
  go_ret
  exact ⟨rfl, HF2.out.belowNone (Nat.le_refl _)⟩
set_option maxHeartbeats 4000000 in
theorem order_A1_U4 (n : Int) (u : Int) (w : World) (hd : Dec w) (hn0 : 0 ≤ n) (hn6 : n < 6) (a b : Int) (hab : a ≤ b) (d l h : Int) (hd0 : 0 ≤ d) (hd1 : d < 108) (hl : l ≤ u) (hh : u < h)
    (H1 : ∀ w : World, Dec w → Calls Tryd.prog 12 #[.int .i64 n] w fun e w' => e = .returned (.tuple #[.int .i64 a, .int .i64 0]) ∧ w' = w)
    (H2 : ∀ w : World, Dec w → Calls Tryd.prog 12 #[.int .i64 (n + 1)] w fun e w' => e = .returned (.tuple #[.int .i64 b, .int .i64 0]) ∧ w' = w)
    (H3 : ∀ w : World, Dec w → Calls Tryd.prog 14 #[.int .i64 u] w fun e w' => e = .returned (.tuple #[.int .i64 d, .int .i64 0]) ∧ Fr no w w')
    (L0 : ∀ w : World, Dec w → Calls Tryd.prog 12 #[.int .i64 d] w fun e w' => e = .returned (.tuple #[.int .i64 l, .int .i64 0]) ∧ w' = w)
    (L1 : ∀ w : World, Dec w → Calls Tryd.prog 12 #[.int .i64 (d + 1)] w fun e w' => e = .returned (.tuple #[.int .i64 h, .int .i64 0]) ∧ w' = w) :
    Calls Tryd.prog 6 #[.int .i64 n, .int .i64 u] w fun e w' => e = .returned (.bool true) ∧ Below w.heap.size w w' := by
  have HD := Lib.hid hd
  have K1 := Lib.hid H1
  have K2 := Lib.hid H2
  have K3 := Lib.hid H3
  have M0 := Lib.hid L0
  have M1 := Lib.hid L1
  clear hd H1 H2 H3 L0 L1
  go_enter Tryd.func6, Tryd.ntmps6
  go_wp2_with fail
  refine (awake_any _ HD.out).mono ?_
  rintro e w1 ⟨rfl, f1⟩
  have HF1 := Lib.hid f1
  have HD1 := Lib.hid (HD.out.kept f1 (fun h => h))
  clear f1
  go_wp2_with fail
  refine (K1.out _ HD1.out).mono ?_
  rintro e w' ⟨rfl, rfl⟩
  go_wp2_with fail
  refine (K2.out _ HD1.out).mono ?_
  rintro e w' ⟨rfl, rfl⟩
  go_wp2_with fail
  refine (K3.out _ HD1.out).mono ?_
  rintro e w2 ⟨rfl, f2⟩
  have HF2 := Lib.hid (HF1.out.noTrans f2)
  have HD2 := Lib.hid (HD1.out.kept f2 (fun h => h))
  clear f2
  go_wp2_with fail
  refine (M0.out _ HD2.out).mono ?_
  rintro e w' ⟨rfl, rfl⟩
  go_wp2_with fail
  refine (M1.out _ HD2.out).mono ?_
  rintro e w' ⟨rfl, rfl⟩
  go_wp2_with fail
  go_ret
  exact ⟨rfl, HF2.out.belowNone (Nat.le_refl _)⟩
set_option maxHeartbeats 4000000 in
theorem order_A2_U1 (n : Int) (u : Int) (w : World) (hd : Dec w) (hn0 : 6 ≤ n) (hn1 : n < 108) (a b : Int) (hab : a < b) (hu : u < 1)
    (H1 : ∀ w : World, Dec w → Calls Tryd.prog 12 #[.int .i64 n] w fun e w' => e = .returned (.tuple #[.int .i64 a, .int .i64 0]) ∧ w' = w)
    (H2 : ∀ w : World, Dec w → Calls Tryd.prog 12 #[.int .i64 (n + 1)] w fun e w' => e = .returned (.tuple #[.int .i64 b, .int .i64 0]) ∧ w' = w)
    (H3 : ∀ w : World, Dec w → Calls Tryd.prog 14 #[.int .i64 u] w fun e w' => e = .returned (.tuple #[.int .i64 0, .int .i64 2]) ∧ Fr no w w') :
    Calls Tryd.prog 6 #[.int .i64 n, .int .i64 u] w fun e w' => e = .returned (.bool true) ∧ Below w.heap.size w w' := by
  have hne : (a == b) = false := by rw [beq_eq_false_iff_ne]; omega
  have HD := Lib.hid hd
  have K1 := Lib.hid H1
  have K2 := Lib.hid H2
  have K3 := Lib.hid H3
  clear hd H1 H2 H3
  go_enter Tryd.func6, Tryd.ntmps6
  go_wp2_with fail
  refine (awake_any _ HD.out).mono ?_
  rintro e w1 ⟨rfl, f1⟩
  have HF1 := Lib.hid f1
  have HD1 := Lib.hid (HD.out.kept f1 (fun h => h))
  clear f1
  go_wp2_with fail
  refine (K1.out _ HD1.out).mono ?_
  rintro e w' ⟨rfl, rfl⟩
  go_wp2_with fail
  refine (K2.out _ HD1.out).mono ?_
  rintro e w' ⟨rfl, rfl⟩
  go_wp2_with fail
  refine (K3.out _ HD1.out).mono ?_
  rintro e w2 ⟨rfl, f2⟩
  have HF2 := Lib.hid (HF1.out.noTrans f2)
  have HD2 := Lib.hid (HD1.out.kept f2 (fun h => h))
  clear f2
  go_wp2_with fail
  go_ret
  exact ⟨rfl, HF2.out.belowNone (Nat.le_refl _)⟩
set_option maxHeartbeats 4000000 in
theorem order_A2_U2 (n : Int) (u : Int) (w : World) (hd : Dec w) (hn0 : 6 ≤ n) (hn1 : n < 108) (a b : Int) (hab : a < b) (hu : 68719476736 < u)
    (H1 : ∀ w : World, Dec w → Calls Tryd.prog 12 #[.int .i64 n] w fun e w' => e = .returned (.tuple #[.int .i64 a, .int .i64 0]) ∧ w' = w)
    (H2 : ∀ w : World, Dec w → Calls Tryd.prog 12 #[.int .i64 (n + 1)] w fun e w' => e = .returned (.tuple #[.int .i64 b, .int .i64 0]) ∧ w' = w)
    (H3 : ∀ w : World, Dec w → Calls Tryd.prog 14 #[.int .i64 u] w fun e w' => e = .returned (.tuple #[.int .i64 0, .int .i64 2]) ∧ Fr no w w') :
    Calls Tryd.prog 6 #[.int .i64 n, .int .i64 u] w fun e w' => e = .returned (.bool true) ∧ Below w.heap.size w w' := by
  have hne : (a == b) = false := by rw [beq_eq_false_iff_ne]; omega
  have HD := Lib.hid hd
  have K1 := Lib.hid H1
  have K2 := Lib.hid H2
  have K3 := Lib.hid H3
  clear hd H1 H2 H3
  go_enter Tryd.func6, Tryd.ntmps6
  go_wp2_with fail
  refine (awake_any _ HD.out).mono ?_
  rintro e w1 ⟨rfl, f1⟩
  have HF1 := Lib.hid f1
  have HD1 := Lib.hid (HD.out.kept f1 (fun h => h))
  clear f1
  go_wp2_with fail
  refine (K1.out _ HD1.out).mono ?_
  rintro e w' ⟨rfl, rfl⟩
  go_wp2_with fail
  refine (K2.out _ HD1.out).mono ?_
  rintro e w' ⟨rfl, rfl⟩
  go_wp2_with fail
  refine (K3.out _ HD1.out).mono ?_
  rintro e w2 ⟨rfl, f2⟩
  have HF2 := Lib.hid (HF1.out.noTrans f2)
  have HD2 := Lib.hid (HD1.out.kept f2 (fun h => h))
  clear f2
  go_wp2_with fail
  go_ret
  exact ⟨rfl, HF2.out.belowNone (Nat.le_refl _)⟩
set_option maxHeartbeats 4000000 in
theorem order_A2_U3 (n : Int) (u : Int) (w : World) (hd : Dec w) (hn0 : 6 ≤ n) (hn1 : n < 108) (a b : Int) (hab : a < b) (l : Int) (hl : l ≤ u)
    (H1 : ∀ w : World, Dec w → Calls Tryd.prog 12 #[.int .i64 n] w fun e w' => e = .returned (.tuple #[.int .i64 a, .int .i64 0]) ∧ w' = w)
    (H2 : ∀ w : World, Dec w → Calls Tryd.prog 12 #[.int .i64 (n + 1)] w fun e w' => e = .returned (.tuple #[.int .i64 b, .int .i64 0]) ∧ w' = w)
    (H3 : ∀ w : World, Dec w → Calls Tryd.prog 14 #[.int .i64 u] w fun e w' => e = .returned (.tuple #[.int .i64 108, .int .i64 0]) ∧ Fr no w w')
    (L0 : ∀ w : World, Dec w → Calls Tryd.prog 12 #[.int .i64 108] w fun e w' => e = .returned (.tuple #[.int .i64 l, .int .i64 0]) ∧ w' = w)
    (L1 : ∀ w : World, Dec w → Calls Tryd.prog 12 #[.int .i64 109] w fun e w' => e = .returned (.tuple #[.int .i64 0, .int .i64 2]) ∧ w' = w) :
    Calls Tryd.prog 6 #[.int .i64 n, .int .i64 u] w fun e w' => e = .returned (.bool true) ∧ Below w.heap.size w w' := by
  have hne : (a == b) = false := by rw [beq_eq_false_iff_ne]; omega
  have HD := Lib.hid hd
  have K1 := Lib.hid H1
  have K2 := Lib.hid H2
  have K3 := Lib.hid H3
  have M0 := Lib.hid L0
  have M1 := Lib.hid L1
  clear hd H1 H2 H3 L0 L1
  go_enter Tryd.func6, Tryd.ntmps6
  go_wp2_with fail
  refine (awake_any _ HD.out).mono ?_
  rintro e w1 ⟨rfl, f1⟩
  have HF1 := Lib.hid f1
  have HD1 := Lib.hid (HD.out.kept f1 (fun h => h))
  clear f1
  go_wp2_with fail
  refine (K1.out _ HD1.out).mono ?_
  rintro e w' ⟨rfl, rfl⟩
  go_wp2_with fail
  refine (K2.out _ HD1.out).mono ?_
  rintro e w' ⟨rfl, rfl⟩
  go_wp2_with fail
  refine (K3.out _ HD1.out).mono ?_
  rintro e w2 ⟨rfl, f2⟩
  have HF2 := Lib.hid (HF1.out.noTrans f2)
  have HD2 := Lib.hid (HD1.out.kept f2 (fun h => h))
  clear f2
  go_wp2_with fail
  refine (M0.out _ HD2.out).mono ?_
  rintro e w' ⟨rfl, rfl⟩
  go_wp2_with fail
  refine (M1.out _ HD2.out).mono ?_
  rintro e w' ⟨rfl, rfl⟩
  go_wp2_with fail
  go_ret
  exact ⟨rfl, HF2.out.belowNone (Nat.le_refl _)⟩
set_option maxHeartbeats 4000000 in
theorem order_A2_U4 (n : Int) (u : Int) (w : World) (hd : Dec w) (hn0 : 6 ≤ n) (hn1 : n < 108) (a b : Int) (hab : a < b) (d l h : Int) (hd0 : 0 ≤ d) (hd1 : d < 108) (hl : l ≤ u) (hh : u < h)
    (H1 : ∀ w : World, Dec w → Calls Tryd.prog 12 #[.int .i64 n] w fun e w' => e = .returned (.tuple #[.int .i64 a, .int .i64 0]) ∧ w' = w)
    (H2 : ∀ w : World, Dec w → Calls Tryd.prog 12 #[.int .i64 (n + 1)] w fun e w' => e = .returned (.tuple #[.int .i64 b, .int .i64 0]) ∧ w' = w)
    (H3 : ∀ w : World, Dec w → Calls Tryd.prog 14 #[.int .i64 u] w fun e w' => e = .returned (.tuple #[.int .i64 d, .int .i64 0]) ∧ Fr no w w')
    (L0 : ∀ w : World, Dec w → Calls Tryd.prog 12 #[.int .i64 d] w fun e w' => e = .returned (.tuple #[.int .i64 l, .int .i64 0]) ∧ w' = w)
    (L1 : ∀ w : World, Dec w → Calls Tryd.prog 12 #[.int .i64 (d + 1)] w fun e w' => e = .returned (.tuple #[.int .i64 h, .int .i64 0]) ∧ w' = w) :
    Calls Tryd.prog 6 #[.int .i64 n, .int .i64 u] w fun e w' => e = .returned (.bool true) ∧ Below w.heap.size w w' := by
  have hne : (a == b) = false := by rw [beq_eq_false_iff_ne]; omega
  have HD := Lib.hid hd
  have K1 := Lib.hid H1
  have K2 := Lib.hid H2
  have K3 := Lib.hid H3
  have M0 := Lib.hid L0
  have M1 := Lib.hid L1
  clear hd H1 H2 H3 L0 L1
  go_enter Tryd.func6, Tryd.ntmps6
  go_wp2_with fail
  refine (awake_any _ HD.out).mono ?_
  rintro e w1 ⟨rfl, f1⟩
  have HF1 := Lib.hid f1
  have HD1 := Lib.hid (HD.out.kept f1 (fun h => h))
  clear f1
  go_wp2_with fail
  refine (K1.out _ HD1.out).mono ?_
  rintro e w' ⟨rfl, rfl⟩
  go_wp2_with fail
  refine (K2.out _ HD1.out).mono ?_
  rintro e w' ⟨rfl, rfl⟩
  go_wp2_with fail
  refine (K3.out _ HD1.out).mono ?_
  rintro e w2 ⟨rfl, f2⟩
  have HF2 := Lib.hid (HF1.out.noTrans f2)
  have HD2 := Lib.hid (HD1.out.kept f2 (fun h => h))
  clear f2
  go_wp2_with fail
  refine (M0.out _ HD2.out).mono ?_
  rintro e w' ⟨rfl, rfl⟩
  go_wp2_with fail
  refine (M1.out _ HD2.out).mono ?_
  rintro e w' ⟨rfl, rfl⟩
  go_wp2_with fail
  go_ret
  exact ⟨rfl, HF2.out.belowNone (Nat.le_refl _)⟩
set_option maxHeartbeats 4000000 in
theorem order_B_U1 (n : Int) (u : Int) (w : World) (hd : Dec w) (m : Int) (hw : IntKind.i64.wrap (n + 1) = m) (b f : Int) (hu : u < 1)
    (H1 : ∀ w : World, Dec w → Calls Tryd.prog 12 #[.int .i64 n] w fun e w' => e = .returned (.tuple #[.int .i64 0, .int .i64 2]) ∧ w' = w)
    (H2 : ∀ w : World, Dec w → Calls Tryd.prog 12 #[.int .i64 m] w fun e w' => e = .returned (.tuple #[.int .i64 b, .int .i64 f]) ∧ w' = w)
    (H3 : ∀ w : World, Dec w → Calls Tryd.prog 14 #[.int .i64 u] w fun e w' => e = .returned (.tuple #[.int .i64 0, .int .i64 2]) ∧ Fr no w w') :
    Calls Tryd.prog 6 #[.int .i64 n, .int .i64 u] w fun e w' => e = .returned (.bool true) ∧ Below w.heap.size w w' := by
  have HD := Lib.hid hd
  have K1 := Lib.hid H1
  have K2 := Lib.hid H2
  have K3 := Lib.hid H3
  clear hd H1 H2 H3
  go_enter Tryd.func6, Tryd.ntmps6
  go_wp2_with fail
  refine (awake_any _ HD.out).mono ?_
  rintro e w1 ⟨rfl, f1⟩
  have HF1 := Lib.hid f1
  have HD1 := Lib.hid (HD.out.kept f1 (fun h => h))
  clear f1
  go_wp2_with fail
  refine (K1.out _ HD1.out).mono ?_
  rintro e w' ⟨rfl, rfl⟩
  go_wp2_with fail
  refine (K2.out _ HD1.out).mono ?_
  rintro e w' ⟨rfl, rfl⟩
  go_wp2_with fail
  refine (K3.out _ HD1.out).mono ?_
  rintro e w2 ⟨rfl, f2⟩
  have HF2 := Lib.hid (HF1.out.noTrans f2)
  have HD2 := Lib.hid (HD1.out.kept f2 (fun h => h))
  clear f2
  go_wp2_with fail
  go_ret
  exact ⟨rfl, HF2.out.belowNone (Nat.le_refl _)⟩
set_option maxHeartbeats 4000000 in
theorem order_B_U2 (n : Int) (u : Int) (w : World) (hd : Dec w) (m : Int) (hw : IntKind.i64.wrap (n + 1) = m) (b f : Int) (hu : 68719476736 < u)
    (H1 : ∀ w : World, Dec w → Calls Tryd.prog 12 #[.int .i64 n] w fun e w' => e = .returned (.tuple #[.int .i64 0, .int .i64 2]) ∧ w' = w)
    (H2 : ∀ w : World, Dec w → Calls Tryd.prog 12 #[.int .i64 m] w fun e w' => e = .returned (.tuple #[.int .i64 b, .int .i64 f]) ∧ w' = w)
    (H3 : ∀ w : World, Dec w → Calls Tryd.prog 14 #[.int .i64 u] w fun e w' => e = .returned (.tuple #[.int .i64 0, .int .i64 2]) ∧ Fr no w w') :
    Calls Tryd.prog 6 #[.int .i64 n, .int .i64 u] w fun e w' => e = .returned (.bool true) ∧ Below w.heap.size w w' := by
  have HD := Lib.hid hd
  have K1 := Lib.hid H1
  have K2 := Lib.hid H2
  have K3 := Lib.hid H3
  clear hd H1 H2 H3
  go_enter Tryd.func6, Tryd.ntmps6
  go_wp2_with fail
  refine (awake_any _ HD.out).mono ?_
  rintro e w1 ⟨rfl, f1⟩
  have HF1 := Lib.hid f1
  have HD1 := Lib.hid (HD.out.kept f1 (fun h => h))
  clear f1
  go_wp2_with fail
  refine (K1.out _ HD1.out).mono ?_
  rintro e w' ⟨rfl, rfl⟩
  go_wp2_with fail
  refine (K2.out _ HD1.out).mono ?_
  rintro e w' ⟨rfl, rfl⟩
  go_wp2_with fail
  refine (K3.out _ HD1.out).mono ?_
  rintro e w2 ⟨rfl, f2⟩
  have HF2 := Lib.hid (HF1.out.noTrans f2)
  have HD2 := Lib.hid (HD1.out.kept f2 (fun h => h))
  clear f2
  go_wp2_with fail
  go_ret
  exact ⟨rfl, HF2.out.belowNone (Nat.le_refl _)⟩
set_option maxHeartbeats 4000000 in
theorem order_B_U3 (n : Int) (u : Int) (w : World) (hd : Dec w) (m : Int) (hw : IntKind.i64.wrap (n + 1) = m) (b f : Int) (l : Int) (hl : l ≤ u)
    (H1 : ∀ w : World, Dec w → Calls Tryd.prog 12 #[.int .i64 n] w fun e w' => e = .returned (.tuple #[.int .i64 0, .int .i64 2]) ∧ w' = w)
    (H2 : ∀ w : World, Dec w → Calls Tryd.prog 12 #[.int .i64 m] w fun e w' => e = .returned (.tuple #[.int .i64 b, .int .i64 f]) ∧ w' = w)
    (H3 : ∀ w : World, Dec w → Calls Tryd.prog 14 #[.int .i64 u] w fun e w' => e = .returned (.tuple #[.int .i64 108, .int .i64 0]) ∧ Fr no w w')
    (L0 : ∀ w : World, Dec w → Calls Tryd.prog 12 #[.int .i64 108] w fun e w' => e = .returned (.tuple #[.int .i64 l, .int .i64 0]) ∧ w' = w)
    (L1 : ∀ w : World, Dec w → Calls Tryd.prog 12 #[.int .i64 109] w fun e w' => e = .returned (.tuple #[.int .i64 0, .int .i64 2]) ∧ w' = w) :
    Calls Tryd.prog 6 #[.int .i64 n, .int .i64 u] w fun e w' => e = .returned (.bool true) ∧ Below w.heap.size w w' := by
  have HD := Lib.hid hd
  have K1 := Lib.hid H1
  have K2 := Lib.hid H2
  have K3 := Lib.hid H3
  have M0 := Lib.hid L0
  have M1 := Lib.hid L1
  clear hd H1 H2 H3 L0 L1
  go_enter Tryd.func6, Tryd.ntmps6
  go_wp2_with fail
  refine (awake_any _ HD.out).mono ?_
  rintro e w1 ⟨rfl, f1⟩
  have HF1 := Lib.hid f1
  have HD1 := Lib.hid (HD.out.kept f1 (fun h => h))
  clear f1
  go_wp2_with fail
  refine (K1.out _ HD1.out).mono ?_
  rintro e w' ⟨rfl, rfl⟩
  go_wp2_with fail
  refine (K2.out _ HD1.out).mono ?_
  rintro e w' ⟨rfl, rfl⟩
  go_wp2_with fail
  refine (K3.out _ HD1.out).mono ?_
  rintro e w2 ⟨rfl, f2⟩
  have HF2 := Lib.hid (HF1.out.noTrans f2)
  have HD2 := Lib.hid (HD1.out.kept f2 (fun h => h))
  clear f2
  go_wp2_with fail
  refine (M0.out _ HD2.out).mono ?_
  rintro e w' ⟨rfl, rfl⟩
  go_wp2_with fail
  refine (M1.out _ HD2.out).mono ?_
  rintro e w' ⟨rfl, rfl⟩
  go_wp2_with fail
  go_ret
  exact ⟨rfl, HF2.out.belowNone (Nat.le_refl _)⟩
set_option maxHeartbeats 4000000 in
theorem order_B_U4 (n : Int) (u : Int) (w : World) (hd : Dec w) (m : Int) (hw : IntKind.i64.wrap (n + 1) = m) (b f : Int) (d l h : Int) (hd0 : 0 ≤ d) (hd1 : d < 108) (hl : l ≤ u) (hh : u < h)
    (H1 : ∀ w : World, Dec w → Calls Tryd.prog 12 #[.int .i64 n] w fun e w' => e = .returned (.tuple #[.int .i64 0, .int .i64 2]) ∧ w' = w)
    (H2 : ∀ w : World, Dec w → Calls Tryd.prog 12 #[.int .i64 m] w fun e w' => e = .returned (.tuple #[.int .i64 b, .int .i64 f]) ∧ w' = w)
    (H3 : ∀ w : World, Dec w → Calls Tryd.prog 14 #[.int .i64 u] w fun e w' => e = .returned (.tuple #[.int .i64 d, .int .i64 0]) ∧ Fr no w w')
    (L0 : ∀ w : World, Dec w → Calls Tryd.prog 12 #[.int .i64 d] w fun e w' => e = .returned (.tuple #[.int .i64 l, .int .i64 0]) ∧ w' = w)
    (L1 : ∀ w : World, Dec w → Calls Tryd.prog 12 #[.int .i64 (d + 1)] w fun e w' => e = .returned (.tuple #[.int .i64 h, .int .i64 0]) ∧ w' = w) :
    Calls Tryd.prog 6 #[.int .i64 n, .int .i64 u] w fun e w' => e = .returned (.bool true) ∧ Below w.heap.size w w' := by
  have HD := Lib.hid hd
  have K1 := Lib.hid H1
  have K2 := Lib.hid H2
  have K3 := Lib.hid H3
  have M0 := Lib.hid L0
  have M1 := Lib.hid L1
  clear hd H1 H2 H3 L0 L1
  go_enter Tryd.func6, Tryd.ntmps6
  go_wp2_with fail
  refine (awake_any _ HD.out).mono ?_
  rintro e w1 ⟨rfl, f1⟩
  have HF1 := Lib.hid f1
  have HD1 := Lib.hid (HD.out.kept f1 (fun h => h))
  clear f1
  go_wp2_with fail
  refine (K1.out _ HD1.out).mono ?_
  rintro e w' ⟨rfl, rfl⟩
  go_wp2_with fail
  refine (K2.out _ HD1.out).mono ?_
  rintro e w' ⟨rfl, rfl⟩
  go_wp2_with fail
  refine (K3.out _ HD1.out).mono ?_
  rintro e w2 ⟨rfl, f2⟩
  have HF2 := Lib.hid (HF1.out.noTrans f2)
  have HD2 := Lib.hid (HD1.out.kept f2 (fun h => h))
  clear f2
  go_wp2_with fail
  refine (M0.out _ HD2.out).mono ?_
  rintro e w' ⟨rfl, rfl⟩
  go_wp2_with fail
  refine (M1.out _ HD2.out).mono ?_
  rintro e w' ⟨rfl, rfl⟩
  go_wp2_with fail
  go_ret
  exact ⟨rfl, HF2.out.belowNone (Nat.le_refl _)⟩
set_option maxHeartbeats 4000000 in
theorem order_C_U1 (u : Int) (w : World) (hd : Dec w) (a : Int) (hu : u < 1)
    (H1 : ∀ w : World, Dec w → Calls Tryd.prog 12 #[.int .i64 108] w fun e w' => e = .returned (.tuple #[.int .i64 a, .int .i64 0]) ∧ w' = w)
    (H2 : ∀ w : World, Dec w → Calls Tryd.prog 12 #[.int .i64 109] w fun e w' => e = .returned (.tuple #[.int .i64 0, .int .i64 2]) ∧ w' = w)
    (H3 : ∀ w : World, Dec w → Calls Tryd.prog 14 #[.int .i64 u] w fun e w' => e = .returned (.tuple #[.int .i64 0, .int .i64 2]) ∧ Fr no w w') :
    Calls Tryd.prog 6 #[.int .i64 108, .int .i64 u] w fun e w' => e = .returned (.bool true) ∧ Below w.heap.size w w' := by
  have HD := Lib.hid hd
  have K1 := Lib.hid H1
  have K2 := Lib.hid H2
  have K3 := Lib.hid H3
  clear hd H1 H2 H3
  go_enter Tryd.func6, Tryd.ntmps6
  go_wp2_with fail
  refine (awake_any _ HD.out).mono ?_
  rintro e w1 ⟨rfl, f1⟩
  have HF1 := Lib.hid f1
  have HD1 := Lib.hid (HD.out.kept f1 (fun h => h))
  clear f1
  go_wp2_with fail
  refine (K1.out _ HD1.out).mono ?_
  rintro e w' ⟨rfl, rfl⟩
  go_wp2_with fail
  refine (K2.out _ HD1.out).mono ?_
  rintro e w' ⟨rfl, rfl⟩
  go_wp2_with fail
  refine (K3.out _ HD1.out).mono ?_
  rintro e w2 ⟨rfl, f2⟩
  have HF2 := Lib.hid (HF1.out.noTrans f2)
  have HD2 := Lib.hid (HD1.out.kept f2 (fun h => h))
  clear f2
  go_wp2_with fail
  go_ret
  exact ⟨rfl, HF2.out.belowNone (Nat.le_refl _)⟩
set_option maxHeartbeats 4000000 in
theorem order_C_U2 (u : Int) (w : World) (hd : Dec w) (a : Int) (hu : 68719476736 < u)
    (H1 : ∀ w : World, Dec w → Calls Tryd.prog 12 #[.int .i64 108] w fun e w' => e = .returned (.tuple #[.int .i64 a, .int .i64 0]) ∧ w' = w)
    (H2 : ∀ w : World, Dec w → Calls Tryd.prog 12 #[.int .i64 109] w fun e w' => e = .returned (.tuple #[.int .i64 0, .int .i64 2]) ∧ w' = w)
    (H3 : ∀ w : World, Dec w → Calls Tryd.prog 14 #[.int .i64 u] w fun e w' => e = .returned (.tuple #[.int .i64 0, .int .i64 2]) ∧ Fr no w w') :
    Calls Tryd.prog 6 #[.int .i64 108, .int .i64 u] w fun e w' => e = .returned (.bool true) ∧ Below w.heap.size w w' := by
  have HD := Lib.hid hd
  have K1 := Lib.hid H1
  have K2 := Lib.hid H2
  have K3 := Lib.hid H3
  clear hd H1 H2 H3
  go_enter Tryd.func6, Tryd.ntmps6
  go_wp2_with fail
  refine (awake_any _ HD.out).mono ?_
  rintro e w1 ⟨rfl, f1⟩
  have HF1 := Lib.hid f1
  have HD1 := Lib.hid (HD.out.kept f1 (fun h => h))
  clear f1
  go_wp2_with fail
  refine (K1.out _ HD1.out).mono ?_
  rintro e w' ⟨rfl, rfl⟩
  go_wp2_with fail
  refine (K2.out _ HD1.out).mono ?_
  rintro e w' ⟨rfl, rfl⟩
  go_wp2_with fail
  refine (K3.out _ HD1.out).mono ?_
  rintro e w2 ⟨rfl, f2⟩
  have HF2 := Lib.hid (HF1.out.noTrans f2)
  have HD2 := Lib.hid (HD1.out.kept f2 (fun h => h))
  clear f2
  go_wp2_with fail
  go_ret
  exact ⟨rfl, HF2.out.belowNone (Nat.le_refl _)⟩
set_option maxHeartbeats 4000000 in
theorem order_C_U3 (u : Int) (w : World) (hd : Dec w) (a : Int) (l : Int) (hl : l ≤ u)
    (H1 : ∀ w : World, Dec w → Calls Tryd.prog 12 #[.int .i64 108] w fun e w' => e = .returned (.tuple #[.int .i64 a, .int .i64 0]) ∧ w' = w)
    (H2 : ∀ w : World, Dec w → Calls Tryd.prog 12 #[.int .i64 109] w fun e w' => e = .returned (.tuple #[.int .i64 0, .int .i64 2]) ∧ w' = w)
    (H3 : ∀ w : World, Dec w → Calls Tryd.prog 14 #[.int .i64 u] w fun e w' => e = .returned (.tuple #[.int .i64 108, .int .i64 0]) ∧ Fr no w w')
    (L0 : ∀ w : World, Dec w → Calls Tryd.prog 12 #[.int .i64 108] w fun e w' => e = .returned (.tuple #[.int .i64 l, .int .i64 0]) ∧ w' = w)
    (L1 : ∀ w : World, Dec w → Calls Tryd.prog 12 #[.int .i64 109] w fun e w' => e = .returned (.tuple #[.int .i64 0, .int .i64 2]) ∧ w' = w) :
    Calls Tryd.prog 6 #[.int .i64 108, .int .i64 u] w fun e w' => e = .returned (.bool true) ∧ Below w.heap.size w w' := by
  have HD := Lib.hid hd
  have K1 := Lib.hid H1
  have K2 := Lib.hid H2
  have K3 := Lib.hid H3
  have M0 := Lib.hid L0
  have M1 := Lib.hid L1
  clear hd H1 H2 H3 L0 L1
  go_enter Tryd.func6, Tryd.ntmps6
  go_wp2_with fail
  refine (awake_any _ HD.out).mono ?_
  rintro e w1 ⟨rfl, f1⟩
  have HF1 := Lib.hid f1
  have HD1 := Lib.hid (HD.out.kept f1 (fun h => h))
  clear f1
  go_wp2_with fail
  refine (K1.out _ HD1.out).mono ?_
  rintro e w' ⟨rfl, rfl⟩
  go_wp2_with fail
  refine (K2.out _ HD1.out).mono ?_
  rintro e w' ⟨rfl, rfl⟩
  go_wp2_with fail
  refine (K3.out _ HD1.out).mono ?_
  rintro e w2 ⟨rfl, f2⟩
  have HF2 := Lib.hid (HF1.out.noTrans f2)
  have HD2 := Lib.hid (HD1.out.kept f2 (fun h => h))
  clear f2
  go_wp2_with fail
  refine (M0.out _ HD2.out).mono ?_
  rintro e w' ⟨rfl, rfl⟩
  go_wp2_with fail
  refine (M1.out _ HD2.out).mono ?_
  rintro e w' ⟨rfl, rfl⟩
  go_wp2_with fail
  go_ret
  exact ⟨rfl, HF2.out.belowNone (Nat.le_refl _)⟩
set_option maxHeartbeats 4000000 in
theorem order_C_U4 (u : Int) (w : World) (hd : Dec w) (a : Int) (d l h : Int) (hd0 : 0 ≤ d) (hd1 : d < 108) (hl : l ≤ u) (hh : u < h)
    (H1 : ∀ w : World, Dec w → Calls Tryd.prog 12 #[.int .i64 108] w fun e w' => e = .returned (.tuple #[.int .i64 a, .int .i64 0]) ∧ w' = w)
    (H2 : ∀ w : World, Dec w → Calls Tryd.prog 12 #[.int .i64 109] w fun e w' => e = .returned (.tuple #[.int .i64 0, .int .i64 2]) ∧ w' = w)
    (H3 : ∀ w : World, Dec w → Calls Tryd.prog 14 #[.int .i64 u] w fun e w' => e = .returned (.tuple #[.int .i64 d, .int .i64 0]) ∧ Fr no w w')
    (L0 : ∀ w : World, Dec w → Calls Tryd.prog 12 #[.int .i64 d] w fun e w' => e = .returned (.tuple #[.int .i64 l, .int .i64 0]) ∧ w' = w)
    (L1 : ∀ w : World, Dec w → Calls Tryd.prog 12 #[.int .i64 (d + 1)] w fun e w' => e = .returned (.tuple #[.int .i64 h, .int .i64 0]) ∧ w' = w) :
    Calls Tryd.prog 6 #[.int .i64 108, .int .i64 u] w fun e w' => e = .returned (.bool true) ∧ Below w.heap.size w w' := by
  have HD := Lib.hid hd
  have K1 := Lib.hid H1
  have K2 := Lib.hid H2
  have K3 := Lib.hid H3
  have M0 := Lib.hid L0
  have M1 := Lib.hid L1
  clear hd H1 H2 H3 L0 L1
  go_enter Tryd.func6, Tryd.ntmps6
  go_wp2_with fail
  refine (awake_any _ HD.out).mono ?_
  rintro e w1 ⟨rfl, f1⟩
  have HF1 := Lib.hid f1
  have HD1 := Lib.hid (HD.out.kept f1 (fun h => h))
  clear f1
  go_wp2_with fail
  refine (K1.out _ HD1.out).mono ?_
  rintro e w' ⟨rfl, rfl⟩
  go_wp2_with fail
  refine (K2.out _ HD1.out).mono ?_
  rintro e w' ⟨rfl, rfl⟩
  go_wp2_with fail
  refine (K3.out _ HD1.out).mono ?_
  rintro e w2 ⟨rfl, f2⟩
  have HF2 := Lib.hid (HF1.out.noTrans f2)
  have HD2 := Lib.hid (HD1.out.kept f2 (fun h => h))
  clear f2
  go_wp2_with fail
  refine (M0.out _ HD2.out).mono ?_
  rintro e w' ⟨rfl, rfl⟩
  go_wp2_with fail
  refine (M1.out _ HD2.out).mono ?_
  rintro e w' ⟨rfl, rfl⟩
  go_wp2_with fail
  go_ret
  exact ⟨rfl, HF2.out.belowNone (Nat.le_refl _)⟩
theorem lvl_lt_all : ((List.range 108).all fun n => decide (n < 6 ∨ lvl n < lvl (n + 1))) = true := by kernel_rfl
theorem lvl_lt (n : Nat) (h6 : 6 ≤ n) (h : n < 108) : lvl n < lvl (n + 1) := by
  have := lvl_lt_all
  rw [List.all_eq_true] at this
  have := of_decide_eq_true (this n (List.mem_range.2 h))
  omega
theorem db_spec (p : Int) (h0 : 1 ≤ p) (h1 : p ≤ MX) : DbS p (db p) := by
  have key : ∀ k, k ≤ 108 → ((lvl k : Nat) : Int) ≤ p → ∃ d, DbS p d := by
    intro k hk
    induction hm : 108 - k generalizing k with
    | zero => intro h; exact ⟨k, by omega, h, fun hh => by omega⟩
    | succ m ih =>
      intro h
      by_cases hp : ((lvl (k + 1) : Nat) : Int) ≤ p
      · exact ih (k + 1) (by omega) (by omega) hp
      · exact ⟨k, hk, h, fun _ => by omega⟩
  obtain ⟨d, hd⟩ := key 0 (by decide) (by rw [lvl_zero]; exact h0)
  rw [hd.db]
  exact hd
theorem lv_in (n : Nat) (h : n ≤ 108) : lvV (n : Int) = (lvl n : Nat) ∧ lvE (n : Int) = 0 := by
  have hi : inR (n : Int) 0 108 = true := inR_t.2 ⟨by omega, by omega⟩
  rw [lvV, lvE, if_pos hi, if_pos hi]
  exact ⟨rfl, rfl⟩
theorem lv_out (n : Int) (h : n < 0 ∨ 108 < n) : lvV n = 0 ∧ lvE n = 2 := by
  have hi : ¬ inR n 0 108 = true := by rw [inR_t]; omega
  rw [lvV, lvE, if_neg hi, if_neg hi]
  exact ⟨rfl, rfl⟩
theorem order_law (n u : Int) (w : World) (hd : Dec w) (h1 : -9223372036854775808 ≤ n) (h2 : n ≤ 9223372036854775807) :
    Calls Tryd.prog 6 #[.int .i64 n, .int .i64 u] w fun e w' => e = .returned (.bool true) ∧ Below w.heap.size w w' := by
  have L : ∀ n : Int, ∀ w : World, Dec w → Calls Tryd.prog 12 #[.int .i64 n] w fun e w' => e = .returned (.tuple #[.int .i64 (lvV n), .int .i64 (lvE n)]) ∧ w' = w := fun n w h => levelP_any n w h
  have Lin : ∀ n : Nat, n ≤ 108 → ∀ w : World, Dec w → Calls Tryd.prog 12 #[.int .i64 n] w fun e w' => e = .returned (.tuple #[.int .i64 (lvl n : Nat), .int .i64 0]) ∧ w' = w := fun n hn w h => by
    have := levelP_any n w h
    rwa [(lv_in n hn).1, (lv_in n hn).2] at this
  have Lout : ∀ n : Int, (n < 0 ∨ 108 < n) → ∀ w : World, Dec w → Calls Tryd.prog 12 #[.int .i64 n] w fun e w' => e = .returned (.tuple #[.int .i64 0, .int .i64 2]) ∧ w' = w := fun n hn w h => by
    have := levelP_any n w h
    rwa [(lv_out n hn).1, (lv_out n hn).2] at this
  have Dout : (u < 1 ∨ 68719476736 < u) → ∀ w : World, Dec w → Calls Tryd.prog 14 #[.int .i64 u] w fun e w' => e = .returned (.tuple #[.int .i64 0, .int .i64 2]) ∧ Fr no w w' := fun hu w h => by
    have := decibels_any u w h
    have hi : ¬ inR u 1 MX = true := by rw [inR_t, MX]; omega
    rwa [dbV, dbE, if_neg hi, if_neg hi] at this
  have Din : 1 ≤ u → u ≤ 68719476736 → ∀ w : World, Dec w → Calls Tryd.prog 14 #[.int .i64 u] w fun e w' => e = .returned (.tuple #[.int .i64 (db u : Nat), .int .i64 0]) ∧ Fr no w w' := fun hu hu2 w h => by
    have := decibels_any u w h
    have hi : inR u 1 MX = true := inR_t.2 ⟨hu, hu2⟩
    rwa [dbV, dbE, if_pos hi, if_pos hi] at this
  have S := fun (a : 1 ≤ u) (b : u ≤ 68719476736) => db_spec u a b
  by_cases ha : 0 ≤ n ∧ n < 108
  · obtain ⟨k, rfl⟩ := Int.eq_ofNat_of_zero_le ha.1
    have G1 := Lin k (by omega)
    have G2 := Lin (k + 1) (by omega)
    rw [show ((k + 1 : Nat) : Int) = (k : Int) + 1 by omega] at G2
    by_cases h6 : (k : Int) < 6
    · have hab : ((lvl k : Nat) : Int) ≤ (lvl (k + 1) : Nat) := by have := lvl_step k (by omega); omega
      by_cases hu1 : u < 1
      · exact order_A1_U1 (k : Int) u w hd (by omega) h6 _ _ hab hu1 G1 G2 (Dout (.inl hu1))
      by_cases hu2 : 68719476736 < u
      · exact order_A1_U2 (k : Int) u w hd (by omega) h6 _ _ hab hu2 G1 G2 (Dout (.inr hu2))
      have s := S (by omega) (by omega)
      have di := Din (by omega) (by omega)
      by_cases hd8 : db u = 108
      · rw [hd8] at di s
        exact order_A1_U3 (k : Int) u w hd (by omega) h6 _ _ hab (lvl 108 : Nat) s.low G1 G2 di (Lin 108 (by decide)) (Lout 109 (.inr (by decide)))
      · have hlt : db u < 108 := by have := s.le; omega
        exact order_A1_U4 (k : Int) u w hd (by omega) h6 _ _ hab (db u : Nat) (lvl (db u) : Nat) (lvl (db u + 1) : Nat) (by omega) (by omega) s.low (s.high hlt) G1 G2 di (Lin _ s.le) (by have := Lin (db u + 1) (by omega); rwa [show ((db u + 1 : Nat) : Int) = (db u : Int) + 1 by omega] at this)
    · have hab : ((lvl k : Nat) : Int) < (lvl (k + 1) : Nat) := by have := lvl_lt k (by omega) (by omega); omega
      by_cases hu1 : u < 1
      · exact order_A2_U1 (k : Int) u w hd (by omega) ha.2 _ _ hab hu1 G1 G2 (Dout (.inl hu1))
      by_cases hu2 : 68719476736 < u
      · exact order_A2_U2 (k : Int) u w hd (by omega) ha.2 _ _ hab hu2 G1 G2 (Dout (.inr hu2))
      have s := S (by omega) (by omega)
      have di := Din (by omega) (by omega)
      by_cases hd8 : db u = 108
      · rw [hd8] at di s
        exact order_A2_U3 (k : Int) u w hd (by omega) ha.2 _ _ hab (lvl 108 : Nat) s.low G1 G2 di (Lin 108 (by decide)) (Lout 109 (.inr (by decide)))
      · have hlt : db u < 108 := by have := s.le; omega
        exact order_A2_U4 (k : Int) u w hd (by omega) ha.2 _ _ hab (db u : Nat) (lvl (db u) : Nat) (lvl (db u + 1) : Nat) (by omega) (by omega) s.low (s.high hlt) G1 G2 di (Lin _ s.le) (by have := Lin (db u + 1) (by omega); rwa [show ((db u + 1 : Nat) : Int) = (db u : Int) + 1 by omega] at this)
  by_cases h8 : n = 108
  · subst h8
    have G1 := Lin 108 (by decide)
    have G2 := Lout 109 (.inr (by decide))
    by_cases hu1 : u < 1
    · exact order_C_U1 u w hd _ hu1 G1 G2 (Dout (.inl hu1))
    by_cases hu2 : 68719476736 < u
    · exact order_C_U2 u w hd _ hu2 G1 G2 (Dout (.inr hu2))
    have s := S (by omega) (by omega)
    have di := Din (by omega) (by omega)
    by_cases hd8 : db u = 108
    · rw [hd8] at di s
      exact order_C_U3 u w hd _ (lvl 108 : Nat) s.low G1 G2 di (Lin 108 (by decide)) (Lout 109 (.inr (by decide)))
    · have hlt : db u < 108 := by have := s.le; omega
      exact order_C_U4 u w hd _ (db u : Nat) (lvl (db u) : Nat) (lvl (db u + 1) : Nat) (by omega) (by omega) s.low (s.high hlt) G1 G2 di (Lin _ s.le) (by have := Lin (db u + 1) (by omega); rwa [show ((db u + 1 : Nat) : Int) = (db u : Int) + 1 by omega] at this)
  · have G1 := Lout n (by omega)
    have G2 := L (IntKind.i64.wrap (n + 1))
    by_cases hu1 : u < 1
    · exact order_B_U1 n u w hd _ rfl _ _ hu1 G1 G2 (Dout (.inl hu1))
    by_cases hu2 : 68719476736 < u
    · exact order_B_U2 n u w hd _ rfl _ _ hu2 G1 G2 (Dout (.inr hu2))
    have s := S (by omega) (by omega)
    have di := Din (by omega) (by omega)
    by_cases hd8 : db u = 108
    · rw [hd8] at di s
      exact order_B_U3 n u w hd _ rfl _ _ (lvl 108 : Nat) s.low G1 G2 di (Lin 108 (by decide)) (Lout 109 (.inr (by decide)))
    · have hlt : db u < 108 := by have := s.le; omega
      exact order_B_U4 n u w hd _ rfl _ _ (db u : Nat) (lvl (db u) : Nat) (lvl (db u + 1) : Nat) (by omega) (by omega) s.low (s.high hlt) G1 G2 di (Lin _ s.le) (by have := Lin (db u + 1) (by omega); rwa [show ((db u + 1 : Nat) : Int) = (db u : Int) + 1 by omega] at this)
end Go.Proofs.YtkbdjpdpcbeciaaDoor
