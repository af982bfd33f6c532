/- The law of products. -/
import Derived.Test.YthkklnphchajdaaLaw1
namespace Go.Proofs.Ythkklnphchajdaa
open Go.RowKit

set_option maxHeartbeats 4000000 in
theorem field_m0 (a b c ab ac bc abc y z : Wd) (m n : Int) (w : World) (h1 : -9223372036854775808 ≤ m) (h2 : m ≤ 9223372036854775807) (h3 : -9223372036854775808 ≤ n) (h4 : n ≤ 9223372036854775807)
    (hy : bits .xor .u16 (b.toNat : Int) (c.toNat : Int) = (y.toNat : Int)) (hz : bits .xor .u16 (ab.toNat : Int) (ac.toNat : Int) = (z.toNat : Int))
    (H1 : ∀ w : World, Calls Try.prog 18 #[.int .u16 (a.toNat : Int), .int .u16 (b.toNat : Int)] w fun e w' => e = .returned (.int .u16 (ab.toNat : Int)) ∧ w' = w)
    (H2 : ∀ w : World, Calls Try.prog 18 #[.int .u16 (b.toNat : Int), .int .u16 (a.toNat : Int)] w fun e w' => e = .returned (.int .u16 (ab.toNat : Int)) ∧ w' = w)
    (H3 : ∀ w : World, Calls Try.prog 18 #[.int .u16 (ab.toNat : Int), .int .u16 (c.toNat : Int)] w fun e w' => e = .returned (.int .u16 (abc.toNat : Int)) ∧ w' = w)
    (H4 : ∀ w : World, Calls Try.prog 18 #[.int .u16 (b.toNat : Int), .int .u16 (c.toNat : Int)] w fun e w' => e = .returned (.int .u16 (bc.toNat : Int)) ∧ w' = w)
    (H5 : ∀ w : World, Calls Try.prog 18 #[.int .u16 (a.toNat : Int), .int .u16 (bc.toNat : Int)] w fun e w' => e = .returned (.int .u16 (abc.toNat : Int)) ∧ w' = w)
    (H6 : ∀ w : World, Calls Try.prog 18 #[.int .u16 (a.toNat : Int), .int .u16 (y.toNat : Int)] w fun e w' => e = .returned (.int .u16 (z.toNat : Int)) ∧ w' = w)
    (H7 : ∀ w : World, Calls Try.prog 18 #[.int .u16 (a.toNat : Int), .int .u16 (c.toNat : Int)] w fun e w' => e = .returned (.int .u16 (ac.toNat : Int)) ∧ w' = w)
    (H8 : ∀ w : World, Calls Try.prog 18 #[.int .u16 (a.toNat : Int), .int .u16 1] w fun e w' => e = .returned (.int .u16 (a.toNat : Int)) ∧ w' = w)
    (hm : m < 0) :
    Calls Try.prog 5 #[.agg #[.int .u16 (a.toNat : Int), .int .u16 (b.toNat : Int), .int .u16 (c.toNat : Int)], .int .i64 m, .int .i64 n] w fun e w' => e = .returned (.bool true) ∧ Below w.heap.size w w' := by
  have K1 := Lib.hid H1
  have K2 := Lib.hid H2
  have K3 := Lib.hid H3
  have K4 := Lib.hid H4
  have K5 := Lib.hid H5
  have K6 := Lib.hid H6
  have K7 := Lib.hid H7
  have K8 := Lib.hid H8
  clear H1 H2 H3 H4 H5 H6 H7 H8
  go_enter Try.func5, Try.ntmps5
  go_wp2_with fail
  refine (awake_any _).mono ?_
  rintro e w1 ⟨rfl, f1⟩
  have HF1 := Lib.hid (((Fr.refl no w).alloc (.cells #[.int .u16 (a.toNat : Int), .int .u16 (b.toNat : Int), .int .u16 (c.toNat : Int)] 33 (0, 0))).noTrans f1)
  have hb := f1.blk (heap_alloc_new w _) (fun h => h)
  obtain ⟨c0, c1, c2, g0, g1, g2⟩ := three_cells hb
  clear f1 hb g0 g1 g2
  go_wp2_with fail
  go_region
  clear c0 c1 c2
  have HF2 := Lib.hid HF1.out.drew
  clear HF1
  generalize w1.drew = w2 at *
  go_wp2_with fail
  refine (K1.out _).mono ?_
  rintro e w' ⟨rfl, rfl⟩
  go_wp2_with fail
  refine (K2.out _).mono ?_
  rintro e w' ⟨rfl, rfl⟩
  go_wp2_with fail
  refine (K3.out _).mono ?_
  rintro e w' ⟨rfl, rfl⟩
  go_wp2_with fail
  refine (K4.out _).mono ?_
  rintro e w' ⟨rfl, rfl⟩
  go_wp2_with fail
  refine (K5.out _).mono ?_
  rintro e w' ⟨rfl, rfl⟩
  go_wp2_with fail
  refine (K6.out _).mono ?_
  rintro e w' ⟨rfl, rfl⟩
  go_wp2_with fail
  refine (K7.out _).mono ?_
  rintro e w' ⟨rfl, rfl⟩
  go_wp2_with fail
  refine (K8.out _).mono ?_
  rintro e w' ⟨rfl, rfl⟩
  go_wp2_with fail
  go_ret
  exact ⟨rfl, HF2.out.belowNone (Nat.le_refl _)⟩
set_option maxHeartbeats 4000000 in
theorem field_n0 (a b c ab ac bc abc y z : Wd) (m n : Int) (w : World) (h1 : -9223372036854775808 ≤ m) (h2 : m ≤ 9223372036854775807) (h3 : -9223372036854775808 ≤ n) (h4 : n ≤ 9223372036854775807)
    (hy : bits .xor .u16 (b.toNat : Int) (c.toNat : Int) = (y.toNat : Int)) (hz : bits .xor .u16 (ab.toNat : Int) (ac.toNat : Int) = (z.toNat : Int))
    (H1 : ∀ w : World, Calls Try.prog 18 #[.int .u16 (a.toNat : Int), .int .u16 (b.toNat : Int)] w fun e w' => e = .returned (.int .u16 (ab.toNat : Int)) ∧ w' = w)
    (H2 : ∀ w : World, Calls Try.prog 18 #[.int .u16 (b.toNat : Int), .int .u16 (a.toNat : Int)] w fun e w' => e = .returned (.int .u16 (ab.toNat : Int)) ∧ w' = w)
    (H3 : ∀ w : World, Calls Try.prog 18 #[.int .u16 (ab.toNat : Int), .int .u16 (c.toNat : Int)] w fun e w' => e = .returned (.int .u16 (abc.toNat : Int)) ∧ w' = w)
    (H4 : ∀ w : World, Calls Try.prog 18 #[.int .u16 (b.toNat : Int), .int .u16 (c.toNat : Int)] w fun e w' => e = .returned (.int .u16 (bc.toNat : Int)) ∧ w' = w)
    (H5 : ∀ w : World, Calls Try.prog 18 #[.int .u16 (a.toNat : Int), .int .u16 (bc.toNat : Int)] w fun e w' => e = .returned (.int .u16 (abc.toNat : Int)) ∧ w' = w)
    (H6 : ∀ w : World, Calls Try.prog 18 #[.int .u16 (a.toNat : Int), .int .u16 (y.toNat : Int)] w fun e w' => e = .returned (.int .u16 (z.toNat : Int)) ∧ w' = w)
    (H7 : ∀ w : World, Calls Try.prog 18 #[.int .u16 (a.toNat : Int), .int .u16 (c.toNat : Int)] w fun e w' => e = .returned (.int .u16 (ac.toNat : Int)) ∧ w' = w)
    (H8 : ∀ w : World, Calls Try.prog 18 #[.int .u16 (a.toNat : Int), .int .u16 1] w fun e w' => e = .returned (.int .u16 (a.toNat : Int)) ∧ w' = w)
    (hm : ¬ m < 0) (hn : n < 0) :
    Calls Try.prog 5 #[.agg #[.int .u16 (a.toNat : Int), .int .u16 (b.toNat : Int), .int .u16 (c.toNat : Int)], .int .i64 m, .int .i64 n] w fun e w' => e = .returned (.bool true) ∧ Below w.heap.size w w' := by
  have K1 := Lib.hid H1
  have K2 := Lib.hid H2
  have K3 := Lib.hid H3
  have K4 := Lib.hid H4
  have K5 := Lib.hid H5
  have K6 := Lib.hid H6
  have K7 := Lib.hid H7
  have K8 := Lib.hid H8
  clear H1 H2 H3 H4 H5 H6 H7 H8
  go_enter Try.func5, Try.ntmps5
  go_wp2_with fail
  refine (awake_any _).mono ?_
  rintro e w1 ⟨rfl, f1⟩
  have HF1 := Lib.hid (((Fr.refl no w).alloc (.cells #[.int .u16 (a.toNat : Int), .int .u16 (b.toNat : Int), .int .u16 (c.toNat : Int)] 33 (0, 0))).noTrans f1)
  have hb := f1.blk (heap_alloc_new w _) (fun h => h)
  obtain ⟨c0, c1, c2, g0, g1, g2⟩ := three_cells hb
  clear f1 hb g0 g1 g2
  go_wp2_with fail
  go_region
  clear c0 c1 c2
  have HF2 := Lib.hid HF1.out.drew
  clear HF1
  generalize w1.drew = w2 at *
  go_wp2_with fail
  refine (K1.out _).mono ?_
  rintro e w' ⟨rfl, rfl⟩
  go_wp2_with fail
  refine (K2.out _).mono ?_
  rintro e w' ⟨rfl, rfl⟩
  go_wp2_with fail
  refine (K3.out _).mono ?_
  rintro e w' ⟨rfl, rfl⟩
  go_wp2_with fail
  refine (K4.out _).mono ?_
  rintro e w' ⟨rfl, rfl⟩
  go_wp2_with fail
  refine (K5.out _).mono ?_
  rintro e w' ⟨rfl, rfl⟩
  go_wp2_with fail
  refine (K6.out _).mono ?_
  rintro e w' ⟨rfl, rfl⟩
  go_wp2_with fail
  refine (K7.out _).mono ?_
  rintro e w' ⟨rfl, rfl⟩
  go_wp2_with fail
  refine (K8.out _).mono ?_
  rintro e w' ⟨rfl, rfl⟩
  go_wp2_with fail
  go_ret
  exact ⟨rfl, HF2.out.belowNone (Nat.le_refl _)⟩
set_option maxHeartbeats 4000000 in
theorem field_m1 (a b c ab ac bc abc y z : Wd) (m n : Int) (w : World) (h1 : -9223372036854775808 ≤ m) (h2 : m ≤ 9223372036854775807) (h3 : -9223372036854775808 ≤ n) (h4 : n ≤ 9223372036854775807)
    (hy : bits .xor .u16 (b.toNat : Int) (c.toNat : Int) = (y.toNat : Int)) (hz : bits .xor .u16 (ab.toNat : Int) (ac.toNat : Int) = (z.toNat : Int))
    (H1 : ∀ w : World, Calls Try.prog 18 #[.int .u16 (a.toNat : Int), .int .u16 (b.toNat : Int)] w fun e w' => e = .returned (.int .u16 (ab.toNat : Int)) ∧ w' = w)
    (H2 : ∀ w : World, Calls Try.prog 18 #[.int .u16 (b.toNat : Int), .int .u16 (a.toNat : Int)] w fun e w' => e = .returned (.int .u16 (ab.toNat : Int)) ∧ w' = w)
    (H3 : ∀ w : World, Calls Try.prog 18 #[.int .u16 (ab.toNat : Int), .int .u16 (c.toNat : Int)] w fun e w' => e = .returned (.int .u16 (abc.toNat : Int)) ∧ w' = w)
    (H4 : ∀ w : World, Calls Try.prog 18 #[.int .u16 (b.toNat : Int), .int .u16 (c.toNat : Int)] w fun e w' => e = .returned (.int .u16 (bc.toNat : Int)) ∧ w' = w)
    (H5 : ∀ w : World, Calls Try.prog 18 #[.int .u16 (a.toNat : Int), .int .u16 (bc.toNat : Int)] w fun e w' => e = .returned (.int .u16 (abc.toNat : Int)) ∧ w' = w)
    (H6 : ∀ w : World, Calls Try.prog 18 #[.int .u16 (a.toNat : Int), .int .u16 (y.toNat : Int)] w fun e w' => e = .returned (.int .u16 (z.toNat : Int)) ∧ w' = w)
    (H7 : ∀ w : World, Calls Try.prog 18 #[.int .u16 (a.toNat : Int), .int .u16 (c.toNat : Int)] w fun e w' => e = .returned (.int .u16 (ac.toNat : Int)) ∧ w' = w)
    (H8 : ∀ w : World, Calls Try.prog 18 #[.int .u16 (a.toNat : Int), .int .u16 1] w fun e w' => e = .returned (.int .u16 (a.toNat : Int)) ∧ w' = w)
    (hm : ¬ m < 0) (hn : ¬ n < 0) (hm1 : 1000000000 < m) :
    Calls Try.prog 5 #[.agg #[.int .u16 (a.toNat : Int), .int .u16 (b.toNat : Int), .int .u16 (c.toNat : Int)], .int .i64 m, .int .i64 n] w fun e w' => e = .returned (.bool true) ∧ Below w.heap.size w w' := by
  have K1 := Lib.hid H1
  have K2 := Lib.hid H2
  have K3 := Lib.hid H3
  have K4 := Lib.hid H4
  have K5 := Lib.hid H5
  have K6 := Lib.hid H6
  have K7 := Lib.hid H7
  have K8 := Lib.hid H8
  clear H1 H2 H3 H4 H5 H6 H7 H8
  go_enter Try.func5, Try.ntmps5
  go_wp2_with fail
  refine (awake_any _).mono ?_
  rintro e w1 ⟨rfl, f1⟩
  have HF1 := Lib.hid (((Fr.refl no w).alloc (.cells #[.int .u16 (a.toNat : Int), .int .u16 (b.toNat : Int), .int .u16 (c.toNat : Int)] 33 (0, 0))).noTrans f1)
  have hb := f1.blk (heap_alloc_new w _) (fun h => h)
  obtain ⟨c0, c1, c2, g0, g1, g2⟩ := three_cells hb
  clear f1 hb g0 g1 g2
  go_wp2_with fail
  go_region
  clear c0 c1 c2
  have HF2 := Lib.hid HF1.out.drew
  clear HF1
  generalize w1.drew = w2 at *
  go_wp2_with fail
  refine (K1.out _).mono ?_
  rintro e w' ⟨rfl, rfl⟩
  go_wp2_with fail
  refine (K2.out _).mono ?_
  rintro e w' ⟨rfl, rfl⟩
  go_wp2_with fail
  refine (K3.out _).mono ?_
  rintro e w' ⟨rfl, rfl⟩
  go_wp2_with fail
  refine (K4.out _).mono ?_
  rintro e w' ⟨rfl, rfl⟩
  go_wp2_with fail
  refine (K5.out _).mono ?_
  rintro e w' ⟨rfl, rfl⟩
  go_wp2_with fail
  refine (K6.out _).mono ?_
  rintro e w' ⟨rfl, rfl⟩
  go_wp2_with fail
  refine (K7.out _).mono ?_
  rintro e w' ⟨rfl, rfl⟩
  go_wp2_with fail
  refine (K8.out _).mono ?_
  rintro e w' ⟨rfl, rfl⟩
  go_wp2_with fail
  go_ret
  exact ⟨rfl, HF2.out.belowNone (Nat.le_refl _)⟩
set_option maxHeartbeats 4000000 in
theorem field_n1 (a b c ab ac bc abc y z : Wd) (m n : Int) (w : World) (h1 : -9223372036854775808 ≤ m) (h2 : m ≤ 9223372036854775807) (h3 : -9223372036854775808 ≤ n) (h4 : n ≤ 9223372036854775807)
    (hy : bits .xor .u16 (b.toNat : Int) (c.toNat : Int) = (y.toNat : Int)) (hz : bits .xor .u16 (ab.toNat : Int) (ac.toNat : Int) = (z.toNat : Int))
    (H1 : ∀ w : World, Calls Try.prog 18 #[.int .u16 (a.toNat : Int), .int .u16 (b.toNat : Int)] w fun e w' => e = .returned (.int .u16 (ab.toNat : Int)) ∧ w' = w)
    (H2 : ∀ w : World, Calls Try.prog 18 #[.int .u16 (b.toNat : Int), .int .u16 (a.toNat : Int)] w fun e w' => e = .returned (.int .u16 (ab.toNat : Int)) ∧ w' = w)
    (H3 : ∀ w : World, Calls Try.prog 18 #[.int .u16 (ab.toNat : Int), .int .u16 (c.toNat : Int)] w fun e w' => e = .returned (.int .u16 (abc.toNat : Int)) ∧ w' = w)
    (H4 : ∀ w : World, Calls Try.prog 18 #[.int .u16 (b.toNat : Int), .int .u16 (c.toNat : Int)] w fun e w' => e = .returned (.int .u16 (bc.toNat : Int)) ∧ w' = w)
    (H5 : ∀ w : World, Calls Try.prog 18 #[.int .u16 (a.toNat : Int), .int .u16 (bc.toNat : Int)] w fun e w' => e = .returned (.int .u16 (abc.toNat : Int)) ∧ w' = w)
    (H6 : ∀ w : World, Calls Try.prog 18 #[.int .u16 (a.toNat : Int), .int .u16 (y.toNat : Int)] w fun e w' => e = .returned (.int .u16 (z.toNat : Int)) ∧ w' = w)
    (H7 : ∀ w : World, Calls Try.prog 18 #[.int .u16 (a.toNat : Int), .int .u16 (c.toNat : Int)] w fun e w' => e = .returned (.int .u16 (ac.toNat : Int)) ∧ w' = w)
    (H8 : ∀ w : World, Calls Try.prog 18 #[.int .u16 (a.toNat : Int), .int .u16 1] w fun e w' => e = .returned (.int .u16 (a.toNat : Int)) ∧ w' = w)
    (hm : ¬ m < 0) (hn : ¬ n < 0) (hm1 : ¬ 1000000000 < m) (hn1 : 1000000000 < n) :
    Calls Try.prog 5 #[.agg #[.int .u16 (a.toNat : Int), .int .u16 (b.toNat : Int), .int .u16 (c.toNat : Int)], .int .i64 m, .int .i64 n] w fun e w' => e = .returned (.bool true) ∧ Below w.heap.size w w' := by
  have K1 := Lib.hid H1
  have K2 := Lib.hid H2
  have K3 := Lib.hid H3
  have K4 := Lib.hid H4
  have K5 := Lib.hid H5
  have K6 := Lib.hid H6
  have K7 := Lib.hid H7
  have K8 := Lib.hid H8
  clear H1 H2 H3 H4 H5 H6 H7 H8
  go_enter Try.func5, Try.ntmps5
  go_wp2_with fail
  refine (awake_any _).mono ?_
  rintro e w1 ⟨rfl, f1⟩
  have HF1 := Lib.hid (((Fr.refl no w).alloc (.cells #[.int .u16 (a.toNat : Int), .int .u16 (b.toNat : Int), .int .u16 (c.toNat : Int)] 33 (0, 0))).noTrans f1)
  have hb := f1.blk (heap_alloc_new w _) (fun h => h)
  obtain ⟨c0, c1, c2, g0, g1, g2⟩ := three_cells hb
  clear f1 hb g0 g1 g2
  go_wp2_with fail
  go_region
  clear c0 c1 c2
  have HF2 := Lib.hid HF1.out.drew
  clear HF1
  generalize w1.drew = w2 at *
  go_wp2_with fail
  refine (K1.out _).mono ?_
  rintro e w' ⟨rfl, rfl⟩
  go_wp2_with fail
  refine (K2.out _).mono ?_
  rintro e w' ⟨rfl, rfl⟩
  go_wp2_with fail
  refine (K3.out _).mono ?_
  rintro e w' ⟨rfl, rfl⟩
  go_wp2_with fail
  refine (K4.out _).mono ?_
  rintro e w' ⟨rfl, rfl⟩
  go_wp2_with fail
  refine (K5.out _).mono ?_
  rintro e w' ⟨rfl, rfl⟩
  go_wp2_with fail
  refine (K6.out _).mono ?_
  rintro e w' ⟨rfl, rfl⟩
  go_wp2_with fail
  refine (K7.out _).mono ?_
  rintro e w' ⟨rfl, rfl⟩
  go_wp2_with fail
  refine (K8.out _).mono ?_
  rintro e w' ⟨rfl, rfl⟩
  go_wp2_with fail
  go_ret
  exact ⟨rfl, HF2.out.belowNone (Nat.le_refl _)⟩
set_option maxHeartbeats 4000000 in
theorem field_in (a b c ab ac bc abc y z : Wd) (m n : Int) (w : World) (h1 : -9223372036854775808 ≤ m) (h2 : m ≤ 9223372036854775807) (h3 : -9223372036854775808 ≤ n) (h4 : n ≤ 9223372036854775807)
    (hy : bits .xor .u16 (b.toNat : Int) (c.toNat : Int) = (y.toNat : Int)) (hz : bits .xor .u16 (ab.toNat : Int) (ac.toNat : Int) = (z.toNat : Int))
    (H1 : ∀ w : World, Calls Try.prog 18 #[.int .u16 (a.toNat : Int), .int .u16 (b.toNat : Int)] w fun e w' => e = .returned (.int .u16 (ab.toNat : Int)) ∧ w' = w)
    (H2 : ∀ w : World, Calls Try.prog 18 #[.int .u16 (b.toNat : Int), .int .u16 (a.toNat : Int)] w fun e w' => e = .returned (.int .u16 (ab.toNat : Int)) ∧ w' = w)
    (H3 : ∀ w : World, Calls Try.prog 18 #[.int .u16 (ab.toNat : Int), .int .u16 (c.toNat : Int)] w fun e w' => e = .returned (.int .u16 (abc.toNat : Int)) ∧ w' = w)
    (H4 : ∀ w : World, Calls Try.prog 18 #[.int .u16 (b.toNat : Int), .int .u16 (c.toNat : Int)] w fun e w' => e = .returned (.int .u16 (bc.toNat : Int)) ∧ w' = w)
    (H5 : ∀ w : World, Calls Try.prog 18 #[.int .u16 (a.toNat : Int), .int .u16 (bc.toNat : Int)] w fun e w' => e = .returned (.int .u16 (abc.toNat : Int)) ∧ w' = w)
    (H6 : ∀ w : World, Calls Try.prog 18 #[.int .u16 (a.toNat : Int), .int .u16 (y.toNat : Int)] w fun e w' => e = .returned (.int .u16 (z.toNat : Int)) ∧ w' = w)
    (H7 : ∀ w : World, Calls Try.prog 18 #[.int .u16 (a.toNat : Int), .int .u16 (c.toNat : Int)] w fun e w' => e = .returned (.int .u16 (ac.toNat : Int)) ∧ w' = w)
    (H8 : ∀ w : World, Calls Try.prog 18 #[.int .u16 (a.toNat : Int), .int .u16 1] w fun e w' => e = .returned (.int .u16 (a.toNat : Int)) ∧ w' = w)
    (hm : ¬ m < 0) (hn : ¬ n < 0) (hm1 : ¬ 1000000000 < m) (hn1 : ¬ 1000000000 < n) (pm pn pmn : Wd)
    (P1 : ∀ w : World, Calls Try.prog 20 #[.int .i64 m] w fun e w' => e = .returned (.int .u16 (pm.toNat : Int)) ∧ w' = w)
    (P2 : ∀ w : World, Calls Try.prog 20 #[.int .i64 n] w fun e w' => e = .returned (.int .u16 (pn.toNat : Int)) ∧ w' = w)
    (P3 : ∀ w : World, Calls Try.prog 20 #[.int .i64 (m + n)] w fun e w' => e = .returned (.int .u16 (pmn.toNat : Int)) ∧ w' = w)
    (P4 : ∀ w : World, Calls Try.prog 18 #[.int .u16 (pm.toNat : Int), .int .u16 (pn.toNat : Int)] w fun e w' => e = .returned (.int .u16 (pmn.toNat : Int)) ∧ w' = w) :
    Calls Try.prog 5 #[.agg #[.int .u16 (a.toNat : Int), .int .u16 (b.toNat : Int), .int .u16 (c.toNat : Int)], .int .i64 m, .int .i64 n] w fun e w' => e = .returned (.bool true) ∧ Below w.heap.size w w' := by
  have K9 := Lib.hid P1
  have K10 := Lib.hid P2
  have K11 := Lib.hid P4
  have K12 := Lib.hid P3
  clear P1 P2 P3 P4
  have K1 := Lib.hid H1
  have K2 := Lib.hid H2
  have K3 := Lib.hid H3
  have K4 := Lib.hid H4
  have K5 := Lib.hid H5
  have K6 := Lib.hid H6
  have K7 := Lib.hid H7
  have K8 := Lib.hid H8
  clear H1 H2 H3 H4 H5 H6 H7 H8
  go_enter Try.func5, Try.ntmps5
  go_wp2_with fail
  refine (awake_any _).mono ?_
  rintro e w1 ⟨rfl, f1⟩
  have HF1 := Lib.hid (((Fr.refl no w).alloc (.cells #[.int .u16 (a.toNat : Int), .int .u16 (b.toNat : Int), .int .u16 (c.toNat : Int)] 33 (0, 0))).noTrans f1)
  have hb := f1.blk (heap_alloc_new w _) (fun h => h)
  obtain ⟨c0, c1, c2, g0, g1, g2⟩ := three_cells hb
  clear f1 hb g0 g1 g2
  go_wp2_with fail
  go_region
  clear c0 c1 c2
  have HF2 := Lib.hid HF1.out.drew
  clear HF1
  generalize w1.drew = w2 at *
  go_wp2_with fail
  refine (K1.out _).mono ?_
  rintro e w' ⟨rfl, rfl⟩
  go_wp2_with fail
  refine (K2.out _).mono ?_
  rintro e w' ⟨rfl, rfl⟩
  go_wp2_with fail
  refine (K3.out _).mono ?_
  rintro e w' ⟨rfl, rfl⟩
  go_wp2_with fail
  refine (K4.out _).mono ?_
  rintro e w' ⟨rfl, rfl⟩
  go_wp2_with fail
  refine (K5.out _).mono ?_
  rintro e w' ⟨rfl, rfl⟩
  go_wp2_with fail
  refine (K6.out _).mono ?_
  rintro e w' ⟨rfl, rfl⟩
  go_wp2_with fail
  refine (K7.out _).mono ?_
  rintro e w' ⟨rfl, rfl⟩
  go_wp2_with fail
  refine (K8.out _).mono ?_
  rintro e w' ⟨rfl, rfl⟩
  go_wp2_with fail
  refine (K9.out _).mono ?_
  rintro e w' ⟨rfl, rfl⟩
  go_wp2_with fail
  refine (K10.out _).mono ?_
  rintro e w' ⟨rfl, rfl⟩
  go_wp2_with fail
  refine (K11.out _).mono ?_
  rintro e w' ⟨rfl, rfl⟩
  go_wp2_with fail
  refine (K12.out _).mono ?_
  rintro e w' ⟨rfl, rfl⟩
  go_wp2_with fail
  go_ret
  exact ⟨rfl, HF2.out.belowNone (Nat.le_refl _)⟩

theorem field_law (a b c : Wd) (m n : Int) (w : World) (h1 : -9223372036854775808 ≤ m) (h2 : m ≤ 9223372036854775807) (h3 : -9223372036854775808 ≤ n) (h4 : n ≤ 9223372036854775807) :
    Calls Try.prog 5 #[.agg #[.int .u16 (a.toNat : Int), .int .u16 (b.toNat : Int), .int .u16 (c.toNat : Int)], .int .i64 m, .int .i64 n] w fun e w' => e = .returned (.bool true) ∧ Below w.heap.size w w' := by
  have H1 := mul_any a b
  have H2 := mul_any b a
  rw [mul_comm b a] at H2
  have H3 := mul_any (mul a b) c
  have H4 := mul_any b c
  have H5 := mul_any a (mul b c)
  rw [← mul_assoc] at H5
  have H6 := mul_any a (b ^^^ c)
  rw [mul_xor_right] at H6
  have H7 := mul_any a c
  have H8 := mul_any a 1#16
  rw [mul_one] at H8
  have hy := bits_xor b c
  have hz := bits_xor (mul a b) (mul a c)
  by_cases hm : m < 0
  · exact field_m0 a b c _ _ _ _ _ _ m n w h1 h2 h3 h4 hy hz H1 H2 H3 H4 H5 H6 H7 H8 hm
  by_cases hn : n < 0
  · exact field_n0 a b c _ _ _ _ _ _ m n w h1 h2 h3 h4 hy hz H1 H2 H3 H4 H5 H6 H7 H8 hm hn
  by_cases hm1 : 1000000000 < m
  · exact field_m1 a b c _ _ _ _ _ _ m n w h1 h2 h3 h4 hy hz H1 H2 H3 H4 H5 H6 H7 H8 hm hn hm1
  by_cases hn1 : 1000000000 < n
  · exact field_n1 a b c _ _ _ _ _ _ m n w h1 h2 h3 h4 hy hz H1 H2 H3 H4 H5 H6 H7 H8 hm hn hm1 hn1
  obtain ⟨i, rfl⟩ := Int.eq_ofNat_of_zero_le (show 0 ≤ m by omega)
  obtain ⟨j, rfl⟩ := Int.eq_ofNat_of_zero_le (show 0 ≤ n by omega)
  have P1 := fun w => power_any (i : Int) w (by omega) (by omega)
  have P2 := fun w => power_any (j : Int) w (by omega) (by omega)
  have P3 := fun w => power_any ((i : Int) + (j : Int)) w (by omega) (by omega)
  rw [powZ_nat] at P1 P2
  rw [show (i : Int) + (j : Int) = ((i + j : Nat) : Int) by omega, powZ_nat] at P3
  have P4 := mul_any (pw i) (pw j)
  rw [mul_pw_pw] at P4
  exact field_in a b c _ _ _ _ _ _ (i : Int) (j : Int) w h1 h2 h3 h4 hy hz H1 H2 H3 H4 H5 H6 H7 H8 hm hn hm1 hn1 _ _ _ P1 P2 P3 P4
theorem field_int (a b c m n : Int) (w : World) (a0 : 0 ≤ a) (a1 : a ≤ 65535) (b0 : 0 ≤ b) (b1 : b ≤ 65535) (c0 : 0 ≤ c) (c1 : c ≤ 65535) (h1 : -9223372036854775808 ≤ m) (h2 : m ≤ 9223372036854775807) (h3 : -9223372036854775808 ≤ n) (h4 : n ≤ 9223372036854775807) :
    Calls Try.prog 5 #[.agg #[.int .u16 a, .int .u16 b, .int .u16 c], .int .i64 m, .int .i64 n] w fun e w' => e = .returned (.bool true) ∧ Below w.heap.size w w' := by
  obtain ⟨x, rfl⟩ := word_of a a0 a1
  obtain ⟨y, rfl⟩ := word_of b b0 b1
  obtain ⟨z, rfl⟩ := word_of c c0 c1
  exact field_law x y z m n w h1 h2 h3 h4
end Go.Proofs.Ythkklnphchajdaa
