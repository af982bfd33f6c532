/- The law of check sums. -/
import Derived.Test.YthkklnphchajdaaLaw1
import Derived.Test.YthkklnphchajdaaUpdR
import Derived.Deep.RegionHeld3
namespace Go.Proofs.Ythkklnphchajdaa
open Go.RowKit

set_option maxHeartbeats 4000000 in
theorem sums_big (d : ByteArray) (a b : Wd) (n : Int) (w : World) (ha : d.size > 300) :
    Calls Try.prog 3 #[.string d, .agg #[.int .u16 (a.toNat : Int), .int .u16 (b.toNat : Int), .int .i64 n]] w fun e w' => e = .returned (.bool true) ∧ Below w.heap.size w w' := by
  have ha' : (300 : Int) < d.size := by omega
  clear ha
  go_enter Try.func3, Try.ntmps3
  go_wp2_with fail
  refine (awake_any _).mono ?_
  rintro e w1 ⟨rfl, f1⟩
  have HF1 := Lib.hid (((Fr.refl no w).alloc (.cells #[.int .u16 (a.toNat : Int), .int .u16 (b.toNat : Int), .int .i64 n] 24 (0, 0))).noTrans f1)
  clear f1
  go_wp2_with fail
  go_ret
  exact ⟨rfl, HF1.out.belowNone (Nat.le_refl _)⟩
/-- What is kept of the struct. -/
def Kept (B : Nat) (a b : Wd) (n : Int) (w : World) : Prop := w.heap[B]? = some (.cells #[.int .u16 (a.toNat : Int), .int .u16 (b.toNat : Int), .int .i64 n] 24 (0, 0))
set_option maxHeartbeats 8000000 in
theorem sums_in (d : ByteArray) (a b s u c : Wd) (n : Int) (w : World) (ha : d.size ≤ 300)
    (H1 : ∀ w : World, Calls Try.prog 12 #[.string d] w fun e w' => e = .returned (.int .u16 (s.toNat : Int)) ∧ Fr no w w')
    (H2 : ∀ w : World, Calls Try.prog 13 #[.string d] w fun e w' => e = .returned (.int .u16 (s.toNat : Int)) ∧ w' = w)
    (H3 : ∀ w : World, Calls Try.prog 14 #[.int .u16 (a.toNat : Int), .string d] w fun e w' => e = .returned (.int .u16 (u.toNat : Int)) ∧ Fr no w w')
    (H4 : ∀ w : World, Calls Try.prog 15 #[.int .u16 (a.toNat : Int), .string d] w fun e w' => e = .returned (.int .u16 (u.toNat : Int)) ∧ w' = w)
    (H5 : ∀ w : World, Calls Try.prog 16 #[.int .u16 (a.toNat : Int), .int .u16 (b.toNat : Int), .int .i64 n] w fun e w' => e = .returned (.int .u16 (c.toNat : Int)) ∧ w' = w)
    (H6 : ∀ w : World, Calls Try.prog 17 #[.int .u16 (a.toNat : Int), .int .u16 (b.toNat : Int), .int .i64 n] w fun e w' => e = .returned (.int .u16 (c.toNat : Int)) ∧ w' = w) :
    Calls Try.prog 3 #[.string d, .agg #[.int .u16 (a.toNat : Int), .int .u16 (b.toNat : Int), .int .i64 n]] w fun e w' => e = .returned (.bool true) ∧ Below w.heap.size w w' := by
  have K1 := Lib.hid H1
  have K2 := Lib.hid H2
  have K3 := Lib.hid H3
  have K4 := Lib.hid H4
  have K5 := Lib.hid H5
  have K6 := Lib.hid H6
  have ha' : ¬ (300 : Int) < d.size := by omega
  clear H1 H2 H3 H4 H5 H6 ha
  go_enter Try.func3, Try.ntmps3
  go_wp2_with fail
  refine (awake_any _).mono ?_
  rintro e w1 ⟨rfl, f1⟩
  have HF1 := Lib.hid (((Fr.refl no w).alloc (.cells #[.int .u16 (a.toNat : Int), .int .u16 (b.toNat : Int), .int .i64 n] 24 (0, 0))).noTrans f1)
  have hb := f1.blk (heap_alloc_new w _) (fun h => h)
  obtain ⟨c0, c1, c2, g0, g1, g2⟩ := three_cells hb
  clear f1 hb g0 g1 g2
  go_wp2_with fail
  have HS : ∀ w0 w' : World, Fr no w0 w' → w0.cell? ⟨w.heap.size, 0, none⟩ = some (.int .u16 (a.toNat : Int)) → w0.cell? ⟨w.heap.size, 1, none⟩ = some (.int .u16 (b.toNat : Int)) → w0.cell? ⟨w.heap.size, 2, none⟩ = some (.int .i64 n) →
      w'.cell? ⟨w.heap.size, 0, none⟩ = some (.int .u16 (a.toNat : Int)) ∧ w'.cell? ⟨w.heap.size, 1, none⟩ = some (.int .u16 (b.toNat : Int)) ∧ w'.cell? ⟨w.heap.size, 2, none⟩ = some (.int .i64 n) ∧ Fr no w0 w' :=
    fun w0 w' h a b c => ⟨(h.cell (World.block_lt_of_cell? w0 _ a) (fun h => h)).trans a, (h.cell (World.block_lt_of_cell? w0 _ b) (fun h => h)).trans b, (h.cell (World.block_lt_of_cell? w0 _ c) (fun h => h)).trans c, h⟩
  have KS := Lib.hid HS
  clear HS
  go_region_held3 (fun w' => w'.cell? ⟨w.heap.size, 0, none⟩ = some (.int .u16 (a.toNat : Int)) ∧ w'.cell? ⟨w.heap.size, 1, none⟩ = some (.int .u16 (b.toNat : Int)) ∧ w'.cell? ⟨w.heap.size, 2, none⟩ = some (.int .i64 n)) (go_keep)
    (first
      | (go_at_call 12; refine (K1.out _).mono ?_; rintro e w2 ⟨rfl, f2⟩; obtain ⟨e0, e1, e2, f2'⟩ := KS.out _ _ f2 (by assumption) (by assumption) (by assumption))
      | (go_at_call 13; refine (K2.out _).mono ?_; rintro e w2 ⟨rfl, rfl⟩)
      | (go_at_call 14; refine (K3.out _).mono ?_; rintro e w3 ⟨rfl, f3⟩; obtain ⟨e3, e4, e5, f3'⟩ := KS.out _ _ f3 (by assumption) (by assumption) (by assumption))
      | (go_at_call 15; refine (K4.out _).mono ?_; rintro e w2 ⟨rfl, rfl⟩)
      | (go_at_call 16; refine (K5.out _).mono ?_; rintro e w2 ⟨rfl, rfl⟩)
      | (go_at_call 17; refine (K6.out _).mono ?_; rintro e w2 ⟨rfl, rfl⟩))
  have HF := Lib.hid (HF1.out.drew.noTrans (f2.noTrans f3))
  clear f2 f3 f2' f3' e0 e1 e2 e3 e4 e5 c0 c1 c2 HF1
  go_wp2_with fail
  go_ret
  exact ⟨rfl, HF.out.belowNone (Nat.le_refl _)⟩
theorem sums_law (d : ByteArray) (a b : Wd) (n : Int) (w : World) (h1 : -9223372036854775808 ≤ n) (h2 : n ≤ 9223372036854775807) :
    Calls Try.prog 3 #[.string d, .agg #[.int .u16 (a.toNat : Int), .int .u16 (b.toNat : Int), .int .i64 n]] w fun e w' => e = .returned (.bool true) ∧ Below w.heap.size w w' := by
  by_cases hd : d.size > 300
  · exact sums_big d a b n w hd
  · exact sums_in d a b _ _ _ n w (by omega) (fun w => sum_any d w (by omega)) (fun w => sumR_any d w (by omega)) (fun w => update_any a d w (by omega)) (fun w => updateR_any a d w (by omega)) (fun w => combine_any a b n w h1 h2) (fun w => combineR_any a b n w h1 h2)
theorem sums_int (d : ByteArray) (a b n : Int) (w : World) (a0 : 0 ≤ a) (a1 : a ≤ 65535) (b0 : 0 ≤ b) (b1 : b ≤ 65535) (h1 : -9223372036854775808 ≤ n) (h2 : n ≤ 9223372036854775807) :
    Calls Try.prog 3 #[.string d, .agg #[.int .u16 a, .int .u16 b, .int .i64 n]] w fun e w' => e = .returned (.bool true) ∧ Below w.heap.size w w' := by
  obtain ⟨x, rfl⟩ := word_of a a0 a1
  obtain ⟨y, rfl⟩ := word_of b b0 b1
  exact sums_law d x y n w h1 h2
end Go.Proofs.Ythkklnphchajdaa
