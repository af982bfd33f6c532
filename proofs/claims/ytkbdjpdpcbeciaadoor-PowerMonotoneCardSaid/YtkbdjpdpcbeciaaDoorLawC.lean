/- slices.Clone; the law of reception. -/
import Derived.Test.YtkbdjpdpcbeciaaDoorRec
import Derived.Deep.RegionHeld3
namespace Go.Proofs.YtkbdjpdpcbeciaaDoor
open Go.RowKit

theorem Fr.ofBelow {w w' : World} (h : Below w.heap.size w w') : Fr no w w' := ⟨h.os, h.tape, h.output, h.size, fun k hk _ => h.block k hk⟩
def CloneRes (w w' : World) (len : Nat) (zs : List Int) (e : Ending) : Prop := ∃ ao' cap', e = .returned (.slice ao' len cap') ∧ IntsIn w' ao' len zs ∧ Fr no w w'
theorem owned_ints {w : World} {base n : Nat} {v : Value} {zs : List Int} (hn : zs.length = n) (h : w.ownsRow base 3 1 v n (zs.map (Value.int .i64))) : ∃ ao' cap', v = .slice ao' n cap' ∧ IntsIn w ao' n zs := by
  rcases h.2 with ⟨rfl, h0⟩ | ⟨g, cap, cur, rfl, _, hg, _⟩
  · have : n = 0 := by
      have := h.1
      simp at this
      first | omega | (simp at h0; omega)
    subst this
    exact ⟨none, 0, rfl, hn, fun i hi => by omega⟩
  · refine ⟨_, cap, rfl, hn, fun i hi => ⟨g, 0, rfl, ?_⟩⟩
    rw [Nat.zero_add, h.cellAt i (by simpa [hn] using hi)]
    simp [List.getD_eq_getElem?_getD, List.getElem?_eq_getElem (show i < zs.length by omega)]
theorem clone_any (ao : Option Addr) (len cap : Nat) (zs : List Int) (w : World) (hz : IntsIn w ao len zs) (hl : len ≤ 1000) :
    Calls Tryd.prog 19 #[.slice ao len cap] w fun e w' => CloneRes w w' len zs e := by
  have hzl := hz.1
  cases ao with
  | none =>
    have h0 : len = 0 := by
      rcases Nat.eq_zero_or_pos len with h | h
      · exact h
      · obtain ⟨b, off, h1, _⟩ := hz.2 0 h
        cases h1
    subst h0
    refine (Tryd.slices_Clone_int_nil 0 cap w).mono ?_
    rintro e w' ⟨rfl, rfl⟩
    exact ⟨none, 0, rfl, ⟨hzl, fun i hi => by omega⟩, Fr.refl _ _⟩
  | some a =>
    rcases Nat.eq_zero_or_pos len with h | h
    · subst h
      refine (Tryd.slices_Clone_int_zero a cap w).mono ?_
      rintro e w' ⟨v', rfl, ho, _, hb⟩
      have hz0 : zs = [] := List.length_eq_zero_iff.1 hzl
      subst hz0
      obtain ⟨ao', cap', rfl, hi⟩ := owned_ints (zs := []) rfl ho
      exact ⟨ao', cap', rfl, hi, Fr.ofBelow hb⟩
    · obtain ⟨b, off, h1, _⟩ := hz.2 0 h
      obtain rfl := Option.some.inj h1
      refine (Tryd.slices_Clone_int b off len cap zs w (by omega) (by omega) (fun j hj => ?_)).mono ?_
      · obtain ⟨b', off', h2, h3⟩ := hz.2 j (by omega)
        obtain ⟨rfl, rfl⟩ : b = b' ∧ off = off' := by simpa using h2
        exact h3
      · rintro e w' ⟨v', rfl, ho, _, hb⟩
        rw [List.take_of_length_le (by omega)] at ho
        obtain ⟨ao', cap', rfl, hi⟩ := owned_ints hzl ho
        exact ⟨ao', cap', rfl, hi, Fr.ofBelow hb⟩
theorem four_cells {w : World} {B T : Nat} {a b c d : Value} (h : w.heap[B]? = some (.cells #[a, b, c, d] T (0, 0))) :
    w.cell? ⟨B, 0, none⟩ = some a ∧ w.cell? ⟨B, 1, none⟩ = some b ∧ w.cell? ⟨B, 2, none⟩ = some c ∧ w.cell? ⟨B, 3, none⟩ = some d := by
  simp [World.cell?, h]
set_option maxHeartbeats 4000000 in
theorem receives_big (s t o m : Int) (ao : Option Addr) (len cap : Nat) (w : World) (hd : Dec w) (hl : 100 < len) :
    Calls Tryd.prog 4 #[.agg #[.int .i64 s, .int .i64 t, .int .i64 o, .slice ao len cap], .int .i64 m] w fun e w' => e = .returned (.bool true) ∧ Below w.heap.size w w' := by
  have hlI : (100 : Int) < (len : Int) := by omega
  have f0 := (Fr.refl no w).alloc (.cells #[.int .i64 s, .int .i64 t, .int .i64 o, .slice ao len cap] 30 (0, 0))
  have HW := Lib.hid f0
  have HD := Lib.hid (hd.kept f0 (fun h => h))
  clear f0 hd hl
  go_enter Tryd.func4, Tryd.ntmps4
  go_wp2_with fail
  refine (awake_any _ HD.out).mono ?_
  rintro e w1 ⟨rfl, f1⟩
  have hb := f1.blk (heap_alloc_new w _) (fun h => h)
  obtain ⟨c0, c1, c2, c3⟩ := four_cells hb
  have HF1 := Lib.hid (HW.out.noTrans f1)
  clear f1 hb
  go_wp2_with fail
  go_ret
  exact ⟨rfl, HF1.out.belowNone (Nat.le_refl _)⟩
set_option maxHeartbeats 4000000 in
theorem receives_in (s t o m : Int) (ao : Option Addr) (len cap : Nat) (zs : List Int) (w : World) (hd : Dec w) (hl : len ≤ 100) (hz : IntsIn w ao len zs) :
    Calls Tryd.prog 4 #[.agg #[.int .i64 s, .int .i64 t, .int .i64 o, .slice ao len cap], .int .i64 m] w fun e w' => e = .returned (.bool true) ∧ Below w.heap.size w w' := by
  have hlI : (len : Int) ≤ 100 := by omega
  have f0 := (Fr.refl no w).alloc (.cells #[.int .i64 s, .int .i64 t, .int .i64 o, .slice ao len cap] 30 (0, 0))
  have HW := Lib.hid f0
  have HD := Lib.hid (hd.kept f0 (fun h => h))
  have HZ := Lib.hid hz
  have HL := Lib.hid (show len ≤ 1000 by omega)
  clear f0 hd hl hz
  go_enter Tryd.func4, Tryd.ntmps4
  go_wp2_with fail
  refine (awake_any _ HD.out).mono ?_
  rintro e w1 ⟨rfl, f1⟩
  have hb := f1.blk (heap_alloc_new w _) (fun h => h)
  have HB1 := Lib.hid hb
  obtain ⟨c0, c1, c2, c3⟩ := four_cells hb
  have HF1 := Lib.hid (HW.out.noTrans f1)
  clear f1 hb
  go_wp2_with fail
  refine (clone_any ao len cap zs _ (HZ.out.kept HF1.out) HL.out).mono ?_
  rintro e w2 ⟨a2, k2, rfl, z2, f2⟩
  have HB2 := Lib.hid (f2.blk HB1.out (fun h => h))
  have HF2 := Lib.hid (HF1.out.noTrans f2)
  have HZ2 := Lib.hid z2
  clear f2 z2 c0 c1 c2 c3 HB1 HF1
  obtain ⟨c0, c1, c2, c3⟩ := four_cells HB2.out
  go_wp2_with fail
  refine (sum_any a2 len k2 zs _ HZ2.out).mono ?_
  rintro e w' ⟨rfl, rfl⟩
  go_wp2_with fail
  refine (sumR_any ao len cap zs _ (HZ.out.kept HF2.out)).mono ?_
  rintro e w' ⟨rfl, rfl⟩
  go_wp2_with fail
  have HS : ∀ w0 w' : World, Fr no w0 w' → w0.cell? ⟨w.heap.size, 0, none⟩ = some (.int .i64 s) → w0.cell? ⟨w.heap.size, 1, none⟩ = some (.int .i64 t) → w0.cell? ⟨w.heap.size, 2, none⟩ = some (.int .i64 o) → w0.cell? ⟨w.heap.size, 3, none⟩ = some (.slice ao len cap) →
      w'.cell? ⟨w.heap.size, 0, none⟩ = some (.int .i64 s) ∧ w'.cell? ⟨w.heap.size, 1, none⟩ = some (.int .i64 t) ∧ w'.cell? ⟨w.heap.size, 2, none⟩ = some (.int .i64 o) ∧ w'.cell? ⟨w.heap.size, 3, none⟩ = some (.slice ao len cap) :=
    fun w0 w' h a b c d => ⟨(h.cell (World.block_lt_of_cell? w0 _ a) (fun h => h)).trans a, (h.cell (World.block_lt_of_cell? w0 _ b) (fun h => h)).trans b, (h.cell (World.block_lt_of_cell? w0 _ c) (fun h => h)).trans c, (h.cell (World.block_lt_of_cell? w0 _ d) (fun h => h)).trans d⟩
  have KS := Lib.hid HS
  clear HS
  go_region_held3 (fun w' => w'.cell? ⟨w.heap.size, 0, none⟩ = some (.int .i64 s) ∧ w'.cell? ⟨w.heap.size, 1, none⟩ = some (.int .i64 t) ∧ w'.cell? ⟨w.heap.size, 2, none⟩ = some (.int .i64 o) ∧ w'.cell? ⟨w.heap.size, 3, none⟩ = some (.slice ao len cap)) (go_keep)
    (first
      | (go_at_call 19; refine (clone_any ao len cap zs _ (HZ.out.kept HF2.out.drew) HL.out).mono ?_; rintro e w3 ⟨a3, k3, rfl, z3, f3⟩; obtain ⟨e0, e1, e2, e3⟩ := KS.out _ _ f3 (by assumption) (by assumption) (by assumption) (by assumption))
      | (go_at_call 21; refine (received_any s t o a3 len k3 zs _ z3).mono ?_; rintro e w4 ⟨rfl, rfl⟩))
  have HF4 := Lib.hid (HF2.out.drew.noTrans f3)
  clear f3 z3 c0 c1 c2 c3
  go_wp2_with fail
  refine (receivedR_any s t o ao len cap zs _ (HZ.out.kept HF4.out)).mono ?_
  rintro e w' ⟨rfl, rfl⟩
  go_wp2_with fail
  refine (margin_any s t o _).mono ?_
  rintro e w' ⟨rfl, rfl⟩
  go_wp2_with fail
  refine (marginR_any s t o _).mono ?_
  rintro e w' ⟨rfl, rfl⟩
  go_wp2_with fail
  refine (least_any t o m _).mono ?_
  rintro e w' ⟨rfl, rfl⟩
  go_wp2_with fail
  refine (leastR_any t o m _).mono ?_
  rintro e w' ⟨rfl, rfl⟩
  go_wp2_with fail
  go_ret
  exact ⟨rfl, HF4.out.belowNone (Nat.le_refl _)⟩
theorem receives_law (s t o m : Int) (ao : Option Addr) (len cap : Nat) (zs : List Int) (w : World) (hd : Dec w) (hz : IntsIn w ao len zs) :
    Calls Tryd.prog 4 #[.agg #[.int .i64 s, .int .i64 t, .int .i64 o, .slice ao len cap], .int .i64 m] w fun e w' => e = .returned (.bool true) ∧ Below w.heap.size w w' := by
  by_cases hl : 100 < len
  · exact receives_big s t o m ao len cap w hd hl
  · exact receives_in s t o m ao len cap zs w hd (by omega) hz
end Go.Proofs.YtkbdjpdpcbeciaaDoor
