/- The law of monotony. -/
import Derived.Test.YtkbdjpdpcbeciaaDoorLawC
import Derived.Deep.MidRow
namespace Go.Proofs.YtkbdjpdpcbeciaaDoor
open Go.RowKit

def over (B : Nat) : Nat → Prop := fun k => B ≤ k
def OwnRes (w w' : World) (len : Nat) (zs : List Int) (e : Ending) : Prop := ∃ g cap', e = .returned (.slice (some ⟨g, 0, none⟩) len cap') ∧ w'.ownsRow w.heap.size 3 1 (.slice (some ⟨g, 0, none⟩) len cap') len (zs.map (Value.int .i64)) ∧ Fr no w w'
theorem clone_own (ao : Option Addr) (len cap : Nat) (zs : List Int) (w : World) (hz : IntsIn w ao len zs) (hl : len ≤ 1000) (h : 0 < len) :
    Calls Tryd.prog 19 #[.slice ao len cap] w fun e w' => OwnRes w w' len zs e := by
  have hzl := hz.1
  obtain ⟨b, off, rfl, _⟩ := hz.2 0 h
  refine (Tryd.slices_Clone_int b off len cap zs w (by omega) (by omega) (fun j hj => ?_)).mono ?_
  · obtain ⟨b', off', h2, h3⟩ := hz.2 j (by omega)
    obtain ⟨rfl, rfl⟩ : b = b' ∧ off = off' := by simpa using h2
    exact h3
  · rintro e w' ⟨v', rfl, ho, _, hb⟩
    rw [List.take_of_length_le (by omega)] at ho
    have ho' := ho
    rcases ho.2 with ⟨rfl, h0⟩ | ⟨g, cap', cur, rfl, _, hg, _⟩
    · omega
    · exact ⟨g, cap', rfl, ho', Fr.ofBelow hb⟩
theorem setCells_below (b : Nat) : ∀ (vs : List Value) (o : Nat) (w : World), Fr (fun k => k = b) w (w.setCells b o vs)
  | [], _, w => Fr.refl _ w
  | v :: vs, o, w => by
    unfold World.setCells
    exact Fr.trans ((Fr.refl (fun k => k = b) w).setCell (p := ⟨b, o, none⟩) (.inl rfl) v) (setCells_below b vs (o + 1) _) (fun i _ h => h)
def DelRes (w w' : World) (B : Nat) (len : Nat) (zs : List Int) (e : Ending) : Prop := ∃ ao' cap', e = .returned (.slice ao' len cap') ∧ IntsIn w' ao' len zs ∧ Fr (over B) w w'
theorem delete_own (g len cap k B : Nat) (k1 : Int) (zs : List Int) (w : World) (h : w.ownsRow B 3 1 (.slice (some ⟨g, 0, none⟩) len cap) len (zs.map (Value.int .i64))) (hk : k < len) (hk1 : k1 = (k : Int) + 1) :
    Calls Tryd.prog 31 #[.slice (some ⟨g, 0, none⟩) len cap, .int .i64 (k : Int), .int .i64 k1] w fun e w' => DelRes w w' B (len - 1) (zs.take k ++ zs.drop (k + 1)) e := by
  have hk1' : k1 = ((k + 1 : Nat) : Int) := by omega
  subst hk1'
  have hzl : zs.length = len := by
    have := h.1
    simpa using this
  have hcell : ∀ j, j < zs.length → w.cell? ⟨g, 0 + j, none⟩ = some (.int .i64 (zs.getD j 0)) := fun j hj => by
    rw [Nat.zero_add, h.cellAt j (by omega)]
    simp [List.getD_eq_getElem?_getD, List.getElem?_eq_getElem hj]
  have hfro : ∀ j, j < len → w.frozen? ⟨g, 0 + j, none⟩ = false := fun j hj => by rw [Nat.zero_add]; exact h.frozenAt j
  obtain ⟨hB, hcl, hcm⟩ : B ≤ g ∧ len ≤ cap ∧ cap ≤ maxLen := by
    rcases h.2 with ⟨h', _⟩ | ⟨g', cap', cur, h', hB, _, h1, h2, _⟩
    · simp at h'
    · simp only [Value.slice.injEq, Option.some.injEq, Addr.mk.injEq, and_true, true_and] at h'
      obtain ⟨rfl, rfl⟩ := h'
      exact ⟨hB, h1, h2⟩
  refine (Tryd.slices_Delete_int_cells g 0 len cap k (k + 1) zs w (by omega) hcl (by simpa [maxLen] using hcm) (by omega) (by omega) hcell hfro).mono ?_
  rintro e w' ⟨rfl, q, rfl⟩
  rw [show len - (k + 1 - k) = len - 1 by omega]
  rw [List.take_of_length_le (show zs.length ≤ len by omega)]
  have hfr : Fr (over B) w ((w.drewN q).setCells g 0 ((zs.take k ++ zs.drop (k + 1) ++ List.replicate (k + 1 - k) 0).map (Value.int .i64))) := by
    have h1 := setCells_below g ((zs.take k ++ zs.drop (k + 1) ++ List.replicate (k + 1 - k) 0).map (Value.int .i64)) 0 (w.drewN q)
    exact ⟨h1.os, h1.tape, h1.output, h1.size, fun i hi hn => h1.block i hi (fun e => hn (by subst e; exact hB))⟩
  refine ⟨_, cap, rfl, ⟨by simp; omega, fun i hi => ⟨g, 0, rfl, ?_⟩⟩, hfr⟩
  rw [World.cell?_setCells_in g _ 0 (w.drewN q) (fun j hj => ?_) i (by simp; omega)]
  · have hlen : i < (zs.take k ++ zs.drop (k + 1)).length := by simp; omega
    have e1 : (((zs.take k ++ zs.drop (k + 1)) ++ List.replicate (k + 1 - k) (0 : Int)).map (Value.int .i64))[i]? = some (.int .i64 ((zs.take k ++ zs.drop (k + 1)).getD i 0)) := by
      rw [List.map_append, List.getElem?_append_left (by simpa using hlen), List.getElem?_map, List.getElem?_eq_getElem hlen, List.getD_eq_getElem?_getD, List.getElem?_eq_getElem hlen]
      rfl
    exact (List.getElem?_eq_getElem _).symm.trans e1
  · have hj' : j < zs.length := by
      simp at hj
      omega
    have := hcell j hj'
    show ((w.drewN q).cell? ⟨g, 0 + j, none⟩).isSome = true
    rw [show (w.drewN q).cell? ⟨g, 0 + j, none⟩ = w.cell? ⟨g, 0 + j, none⟩ from rfl, this]
    rfl
theorem sumZ_app (a b : List Int) : sumZ (a ++ b) = sumZ a + sumZ b := by
  have key : ∀ (l : List Int) (x : Int), l.foldl (· + ·) x = x + l.foldl (· + ·) 0 := by
    intro l
    induction l with
    | nil => intro x; simp
    | cons y l ih => intro x; rw [List.foldl_cons, ih (x + y), List.foldl_cons, ih (0 + y)]; omega
  rw [sumZ, List.foldl_append, key]
  rfl
theorem without_sum (zs : List Int) (k : Nat) (hk : k < zs.length) (ha : allP zs = true) : sumZ (zs.take k ++ zs.drop (k + 1)) ≤ sumZ zs ∧ allP (zs.take k ++ zs.drop (k + 1)) = true ∧ (zs.take k ++ zs.drop (k + 1)).length = zs.length - 1 := by
  have h0 : zs = zs.take k ++ (zs[k] :: zs.drop (k + 1)) := by
    rw [← List.drop_eq_getElem_cons hk, List.take_append_drop]
  have hp : isP zs[k] = true := by
    rw [allP, List.all_eq_true] at ha
    exact ha _ (List.getElem_mem _)
  have hp0 := (isP_t.1 hp).1
  refine ⟨?_, ?_, by simp; omega⟩
  · have h1 : sumZ zs = sumZ (zs.take k) + (zs[k] + sumZ (zs.drop (k + 1))) := by
      conv => lhs; rw [h0]
      rw [sumZ_app, show (zs[k] :: zs.drop (k + 1)) = [zs[k]] ++ zs.drop (k + 1) from rfl, sumZ_app]
      simp [sumZ]
    rw [sumZ_app, h1]
    omega
  · rw [allP, List.all_eq_true] at ha ⊢
    intro x hx
    rcases List.mem_append.1 hx with h | h
    · exact ha x (List.mem_of_mem_take h)
    · exact ha x (List.mem_of_mem_drop h)
theorem rc_err (s t o : Int) (zs : List Int) (h : ¬ rcE s t o zs = 0) : rcB s t o zs = false := by
  unfold rcE at h
  unfold rcB
  cases h1 : isP s
  · rfl
  · cases h2 : isR t o
    · rfl
    · rw [if_pos ⟨h1, h2⟩] at h
      simp [h]
theorem rc_ok (s t o : Int) (zs : List Int) (h : rcE s t o zs = 0) : isP s = true ∧ isR t o = true ∧ smE zs = 0 ∧ zs.length ≤ 64 ∧ allP zs = true ∧ rcB s t o zs = decide (t * (o + sumZ zs) ≤ 1000 * s) := by
  unfold rcE at h
  split at h
  · rename_i hh
    rcases smE_cases zs with ⟨e0, hl, ha, ev⟩ | ⟨e0, ev⟩ | ⟨e0, ev⟩
    · exact ⟨hh.1, hh.2, e0, hl, ha, by simp [rcB, hh.1, hh.2, e0]⟩
    · omega
    · omega
  · omega
theorem rc_of (s t o : Int) (zs : List Int) (h1 : isP s = true) (h2 : isR t o = true) (hl : zs.length ≤ 64) (ha : allP zs = true) : rcE s t o zs = 0 ∧ rcB s t o zs = decide (t * (o + sumZ zs) ≤ 1000 * s) := by
  have e0 := (sm_good zs hl ha).2
  exact ⟨by simp [rcE, h1, h2, e0], by simp [rcB, h1, h2, e0]⟩
theorem cells_kept {B : Nat} {s t o : Int} {ao : Option Addr} {len cap b : Nat} (hb : b < B) (w0 w' : World) (h : Fr (over B) w0 w') (a : w0.cell? ⟨b, 0, none⟩ = some (.int .i64 s)) (b1 : w0.cell? ⟨b, 1, none⟩ = some (.int .i64 t)) (c : w0.cell? ⟨b, 2, none⟩ = some (.int .i64 o)) (d : w0.cell? ⟨b, 3, none⟩ = some (.slice ao len cap)) :
    w'.cell? ⟨b, 0, none⟩ = some (.int .i64 s) ∧ w'.cell? ⟨b, 1, none⟩ = some (.int .i64 t) ∧ w'.cell? ⟨b, 2, none⟩ = some (.int .i64 o) ∧ w'.cell? ⟨b, 3, none⟩ = some (.slice ao len cap) :=
  ⟨(h.cell (World.block_lt_of_cell? w0 _ a) (Nat.not_le.2 hb)).trans a, (h.cell (World.block_lt_of_cell? w0 _ b1) (Nat.not_le.2 hb)).trans b1, (h.cell (World.block_lt_of_cell? w0 _ c) (Nat.not_le.2 hb)).trans c, (h.cell (World.block_lt_of_cell? w0 _ d) (Nat.not_le.2 hb)).trans d⟩
set_option maxHeartbeats 4000000 in
theorem mono_big (s t o more wo : Int) (ao : Option Addr) (len cap : Nat) (w : World) (hd : Dec w) (hl : 64 < len) :
    Calls Tryd.prog 7 #[.agg #[.int .i64 s, .int .i64 t, .int .i64 o, .slice ao len cap], .int .i64 more, .int .u8 wo] w fun e w' => e = .returned (.bool true) ∧ Below w.heap.size w w' := by
  have hlI : (64 : Int) < (len : Int) := by omega
  have f0 := (Fr.refl no w).alloc (.cells #[.int .i64 s, .int .i64 t, .int .i64 o, .slice ao len cap] 30 (0, 0))
  have HW := Lib.hid f0
  have HD := Lib.hid (hd.kept f0 (fun h => h))
  clear f0 hd hl
  go_enter Tryd.func7, Tryd.ntmps7
  go_wp2_with fail
  refine (awake_any _ HD.out).mono ?_
  rintro e w1 ⟨rfl, f1⟩
  have hb := f1.blk (heap_alloc_new w _) (fun h => h)
  obtain ⟨c0, c1, c2, c3⟩ := four_cells hb
  have HF1 := Lib.hid (HW.out.noTrans f1)
  clear f1 hb
  go_wp2_with fail
  go_ret
  exact ⟨rfl, HF1.out.belowNone (Nat.le_refl _)⟩
set_option maxHeartbeats 8000000 in
theorem mono_err (s t o more wo : Int) (ao : Option Addr) (len cap : Nat) (zs : List Int) (w : World) (hd : Dec w) (hl : len ≤ 64) (hz : IntsIn w ao len zs)
    (r : Int) (hr : ¬ r = 0) (H21 : ∀ (ao' : Option Addr) (cap' : Nat) (w : World), IntsIn w ao' (len) (zs) → Calls Tryd.prog 21 #[.int .i64 (s), .int .i64 t, .int .i64 o, .slice ao' (len) cap'] w fun e w' => e = .returned (.tuple #[.bool false, .int .i64 r]) ∧ w' = w) :
    Calls Tryd.prog 7 #[.agg #[.int .i64 s, .int .i64 t, .int .i64 o, .slice ao len cap], .int .i64 more, .int .u8 wo] w fun e w' => e = .returned (.bool true) ∧ Below w.heap.size w w' := by
  have K21 := Lib.hid H21
  have hr' : (r == 0) = false := by rw [beq_eq_false_iff_ne]; exact hr
  clear H21
  have f0 := (Fr.refl no w).alloc (.cells #[.int .i64 s, .int .i64 t, .int .i64 o, .slice ao len cap] 30 (0, 0))
  have HW := Lib.hid f0
  have HD := Lib.hid (hd.kept f0 (fun h => h))
  have HZ := Lib.hid hz
  have HL := Lib.hid (show len ≤ 1000 by omega)
  have hlI : (len : Int) ≤ 64 := by omega
  clear f0 hd hl hz
  go_enter Tryd.func7, Tryd.ntmps7
  go_wp2_with fail
  refine (awake_any _ HD.out).mono ?_
  rintro e w1 ⟨rfl, f1⟩
  have hb := f1.blk (heap_alloc_new w _) (fun h => h)
  obtain ⟨c0, c1, c2, c3⟩ := four_cells hb
  have HF1 := Lib.hid (HW.out.noTrans f1)
  clear f1 hb
  have HS : ∀ w0 w' : World, Fr no w0 w' → w0.cell? ⟨w.heap.size, 0, none⟩ = some (.int .i64 s) → w0.cell? ⟨w.heap.size, 1, none⟩ = some (.int .i64 t) → w0.cell? ⟨w.heap.size, 2, none⟩ = some (.int .i64 o) → w0.cell? ⟨w.heap.size, 3, none⟩ = some (.slice ao len cap) →
      w'.cell? ⟨w.heap.size, 0, none⟩ = some (.int .i64 s) ∧ w'.cell? ⟨w.heap.size, 1, none⟩ = some (.int .i64 t) ∧ w'.cell? ⟨w.heap.size, 2, none⟩ = some (.int .i64 o) ∧ w'.cell? ⟨w.heap.size, 3, none⟩ = some (.slice ao len cap) :=
    fun w0 w' h a b c d => ⟨(h.cell (World.block_lt_of_cell? w0 _ a) (fun h => h)).trans a, (h.cell (World.block_lt_of_cell? w0 _ b) (fun h => h)).trans b, (h.cell (World.block_lt_of_cell? w0 _ c) (fun h => h)).trans c, (h.cell (World.block_lt_of_cell? w0 _ d) (fun h => h)).trans d⟩
  have KS := Lib.hid HS
  clear HS
  go_wp2_with fail
  go_region_held3 (fun w' => w'.cell? ⟨w.heap.size, 0, none⟩ = some (.int .i64 s) ∧ w'.cell? ⟨w.heap.size, 1, none⟩ = some (.int .i64 t) ∧ w'.cell? ⟨w.heap.size, 2, none⟩ = some (.int .i64 o) ∧ w'.cell? ⟨w.heap.size, 3, none⟩ = some (.slice ao len cap)) (go_keep)
    (first
      | (go_at_call 19; refine (clone_any ao len cap zs _ (HZ.out.kept HF1.out.drew) HL.out).mono ?_; rintro e w3 ⟨ae, ke, rfl, ze, fe⟩; obtain ⟨e0, e1, e2, e3⟩ := KS.out _ _ fe (by assumption) (by assumption) (by assumption) (by assumption))
      | (go_at_call 21; refine (K21.out ae ke _ ze).mono ?_; rintro e w4 ⟨rfl, rfl⟩))
  have HF4 := Lib.hid (HF1.out.drew.noTrans fe)
  clear fe ze c0 c1 c2 c3
  go_wp2_with fail
  go_ret
  exact ⟨rfl, HF4.out.belowNone (Nat.le_refl _)⟩
set_option maxHeartbeats 8000000 in
theorem mono_iffz (s t o more wo : Int) (ao : Option Addr) (len cap : Nat) (zs : List Int) (w : World) (hd : Dec w) (hl : len ≤ 64) (hz : IntsIn w ao len zs) (h0 : len = 0) (s0 : 0 ≤ s) (s1 : s ≤ 68719476736) (m0 : 0 ≤ more) (m1 : more ≤ 68719476736 - s)
    (H21 : ∀ (ao' : Option Addr) (cap' : Nat) (w : World), IntsIn w ao' (len) (zs) → Calls Tryd.prog 21 #[.int .i64 (s), .int .i64 t, .int .i64 o, .slice ao' (len) cap'] w fun e w' => e = .returned (.tuple #[.bool false, .int .i64 0]) ∧ w' = w) (H22 : ∀ (ao' : Option Addr) (cap' : Nat) (w : World), IntsIn w ao' (len) (zs) → Calls Tryd.prog 21 #[.int .i64 (s + more), .int .i64 t, .int .i64 o, .slice ao' (len) cap'] w fun e w' => e = .returned (.tuple #[.bool false, .int .i64 0]) ∧ w' = w)  :
    Calls Tryd.prog 7 #[.agg #[.int .i64 s, .int .i64 t, .int .i64 o, .slice ao len cap], .int .i64 more, .int .u8 wo] w fun e w' => e = .returned (.bool true) ∧ Below w.heap.size w w' := by
  have K21 := Lib.hid H21
  have K22 := Lib.hid H22
  clear H21 H22 
  have f0 := (Fr.refl no w).alloc (.cells #[.int .i64 s, .int .i64 t, .int .i64 o, .slice ao len cap] 30 (0, 0))
  have HW := Lib.hid f0
  have HD := Lib.hid (hd.kept f0 (fun h => h))
  have HZ := Lib.hid hz
  have HL := Lib.hid (show len ≤ 1000 by omega)
  have hlI : (len : Int) ≤ 64 := by omega
  have hw1 : IntKind.i64.wrap (68719476736 - s) = 68719476736 - s := IntWalk.i64_in _ (by omega)
  have hw2 : IntKind.i64.wrap (s + more) = s + more := IntWalk.i64_in _ (by omega)
  have hlz : (len : Int) = 0 := by omega
  clear f0 hd hl hz h0
  go_enter Tryd.func7, Tryd.ntmps7
  go_wp2_with fail
  refine (awake_any _ HD.out).mono ?_
  rintro e w1 ⟨rfl, f1⟩
  have hb := f1.blk (heap_alloc_new w _) (fun h => h)
  obtain ⟨c0, c1, c2, c3⟩ := four_cells hb
  have HF1 := Lib.hid (HW.out.noTrans f1)
  clear f1 hb
  have HS : ∀ w0 w' : World, Fr no w0 w' → w0.cell? ⟨w.heap.size, 0, none⟩ = some (.int .i64 s) → w0.cell? ⟨w.heap.size, 1, none⟩ = some (.int .i64 t) → w0.cell? ⟨w.heap.size, 2, none⟩ = some (.int .i64 o) → w0.cell? ⟨w.heap.size, 3, none⟩ = some (.slice ao len cap) →
      w'.cell? ⟨w.heap.size, 0, none⟩ = some (.int .i64 s) ∧ w'.cell? ⟨w.heap.size, 1, none⟩ = some (.int .i64 t) ∧ w'.cell? ⟨w.heap.size, 2, none⟩ = some (.int .i64 o) ∧ w'.cell? ⟨w.heap.size, 3, none⟩ = some (.slice ao len cap) :=
    fun w0 w' h a b c d => ⟨(h.cell (World.block_lt_of_cell? w0 _ a) (fun h => h)).trans a, (h.cell (World.block_lt_of_cell? w0 _ b) (fun h => h)).trans b, (h.cell (World.block_lt_of_cell? w0 _ c) (fun h => h)).trans c, (h.cell (World.block_lt_of_cell? w0 _ d) (fun h => h)).trans d⟩
  have KS := Lib.hid HS
  clear HS
  go_wp2_with fail
  go_region_held3 (fun w' => w'.cell? ⟨w.heap.size, 0, none⟩ = some (.int .i64 s) ∧ w'.cell? ⟨w.heap.size, 1, none⟩ = some (.int .i64 t) ∧ w'.cell? ⟨w.heap.size, 2, none⟩ = some (.int .i64 o) ∧ w'.cell? ⟨w.heap.size, 3, none⟩ = some (.slice ao len cap)) (go_keep)
    (first
      | (go_at_call 19; refine (clone_any ao len cap zs _ (HZ.out.kept HF1.out.drew) HL.out).mono ?_; rintro e w3 ⟨ae, ke, rfl, ze, fe⟩; obtain ⟨e0, e1, e2, e3⟩ := KS.out _ _ fe (by assumption) (by assumption) (by assumption) (by assumption))
      | (go_at_call 21; refine (K21.out ae ke _ ze).mono ?_; rintro e w4 ⟨rfl, rfl⟩))
  have HF4 := Lib.hid (HF1.out.drew.noTrans fe)
  clear fe ze c0 c1 c2 c3
  go_wp2_with fail
  go_region_held3 (fun w' => w'.cell? ⟨w.heap.size, 0, none⟩ = some (.int .i64 s) ∧ w'.cell? ⟨w.heap.size, 1, none⟩ = some (.int .i64 t) ∧ w'.cell? ⟨w.heap.size, 2, none⟩ = some (.int .i64 o) ∧ w'.cell? ⟨w.heap.size, 3, none⟩ = some (.slice ao len cap)) (go_keep)
    (first
      | (go_at_call 19; refine (clone_any ao len cap zs _ (HZ.out.kept HF4.out.drew) HL.out).mono ?_; rintro e w3 ⟨ag, kg, rfl, zg, fg⟩; obtain ⟨g0, g1, g2, g3⟩ := KS.out _ _ fg (by assumption) (by assumption) (by assumption) (by assumption))
      | (go_at_call 21; refine (K22.out ag kg _ zg).mono ?_; rintro e w4 ⟨rfl, rfl⟩))
  have HF5 := Lib.hid (HF4.out.drew.noTrans fg)
  clear fg zg e0 e1 e2 e3
  go_wp2_with fail
  go_ret
  exact ⟨rfl, HF5.out.belowNone (Nat.le_refl _)⟩
set_option maxHeartbeats 8000000 in
theorem mono_ifff (s t o more wo : Int) (ao : Option Addr) (len cap : Nat) (zs : List Int) (w : World) (hd : Dec w) (hl : len ≤ 64) (hz : IntsIn w ao len zs) (h0 : 0 < len) (k : Nat) (hk : k < len) (hkw : wo.tmod (len : Int) = (k : Int)) (hwo : 0 ≤ wo ∧ wo ≤ 255) (s0 : 0 ≤ s) (s1 : s ≤ 68719476736) (m0 : 0 ≤ more) (m1 : more ≤ 68719476736 - s)
    (H21 : ∀ (ao' : Option Addr) (cap' : Nat) (w : World), IntsIn w ao' (len) (zs) → Calls Tryd.prog 21 #[.int .i64 (s), .int .i64 t, .int .i64 o, .slice ao' (len) cap'] w fun e w' => e = .returned (.tuple #[.bool false, .int .i64 0]) ∧ w' = w) (H22 : ∀ (ao' : Option Addr) (cap' : Nat) (w : World), IntsIn w ao' (len) (zs) → Calls Tryd.prog 21 #[.int .i64 (s + more), .int .i64 t, .int .i64 o, .slice ao' (len) cap'] w fun e w' => e = .returned (.tuple #[.bool false, .int .i64 0]) ∧ w' = w) (H23 : ∀ (ao' : Option Addr) (cap' : Nat) (w : World), IntsIn w ao' (len - 1) (zs.take k ++ zs.drop (k + 1)) → Calls Tryd.prog 21 #[.int .i64 (s), .int .i64 t, .int .i64 o, .slice ao' (len - 1) cap'] w fun e w' => e = .returned (.tuple #[.bool false, .int .i64 0]) ∧ w' = w) :
    Calls Tryd.prog 7 #[.agg #[.int .i64 s, .int .i64 t, .int .i64 o, .slice ao len cap], .int .i64 more, .int .u8 wo] w fun e w' => e = .returned (.bool true) ∧ Below w.heap.size w w' := by
  have K21 := Lib.hid H21
  have K22 := Lib.hid H22
  have K23 := Lib.hid H23
  clear H21 H22 H23
  have f0 := (Fr.refl no w).alloc (.cells #[.int .i64 s, .int .i64 t, .int .i64 o, .slice ao len cap] 30 (0, 0))
  have HW := Lib.hid f0
  have HD := Lib.hid (hd.kept f0 (fun h => h))
  have HZ := Lib.hid hz
  have HL := Lib.hid (show len ≤ 1000 by omega)
  have hlI : (len : Int) ≤ 64 := by omega
  have HP := Lib.hid h0
  have HK := Lib.hid hk
  have hk1 : IntKind.i64.wrap ((k : Int) + 1) = (k : Int) + 1 := IntWalk.i64_in _ (by omega)
  have hlp : (0 : Int) < (len : Int) := by omega
  have hw1 : IntKind.i64.wrap (68719476736 - s) = 68719476736 - s := IntWalk.i64_in _ (by omega)
  have hw2 : IntKind.i64.wrap (s + more) = s + more := IntWalk.i64_in _ (by omega)
  clear f0 hd hl hz h0 hk
  go_enter Tryd.func7, Tryd.ntmps7
  go_wp2_with fail
  refine (awake_any _ HD.out).mono ?_
  rintro e w1 ⟨rfl, f1⟩
  have hb := f1.blk (heap_alloc_new w _) (fun h => h)
  obtain ⟨c0, c1, c2, c3⟩ := four_cells hb
  have HF1 := Lib.hid (HW.out.noTrans f1)
  clear f1 hb
  have HS : ∀ w0 w' : World, Fr no w0 w' → w0.cell? ⟨w.heap.size, 0, none⟩ = some (.int .i64 s) → w0.cell? ⟨w.heap.size, 1, none⟩ = some (.int .i64 t) → w0.cell? ⟨w.heap.size, 2, none⟩ = some (.int .i64 o) → w0.cell? ⟨w.heap.size, 3, none⟩ = some (.slice ao len cap) →
      w'.cell? ⟨w.heap.size, 0, none⟩ = some (.int .i64 s) ∧ w'.cell? ⟨w.heap.size, 1, none⟩ = some (.int .i64 t) ∧ w'.cell? ⟨w.heap.size, 2, none⟩ = some (.int .i64 o) ∧ w'.cell? ⟨w.heap.size, 3, none⟩ = some (.slice ao len cap) :=
    fun w0 w' h a b c d => ⟨(h.cell (World.block_lt_of_cell? w0 _ a) (fun h => h)).trans a, (h.cell (World.block_lt_of_cell? w0 _ b) (fun h => h)).trans b, (h.cell (World.block_lt_of_cell? w0 _ c) (fun h => h)).trans c, (h.cell (World.block_lt_of_cell? w0 _ d) (fun h => h)).trans d⟩
  have KS := Lib.hid HS
  clear HS
  go_wp2_with fail
  go_region_held3 (fun w' => w'.cell? ⟨w.heap.size, 0, none⟩ = some (.int .i64 s) ∧ w'.cell? ⟨w.heap.size, 1, none⟩ = some (.int .i64 t) ∧ w'.cell? ⟨w.heap.size, 2, none⟩ = some (.int .i64 o) ∧ w'.cell? ⟨w.heap.size, 3, none⟩ = some (.slice ao len cap)) (go_keep)
    (first
      | (go_at_call 19; refine (clone_any ao len cap zs _ (HZ.out.kept HF1.out.drew) HL.out).mono ?_; rintro e w3 ⟨ae, ke, rfl, ze, fe⟩; obtain ⟨e0, e1, e2, e3⟩ := KS.out _ _ fe (by assumption) (by assumption) (by assumption) (by assumption))
      | (go_at_call 21; refine (K21.out ae ke _ ze).mono ?_; rintro e w4 ⟨rfl, rfl⟩))
  have HF4 := Lib.hid (HF1.out.drew.noTrans fe)
  clear fe ze c0 c1 c2 c3
  go_wp2_with fail
  go_region_held3 (fun w' => w'.cell? ⟨w.heap.size, 0, none⟩ = some (.int .i64 s) ∧ w'.cell? ⟨w.heap.size, 1, none⟩ = some (.int .i64 t) ∧ w'.cell? ⟨w.heap.size, 2, none⟩ = some (.int .i64 o) ∧ w'.cell? ⟨w.heap.size, 3, none⟩ = some (.slice ao len cap)) (go_keep)
    (first
      | (go_at_call 19; refine (clone_any ao len cap zs _ (HZ.out.kept HF4.out.drew) HL.out).mono ?_; rintro e w3 ⟨ag, kg, rfl, zg, fg⟩; obtain ⟨g0, g1, g2, g3⟩ := KS.out _ _ fg (by assumption) (by assumption) (by assumption) (by assumption))
      | (go_at_call 21; refine (K22.out ag kg _ zg).mono ?_; rintro e w4 ⟨rfl, rfl⟩))
  have HF5 := Lib.hid (HF4.out.drew.noTrans fg)
  clear fg zg e0 e1 e2 e3
  go_wp2_with fail
  go_region_held3 (fun w' => w'.cell? ⟨w.heap.size, 0, none⟩ = some (.int .i64 s) ∧ w'.cell? ⟨w.heap.size, 1, none⟩ = some (.int .i64 t) ∧ w'.cell? ⟨w.heap.size, 2, none⟩ = some (.int .i64 o) ∧ w'.cell? ⟨w.heap.size, 3, none⟩ = some (.slice ao len cap)) (go_keep)
    (first
      | (go_at_call 19; refine (clone_own ao len cap zs _ (HZ.out.kept HF5.out.drew) HL.out HP.out).mono ?_; rintro e w3 ⟨gb, gk, rfl, ho, f9⟩; obtain ⟨i0, i1, i2, i3⟩ := KS.out _ _ f9 (by assumption) (by assumption) (by assumption) (by assumption))
      | (go_at_call 31; refine (delete_own gb len gk k _ _ zs _ ho HK.out (by first | rfl | exact hk1)).mono ?_; rintro e w4 ⟨a9, k9, rfl, z9, f10⟩; obtain ⟨j0, j1, j2, j3⟩ := cells_kept (World.block_lt_of_cell? _ _ (show _ = some (Value.int .i64 s) by assumption)) _ _ f10 (by assumption) (by assumption) (by assumption) (by assumption))
      | (go_at_call 21; refine (K23.out a9 k9 _ z9).mono ?_; rintro e w5 ⟨rfl, rfl⟩))
  have HF6 := Lib.hid (HF5.out.drew.noTrans f9)
  go_wp2_with fail
  go_ret
  exact ⟨rfl, ((HF6.out.mono (S' := over w.heap.size) (fun _ _ h => h.elim)).trans f10 (fun i hi hs => Nat.le_trans HF5.out.size hs)).below (fun k h => h) (Nat.le_refl _)⟩
set_option maxHeartbeats 8000000 in
theorem mono_ifft (s t o more wo : Int) (ao : Option Addr) (len cap : Nat) (zs : List Int) (w : World) (hd : Dec w) (hl : len ≤ 64) (hz : IntsIn w ao len zs) (h0 : 0 < len) (k : Nat) (hk : k < len) (hkw : wo.tmod (len : Int) = (k : Int)) (hwo : 0 ≤ wo ∧ wo ≤ 255) (s0 : 0 ≤ s) (s1 : s ≤ 68719476736) (m0 : 0 ≤ more) (m1 : more ≤ 68719476736 - s)
    (H21 : ∀ (ao' : Option Addr) (cap' : Nat) (w : World), IntsIn w ao' (len) (zs) → Calls Tryd.prog 21 #[.int .i64 (s), .int .i64 t, .int .i64 o, .slice ao' (len) cap'] w fun e w' => e = .returned (.tuple #[.bool false, .int .i64 0]) ∧ w' = w) (H22 : ∀ (ao' : Option Addr) (cap' : Nat) (w : World), IntsIn w ao' (len) (zs) → Calls Tryd.prog 21 #[.int .i64 (s + more), .int .i64 t, .int .i64 o, .slice ao' (len) cap'] w fun e w' => e = .returned (.tuple #[.bool false, .int .i64 0]) ∧ w' = w) (H23 : ∀ (ao' : Option Addr) (cap' : Nat) (w : World), IntsIn w ao' (len - 1) (zs.take k ++ zs.drop (k + 1)) → Calls Tryd.prog 21 #[.int .i64 (s), .int .i64 t, .int .i64 o, .slice ao' (len - 1) cap'] w fun e w' => e = .returned (.tuple #[.bool true, .int .i64 0]) ∧ w' = w) :
    Calls Tryd.prog 7 #[.agg #[.int .i64 s, .int .i64 t, .int .i64 o, .slice ao len cap], .int .i64 more, .int .u8 wo] w fun e w' => e = .returned (.bool true) ∧ Below w.heap.size w w' := by
  have K21 := Lib.hid H21
  have K22 := Lib.hid H22
  have K23 := Lib.hid H23
  clear H21 H22 H23
  have f0 := (Fr.refl no w).alloc (.cells #[.int .i64 s, .int .i64 t, .int .i64 o, .slice ao len cap] 30 (0, 0))
  have HW := Lib.hid f0
  have HD := Lib.hid (hd.kept f0 (fun h => h))
  have HZ := Lib.hid hz
  have HL := Lib.hid (show len ≤ 1000 by omega)
  have hlI : (len : Int) ≤ 64 := by omega
  have HP := Lib.hid h0
  have HK := Lib.hid hk
  have hk1 : IntKind.i64.wrap ((k : Int) + 1) = (k : Int) + 1 := IntWalk.i64_in _ (by omega)
  have hlp : (0 : Int) < (len : Int) := by omega
  have hw1 : IntKind.i64.wrap (68719476736 - s) = 68719476736 - s := IntWalk.i64_in _ (by omega)
  have hw2 : IntKind.i64.wrap (s + more) = s + more := IntWalk.i64_in _ (by omega)
  clear f0 hd hl hz h0 hk
  go_enter Tryd.func7, Tryd.ntmps7
  go_wp2_with fail
  refine (awake_any _ HD.out).mono ?_
  rintro e w1 ⟨rfl, f1⟩
  have hb := f1.blk (heap_alloc_new w _) (fun h => h)
  obtain ⟨c0, c1, c2, c3⟩ := four_cells hb
  have HF1 := Lib.hid (HW.out.noTrans f1)
  clear f1 hb
  have HS : ∀ w0 w' : World, Fr no w0 w' → w0.cell? ⟨w.heap.size, 0, none⟩ = some (.int .i64 s) → w0.cell? ⟨w.heap.size, 1, none⟩ = some (.int .i64 t) → w0.cell? ⟨w.heap.size, 2, none⟩ = some (.int .i64 o) → w0.cell? ⟨w.heap.size, 3, none⟩ = some (.slice ao len cap) →
      w'.cell? ⟨w.heap.size, 0, none⟩ = some (.int .i64 s) ∧ w'.cell? ⟨w.heap.size, 1, none⟩ = some (.int .i64 t) ∧ w'.cell? ⟨w.heap.size, 2, none⟩ = some (.int .i64 o) ∧ w'.cell? ⟨w.heap.size, 3, none⟩ = some (.slice ao len cap) :=
    fun w0 w' h a b c d => ⟨(h.cell (World.block_lt_of_cell? w0 _ a) (fun h => h)).trans a, (h.cell (World.block_lt_of_cell? w0 _ b) (fun h => h)).trans b, (h.cell (World.block_lt_of_cell? w0 _ c) (fun h => h)).trans c, (h.cell (World.block_lt_of_cell? w0 _ d) (fun h => h)).trans d⟩
  have KS := Lib.hid HS
  clear HS
  go_wp2_with fail
  go_region_held3 (fun w' => w'.cell? ⟨w.heap.size, 0, none⟩ = some (.int .i64 s) ∧ w'.cell? ⟨w.heap.size, 1, none⟩ = some (.int .i64 t) ∧ w'.cell? ⟨w.heap.size, 2, none⟩ = some (.int .i64 o) ∧ w'.cell? ⟨w.heap.size, 3, none⟩ = some (.slice ao len cap)) (go_keep)
    (first
      | (go_at_call 19; refine (clone_any ao len cap zs _ (HZ.out.kept HF1.out.drew) HL.out).mono ?_; rintro e w3 ⟨ae, ke, rfl, ze, fe⟩; obtain ⟨e0, e1, e2, e3⟩ := KS.out _ _ fe (by assumption) (by assumption) (by assumption) (by assumption))
      | (go_at_call 21; refine (K21.out ae ke _ ze).mono ?_; rintro e w4 ⟨rfl, rfl⟩))
  have HF4 := Lib.hid (HF1.out.drew.noTrans fe)
  clear fe ze c0 c1 c2 c3
  go_wp2_with fail
  go_region_held3 (fun w' => w'.cell? ⟨w.heap.size, 0, none⟩ = some (.int .i64 s) ∧ w'.cell? ⟨w.heap.size, 1, none⟩ = some (.int .i64 t) ∧ w'.cell? ⟨w.heap.size, 2, none⟩ = some (.int .i64 o) ∧ w'.cell? ⟨w.heap.size, 3, none⟩ = some (.slice ao len cap)) (go_keep)
    (first
      | (go_at_call 19; refine (clone_any ao len cap zs _ (HZ.out.kept HF4.out.drew) HL.out).mono ?_; rintro e w3 ⟨ag, kg, rfl, zg, fg⟩; obtain ⟨g0, g1, g2, g3⟩ := KS.out _ _ fg (by assumption) (by assumption) (by assumption) (by assumption))
      | (go_at_call 21; refine (K22.out ag kg _ zg).mono ?_; rintro e w4 ⟨rfl, rfl⟩))
  have HF5 := Lib.hid (HF4.out.drew.noTrans fg)
  clear fg zg e0 e1 e2 e3
  go_wp2_with fail
  go_region_held3 (fun w' => w'.cell? ⟨w.heap.size, 0, none⟩ = some (.int .i64 s) ∧ w'.cell? ⟨w.heap.size, 1, none⟩ = some (.int .i64 t) ∧ w'.cell? ⟨w.heap.size, 2, none⟩ = some (.int .i64 o) ∧ w'.cell? ⟨w.heap.size, 3, none⟩ = some (.slice ao len cap)) (go_keep)
    (first
      | (go_at_call 19; refine (clone_own ao len cap zs _ (HZ.out.kept HF5.out.drew) HL.out HP.out).mono ?_; rintro e w3 ⟨gb, gk, rfl, ho, f9⟩; obtain ⟨i0, i1, i2, i3⟩ := KS.out _ _ f9 (by assumption) (by assumption) (by assumption) (by assumption))
      | (go_at_call 31; refine (delete_own gb len gk k _ _ zs _ ho HK.out (by first | rfl | exact hk1)).mono ?_; rintro e w4 ⟨a9, k9, rfl, z9, f10⟩; obtain ⟨j0, j1, j2, j3⟩ := cells_kept (World.block_lt_of_cell? _ _ (show _ = some (Value.int .i64 s) by assumption)) _ _ f10 (by assumption) (by assumption) (by assumption) (by assumption))
      | (go_at_call 21; refine (K23.out a9 k9 _ z9).mono ?_; rintro e w5 ⟨rfl, rfl⟩))
  have HF6 := Lib.hid (HF5.out.drew.noTrans f9)
  go_wp2_with fail
  go_ret
  exact ⟨rfl, ((HF6.out.mono (S' := over w.heap.size) (fun _ _ h => h.elim)).trans f10 (fun i hi hs => Nat.le_trans HF5.out.size hs)).below (fun k h => h) (Nat.le_refl _)⟩
set_option maxHeartbeats 8000000 in
theorem mono_iftz (s t o more wo : Int) (ao : Option Addr) (len cap : Nat) (zs : List Int) (w : World) (hd : Dec w) (hl : len ≤ 64) (hz : IntsIn w ao len zs) (h0 : len = 0) (s0 : 0 ≤ s) (s1 : s ≤ 68719476736) (m0 : 0 ≤ more) (m1 : more ≤ 68719476736 - s)
    (H21 : ∀ (ao' : Option Addr) (cap' : Nat) (w : World), IntsIn w ao' (len) (zs) → Calls Tryd.prog 21 #[.int .i64 (s), .int .i64 t, .int .i64 o, .slice ao' (len) cap'] w fun e w' => e = .returned (.tuple #[.bool false, .int .i64 0]) ∧ w' = w) (H22 : ∀ (ao' : Option Addr) (cap' : Nat) (w : World), IntsIn w ao' (len) (zs) → Calls Tryd.prog 21 #[.int .i64 (s + more), .int .i64 t, .int .i64 o, .slice ao' (len) cap'] w fun e w' => e = .returned (.tuple #[.bool true, .int .i64 0]) ∧ w' = w)  :
    Calls Tryd.prog 7 #[.agg #[.int .i64 s, .int .i64 t, .int .i64 o, .slice ao len cap], .int .i64 more, .int .u8 wo] w fun e w' => e = .returned (.bool true) ∧ Below w.heap.size w w' := by
  have K21 := Lib.hid H21
  have K22 := Lib.hid H22
  clear H21 H22 
  have f0 := (Fr.refl no w).alloc (.cells #[.int .i64 s, .int .i64 t, .int .i64 o, .slice ao len cap] 30 (0, 0))
  have HW := Lib.hid f0
  have HD := Lib.hid (hd.kept f0 (fun h => h))
  have HZ := Lib.hid hz
  have HL := Lib.hid (show len ≤ 1000 by omega)
  have hlI : (len : Int) ≤ 64 := by omega
  have hw1 : IntKind.i64.wrap (68719476736 - s) = 68719476736 - s := IntWalk.i64_in _ (by omega)
  have hw2 : IntKind.i64.wrap (s + more) = s + more := IntWalk.i64_in _ (by omega)
  have hlz : (len : Int) = 0 := by omega
  clear f0 hd hl hz h0
  go_enter Tryd.func7, Tryd.ntmps7
  go_wp2_with fail
  refine (awake_any _ HD.out).mono ?_
  rintro e w1 ⟨rfl, f1⟩
  have hb := f1.blk (heap_alloc_new w _) (fun h => h)
  obtain ⟨c0, c1, c2, c3⟩ := four_cells hb
  have HF1 := Lib.hid (HW.out.noTrans f1)
  clear f1 hb
  have HS : ∀ w0 w' : World, Fr no w0 w' → w0.cell? ⟨w.heap.size, 0, none⟩ = some (.int .i64 s) → w0.cell? ⟨w.heap.size, 1, none⟩ = some (.int .i64 t) → w0.cell? ⟨w.heap.size, 2, none⟩ = some (.int .i64 o) → w0.cell? ⟨w.heap.size, 3, none⟩ = some (.slice ao len cap) →
      w'.cell? ⟨w.heap.size, 0, none⟩ = some (.int .i64 s) ∧ w'.cell? ⟨w.heap.size, 1, none⟩ = some (.int .i64 t) ∧ w'.cell? ⟨w.heap.size, 2, none⟩ = some (.int .i64 o) ∧ w'.cell? ⟨w.heap.size, 3, none⟩ = some (.slice ao len cap) :=
    fun w0 w' h a b c d => ⟨(h.cell (World.block_lt_of_cell? w0 _ a) (fun h => h)).trans a, (h.cell (World.block_lt_of_cell? w0 _ b) (fun h => h)).trans b, (h.cell (World.block_lt_of_cell? w0 _ c) (fun h => h)).trans c, (h.cell (World.block_lt_of_cell? w0 _ d) (fun h => h)).trans d⟩
  have KS := Lib.hid HS
  clear HS
  go_wp2_with fail
  go_region_held3 (fun w' => w'.cell? ⟨w.heap.size, 0, none⟩ = some (.int .i64 s) ∧ w'.cell? ⟨w.heap.size, 1, none⟩ = some (.int .i64 t) ∧ w'.cell? ⟨w.heap.size, 2, none⟩ = some (.int .i64 o) ∧ w'.cell? ⟨w.heap.size, 3, none⟩ = some (.slice ao len cap)) (go_keep)
    (first
      | (go_at_call 19; refine (clone_any ao len cap zs _ (HZ.out.kept HF1.out.drew) HL.out).mono ?_; rintro e w3 ⟨ae, ke, rfl, ze, fe⟩; obtain ⟨e0, e1, e2, e3⟩ := KS.out _ _ fe (by assumption) (by assumption) (by assumption) (by assumption))
      | (go_at_call 21; refine (K21.out ae ke _ ze).mono ?_; rintro e w4 ⟨rfl, rfl⟩))
  have HF4 := Lib.hid (HF1.out.drew.noTrans fe)
  clear fe ze c0 c1 c2 c3
  go_wp2_with fail
  go_region_held3 (fun w' => w'.cell? ⟨w.heap.size, 0, none⟩ = some (.int .i64 s) ∧ w'.cell? ⟨w.heap.size, 1, none⟩ = some (.int .i64 t) ∧ w'.cell? ⟨w.heap.size, 2, none⟩ = some (.int .i64 o) ∧ w'.cell? ⟨w.heap.size, 3, none⟩ = some (.slice ao len cap)) (go_keep)
    (first
      | (go_at_call 19; refine (clone_any ao len cap zs _ (HZ.out.kept HF4.out.drew) HL.out).mono ?_; rintro e w3 ⟨ag, kg, rfl, zg, fg⟩; obtain ⟨g0, g1, g2, g3⟩ := KS.out _ _ fg (by assumption) (by assumption) (by assumption) (by assumption))
      | (go_at_call 21; refine (K22.out ag kg _ zg).mono ?_; rintro e w4 ⟨rfl, rfl⟩))
  have HF5 := Lib.hid (HF4.out.drew.noTrans fg)
  clear fg zg e0 e1 e2 e3
  go_wp2_with fail
  go_ret
  exact ⟨rfl, HF5.out.belowNone (Nat.le_refl _)⟩
set_option maxHeartbeats 8000000 in
theorem mono_iftf (s t o more wo : Int) (ao : Option Addr) (len cap : Nat) (zs : List Int) (w : World) (hd : Dec w) (hl : len ≤ 64) (hz : IntsIn w ao len zs) (h0 : 0 < len) (k : Nat) (hk : k < len) (hkw : wo.tmod (len : Int) = (k : Int)) (hwo : 0 ≤ wo ∧ wo ≤ 255) (s0 : 0 ≤ s) (s1 : s ≤ 68719476736) (m0 : 0 ≤ more) (m1 : more ≤ 68719476736 - s)
    (H21 : ∀ (ao' : Option Addr) (cap' : Nat) (w : World), IntsIn w ao' (len) (zs) → Calls Tryd.prog 21 #[.int .i64 (s), .int .i64 t, .int .i64 o, .slice ao' (len) cap'] w fun e w' => e = .returned (.tuple #[.bool false, .int .i64 0]) ∧ w' = w) (H22 : ∀ (ao' : Option Addr) (cap' : Nat) (w : World), IntsIn w ao' (len) (zs) → Calls Tryd.prog 21 #[.int .i64 (s + more), .int .i64 t, .int .i64 o, .slice ao' (len) cap'] w fun e w' => e = .returned (.tuple #[.bool true, .int .i64 0]) ∧ w' = w) (H23 : ∀ (ao' : Option Addr) (cap' : Nat) (w : World), IntsIn w ao' (len - 1) (zs.take k ++ zs.drop (k + 1)) → Calls Tryd.prog 21 #[.int .i64 (s), .int .i64 t, .int .i64 o, .slice ao' (len - 1) cap'] w fun e w' => e = .returned (.tuple #[.bool false, .int .i64 0]) ∧ w' = w) :
    Calls Tryd.prog 7 #[.agg #[.int .i64 s, .int .i64 t, .int .i64 o, .slice ao len cap], .int .i64 more, .int .u8 wo] w fun e w' => e = .returned (.bool true) ∧ Below w.heap.size w w' := by
  have K21 := Lib.hid H21
  have K22 := Lib.hid H22
  have K23 := Lib.hid H23
  clear H21 H22 H23
  have f0 := (Fr.refl no w).alloc (.cells #[.int .i64 s, .int .i64 t, .int .i64 o, .slice ao len cap] 30 (0, 0))
  have HW := Lib.hid f0
  have HD := Lib.hid (hd.kept f0 (fun h => h))
  have HZ := Lib.hid hz
  have HL := Lib.hid (show len ≤ 1000 by omega)
  have hlI : (len : Int) ≤ 64 := by omega
  have HP := Lib.hid h0
  have HK := Lib.hid hk
  have hk1 : IntKind.i64.wrap ((k : Int) + 1) = (k : Int) + 1 := IntWalk.i64_in _ (by omega)
  have hlp : (0 : Int) < (len : Int) := by omega
  have hw1 : IntKind.i64.wrap (68719476736 - s) = 68719476736 - s := IntWalk.i64_in _ (by omega)
  have hw2 : IntKind.i64.wrap (s + more) = s + more := IntWalk.i64_in _ (by omega)
  clear f0 hd hl hz h0 hk
  go_enter Tryd.func7, Tryd.ntmps7
  go_wp2_with fail
  refine (awake_any _ HD.out).mono ?_
  rintro e w1 ⟨rfl, f1⟩
  have hb := f1.blk (heap_alloc_new w _) (fun h => h)
  obtain ⟨c0, c1, c2, c3⟩ := four_cells hb
  have HF1 := Lib.hid (HW.out.noTrans f1)
  clear f1 hb
  have HS : ∀ w0 w' : World, Fr no w0 w' → w0.cell? ⟨w.heap.size, 0, none⟩ = some (.int .i64 s) → w0.cell? ⟨w.heap.size, 1, none⟩ = some (.int .i64 t) → w0.cell? ⟨w.heap.size, 2, none⟩ = some (.int .i64 o) → w0.cell? ⟨w.heap.size, 3, none⟩ = some (.slice ao len cap) →
      w'.cell? ⟨w.heap.size, 0, none⟩ = some (.int .i64 s) ∧ w'.cell? ⟨w.heap.size, 1, none⟩ = some (.int .i64 t) ∧ w'.cell? ⟨w.heap.size, 2, none⟩ = some (.int .i64 o) ∧ w'.cell? ⟨w.heap.size, 3, none⟩ = some (.slice ao len cap) :=
    fun w0 w' h a b c d => ⟨(h.cell (World.block_lt_of_cell? w0 _ a) (fun h => h)).trans a, (h.cell (World.block_lt_of_cell? w0 _ b) (fun h => h)).trans b, (h.cell (World.block_lt_of_cell? w0 _ c) (fun h => h)).trans c, (h.cell (World.block_lt_of_cell? w0 _ d) (fun h => h)).trans d⟩
  have KS := Lib.hid HS
  clear HS
  go_wp2_with fail
  go_region_held3 (fun w' => w'.cell? ⟨w.heap.size, 0, none⟩ = some (.int .i64 s) ∧ w'.cell? ⟨w.heap.size, 1, none⟩ = some (.int .i64 t) ∧ w'.cell? ⟨w.heap.size, 2, none⟩ = some (.int .i64 o) ∧ w'.cell? ⟨w.heap.size, 3, none⟩ = some (.slice ao len cap)) (go_keep)
    (first
      | (go_at_call 19; refine (clone_any ao len cap zs _ (HZ.out.kept HF1.out.drew) HL.out).mono ?_; rintro e w3 ⟨ae, ke, rfl, ze, fe⟩; obtain ⟨e0, e1, e2, e3⟩ := KS.out _ _ fe (by assumption) (by assumption) (by assumption) (by assumption))
      | (go_at_call 21; refine (K21.out ae ke _ ze).mono ?_; rintro e w4 ⟨rfl, rfl⟩))
  have HF4 := Lib.hid (HF1.out.drew.noTrans fe)
  clear fe ze c0 c1 c2 c3
  go_wp2_with fail
  go_region_held3 (fun w' => w'.cell? ⟨w.heap.size, 0, none⟩ = some (.int .i64 s) ∧ w'.cell? ⟨w.heap.size, 1, none⟩ = some (.int .i64 t) ∧ w'.cell? ⟨w.heap.size, 2, none⟩ = some (.int .i64 o) ∧ w'.cell? ⟨w.heap.size, 3, none⟩ = some (.slice ao len cap)) (go_keep)
    (first
      | (go_at_call 19; refine (clone_any ao len cap zs _ (HZ.out.kept HF4.out.drew) HL.out).mono ?_; rintro e w3 ⟨ag, kg, rfl, zg, fg⟩; obtain ⟨g0, g1, g2, g3⟩ := KS.out _ _ fg (by assumption) (by assumption) (by assumption) (by assumption))
      | (go_at_call 21; refine (K22.out ag kg _ zg).mono ?_; rintro e w4 ⟨rfl, rfl⟩))
  have HF5 := Lib.hid (HF4.out.drew.noTrans fg)
  clear fg zg e0 e1 e2 e3
  go_wp2_with fail
  go_region_held3 (fun w' => w'.cell? ⟨w.heap.size, 0, none⟩ = some (.int .i64 s) ∧ w'.cell? ⟨w.heap.size, 1, none⟩ = some (.int .i64 t) ∧ w'.cell? ⟨w.heap.size, 2, none⟩ = some (.int .i64 o) ∧ w'.cell? ⟨w.heap.size, 3, none⟩ = some (.slice ao len cap)) (go_keep)
    (first
      | (go_at_call 19; refine (clone_own ao len cap zs _ (HZ.out.kept HF5.out.drew) HL.out HP.out).mono ?_; rintro e w3 ⟨gb, gk, rfl, ho, f9⟩; obtain ⟨i0, i1, i2, i3⟩ := KS.out _ _ f9 (by assumption) (by assumption) (by assumption) (by assumption))
      | (go_at_call 31; refine (delete_own gb len gk k _ _ zs _ ho HK.out (by first | rfl | exact hk1)).mono ?_; rintro e w4 ⟨a9, k9, rfl, z9, f10⟩; obtain ⟨j0, j1, j2, j3⟩ := cells_kept (World.block_lt_of_cell? _ _ (show _ = some (Value.int .i64 s) by assumption)) _ _ f10 (by assumption) (by assumption) (by assumption) (by assumption))
      | (go_at_call 21; refine (K23.out a9 k9 _ z9).mono ?_; rintro e w5 ⟨rfl, rfl⟩))
  have HF6 := Lib.hid (HF5.out.drew.noTrans f9)
  go_wp2_with fail
  go_ret
  exact ⟨rfl, ((HF6.out.mono (S' := over w.heap.size) (fun _ _ h => h.elim)).trans f10 (fun i hi hs => Nat.le_trans HF5.out.size hs)).below (fun k h => h) (Nat.le_refl _)⟩
set_option maxHeartbeats 8000000 in
theorem mono_iftt (s t o more wo : Int) (ao : Option Addr) (len cap : Nat) (zs : List Int) (w : World) (hd : Dec w) (hl : len ≤ 64) (hz : IntsIn w ao len zs) (h0 : 0 < len) (k : Nat) (hk : k < len) (hkw : wo.tmod (len : Int) = (k : Int)) (hwo : 0 ≤ wo ∧ wo ≤ 255) (s0 : 0 ≤ s) (s1 : s ≤ 68719476736) (m0 : 0 ≤ more) (m1 : more ≤ 68719476736 - s)
    (H21 : ∀ (ao' : Option Addr) (cap' : Nat) (w : World), IntsIn w ao' (len) (zs) → Calls Tryd.prog 21 #[.int .i64 (s), .int .i64 t, .int .i64 o, .slice ao' (len) cap'] w fun e w' => e = .returned (.tuple #[.bool false, .int .i64 0]) ∧ w' = w) (H22 : ∀ (ao' : Option Addr) (cap' : Nat) (w : World), IntsIn w ao' (len) (zs) → Calls Tryd.prog 21 #[.int .i64 (s + more), .int .i64 t, .int .i64 o, .slice ao' (len) cap'] w fun e w' => e = .returned (.tuple #[.bool true, .int .i64 0]) ∧ w' = w) (H23 : ∀ (ao' : Option Addr) (cap' : Nat) (w : World), IntsIn w ao' (len - 1) (zs.take k ++ zs.drop (k + 1)) → Calls Tryd.prog 21 #[.int .i64 (s), .int .i64 t, .int .i64 o, .slice ao' (len - 1) cap'] w fun e w' => e = .returned (.tuple #[.bool true, .int .i64 0]) ∧ w' = w) :
    Calls Tryd.prog 7 #[.agg #[.int .i64 s, .int .i64 t, .int .i64 o, .slice ao len cap], .int .i64 more, .int .u8 wo] w fun e w' => e = .returned (.bool true) ∧ Below w.heap.size w w' := by
  have K21 := Lib.hid H21
  have K22 := Lib.hid H22
  have K23 := Lib.hid H23
  clear H21 H22 H23
  have f0 := (Fr.refl no w).alloc (.cells #[.int .i64 s, .int .i64 t, .int .i64 o, .slice ao len cap] 30 (0, 0))
  have HW := Lib.hid f0
  have HD := Lib.hid (hd.kept f0 (fun h => h))
  have HZ := Lib.hid hz
  have HL := Lib.hid (show len ≤ 1000 by omega)
  have hlI : (len : Int) ≤ 64 := by omega
  have HP := Lib.hid h0
  have HK := Lib.hid hk
  have hk1 : IntKind.i64.wrap ((k : Int) + 1) = (k : Int) + 1 := IntWalk.i64_in _ (by omega)
  have hlp : (0 : Int) < (len : Int) := by omega
  have hw1 : IntKind.i64.wrap (68719476736 - s) = 68719476736 - s := IntWalk.i64_in _ (by omega)
  have hw2 : IntKind.i64.wrap (s + more) = s + more := IntWalk.i64_in _ (by omega)
  clear f0 hd hl hz h0 hk
  go_enter Tryd.func7, Tryd.ntmps7
  go_wp2_with fail
  refine (awake_any _ HD.out).mono ?_
  rintro e w1 ⟨rfl, f1⟩
  have hb := f1.blk (heap_alloc_new w _) (fun h => h)
  obtain ⟨c0, c1, c2, c3⟩ := four_cells hb
  have HF1 := Lib.hid (HW.out.noTrans f1)
  clear f1 hb
  have HS : ∀ w0 w' : World, Fr no w0 w' → w0.cell? ⟨w.heap.size, 0, none⟩ = some (.int .i64 s) → w0.cell? ⟨w.heap.size, 1, none⟩ = some (.int .i64 t) → w0.cell? ⟨w.heap.size, 2, none⟩ = some (.int .i64 o) → w0.cell? ⟨w.heap.size, 3, none⟩ = some (.slice ao len cap) →
      w'.cell? ⟨w.heap.size, 0, none⟩ = some (.int .i64 s) ∧ w'.cell? ⟨w.heap.size, 1, none⟩ = some (.int .i64 t) ∧ w'.cell? ⟨w.heap.size, 2, none⟩ = some (.int .i64 o) ∧ w'.cell? ⟨w.heap.size, 3, none⟩ = some (.slice ao len cap) :=
    fun w0 w' h a b c d => ⟨(h.cell (World.block_lt_of_cell? w0 _ a) (fun h => h)).trans a, (h.cell (World.block_lt_of_cell? w0 _ b) (fun h => h)).trans b, (h.cell (World.block_lt_of_cell? w0 _ c) (fun h => h)).trans c, (h.cell (World.block_lt_of_cell? w0 _ d) (fun h => h)).trans d⟩
  have KS := Lib.hid HS
  clear HS
  go_wp2_with fail
  go_region_held3 (fun w' => w'.cell? ⟨w.heap.size, 0, none⟩ = some (.int .i64 s) ∧ w'.cell? ⟨w.heap.size, 1, none⟩ = some (.int .i64 t) ∧ w'.cell? ⟨w.heap.size, 2, none⟩ = some (.int .i64 o) ∧ w'.cell? ⟨w.heap.size, 3, none⟩ = some (.slice ao len cap)) (go_keep)
    (first
      | (go_at_call 19; refine (clone_any ao len cap zs _ (HZ.out.kept HF1.out.drew) HL.out).mono ?_; rintro e w3 ⟨ae, ke, rfl, ze, fe⟩; obtain ⟨e0, e1, e2, e3⟩ := KS.out _ _ fe (by assumption) (by assumption) (by assumption) (by assumption))
      | (go_at_call 21; refine (K21.out ae ke _ ze).mono ?_; rintro e w4 ⟨rfl, rfl⟩))
  have HF4 := Lib.hid (HF1.out.drew.noTrans fe)
  clear fe ze c0 c1 c2 c3
  go_wp2_with fail
  go_region_held3 (fun w' => w'.cell? ⟨w.heap.size, 0, none⟩ = some (.int .i64 s) ∧ w'.cell? ⟨w.heap.size, 1, none⟩ = some (.int .i64 t) ∧ w'.cell? ⟨w.heap.size, 2, none⟩ = some (.int .i64 o) ∧ w'.cell? ⟨w.heap.size, 3, none⟩ = some (.slice ao len cap)) (go_keep)
    (first
      | (go_at_call 19; refine (clone_any ao len cap zs _ (HZ.out.kept HF4.out.drew) HL.out).mono ?_; rintro e w3 ⟨ag, kg, rfl, zg, fg⟩; obtain ⟨g0, g1, g2, g3⟩ := KS.out _ _ fg (by assumption) (by assumption) (by assumption) (by assumption))
      | (go_at_call 21; refine (K22.out ag kg _ zg).mono ?_; rintro e w4 ⟨rfl, rfl⟩))
  have HF5 := Lib.hid (HF4.out.drew.noTrans fg)
  clear fg zg e0 e1 e2 e3
  go_wp2_with fail
  go_region_held3 (fun w' => w'.cell? ⟨w.heap.size, 0, none⟩ = some (.int .i64 s) ∧ w'.cell? ⟨w.heap.size, 1, none⟩ = some (.int .i64 t) ∧ w'.cell? ⟨w.heap.size, 2, none⟩ = some (.int .i64 o) ∧ w'.cell? ⟨w.heap.size, 3, none⟩ = some (.slice ao len cap)) (go_keep)
    (first
      | (go_at_call 19; refine (clone_own ao len cap zs _ (HZ.out.kept HF5.out.drew) HL.out HP.out).mono ?_; rintro e w3 ⟨gb, gk, rfl, ho, f9⟩; obtain ⟨i0, i1, i2, i3⟩ := KS.out _ _ f9 (by assumption) (by assumption) (by assumption) (by assumption))
      | (go_at_call 31; refine (delete_own gb len gk k _ _ zs _ ho HK.out (by first | rfl | exact hk1)).mono ?_; rintro e w4 ⟨a9, k9, rfl, z9, f10⟩; obtain ⟨j0, j1, j2, j3⟩ := cells_kept (World.block_lt_of_cell? _ _ (show _ = some (Value.int .i64 s) by assumption)) _ _ f10 (by assumption) (by assumption) (by assumption) (by assumption))
      | (go_at_call 21; refine (K23.out a9 k9 _ z9).mono ?_; rintro e w5 ⟨rfl, rfl⟩))
  have HF6 := Lib.hid (HF5.out.drew.noTrans f9)
  go_wp2_with fail
  go_ret
  exact ⟨rfl, ((HF6.out.mono (S' := over w.heap.size) (fun _ _ h => h.elim)).trans f10 (fun i hi hs => Nat.le_trans HF5.out.size hs)).below (fun k h => h) (Nat.le_refl _)⟩
set_option maxHeartbeats 8000000 in
theorem mono_ittz (s t o more wo : Int) (ao : Option Addr) (len cap : Nat) (zs : List Int) (w : World) (hd : Dec w) (hl : len ≤ 64) (hz : IntsIn w ao len zs) (h0 : len = 0) (s0 : 0 ≤ s) (s1 : s ≤ 68719476736) (m0 : 0 ≤ more) (m1 : more ≤ 68719476736 - s)
    (H21 : ∀ (ao' : Option Addr) (cap' : Nat) (w : World), IntsIn w ao' (len) (zs) → Calls Tryd.prog 21 #[.int .i64 (s), .int .i64 t, .int .i64 o, .slice ao' (len) cap'] w fun e w' => e = .returned (.tuple #[.bool true, .int .i64 0]) ∧ w' = w) (H22 : ∀ (ao' : Option Addr) (cap' : Nat) (w : World), IntsIn w ao' (len) (zs) → Calls Tryd.prog 21 #[.int .i64 (s + more), .int .i64 t, .int .i64 o, .slice ao' (len) cap'] w fun e w' => e = .returned (.tuple #[.bool true, .int .i64 0]) ∧ w' = w)  :
    Calls Tryd.prog 7 #[.agg #[.int .i64 s, .int .i64 t, .int .i64 o, .slice ao len cap], .int .i64 more, .int .u8 wo] w fun e w' => e = .returned (.bool true) ∧ Below w.heap.size w w' := by
  have K21 := Lib.hid H21
  have K22 := Lib.hid H22
  clear H21 H22 
  have f0 := (Fr.refl no w).alloc (.cells #[.int .i64 s, .int .i64 t, .int .i64 o, .slice ao len cap] 30 (0, 0))
  have HW := Lib.hid f0
  have HD := Lib.hid (hd.kept f0 (fun h => h))
  have HZ := Lib.hid hz
  have HL := Lib.hid (show len ≤ 1000 by omega)
  have hlI : (len : Int) ≤ 64 := by omega
  have hw1 : IntKind.i64.wrap (68719476736 - s) = 68719476736 - s := IntWalk.i64_in _ (by omega)
  have hw2 : IntKind.i64.wrap (s + more) = s + more := IntWalk.i64_in _ (by omega)
  have hlz : (len : Int) = 0 := by omega
  clear f0 hd hl hz h0
  go_enter Tryd.func7, Tryd.ntmps7
  go_wp2_with fail
  refine (awake_any _ HD.out).mono ?_
  rintro e w1 ⟨rfl, f1⟩
  have hb := f1.blk (heap_alloc_new w _) (fun h => h)
  obtain ⟨c0, c1, c2, c3⟩ := four_cells hb
  have HF1 := Lib.hid (HW.out.noTrans f1)
  clear f1 hb
  have HS : ∀ w0 w' : World, Fr no w0 w' → w0.cell? ⟨w.heap.size, 0, none⟩ = some (.int .i64 s) → w0.cell? ⟨w.heap.size, 1, none⟩ = some (.int .i64 t) → w0.cell? ⟨w.heap.size, 2, none⟩ = some (.int .i64 o) → w0.cell? ⟨w.heap.size, 3, none⟩ = some (.slice ao len cap) →
      w'.cell? ⟨w.heap.size, 0, none⟩ = some (.int .i64 s) ∧ w'.cell? ⟨w.heap.size, 1, none⟩ = some (.int .i64 t) ∧ w'.cell? ⟨w.heap.size, 2, none⟩ = some (.int .i64 o) ∧ w'.cell? ⟨w.heap.size, 3, none⟩ = some (.slice ao len cap) :=
    fun w0 w' h a b c d => ⟨(h.cell (World.block_lt_of_cell? w0 _ a) (fun h => h)).trans a, (h.cell (World.block_lt_of_cell? w0 _ b) (fun h => h)).trans b, (h.cell (World.block_lt_of_cell? w0 _ c) (fun h => h)).trans c, (h.cell (World.block_lt_of_cell? w0 _ d) (fun h => h)).trans d⟩
  have KS := Lib.hid HS
  clear HS
  go_wp2_with fail
  go_region_held3 (fun w' => w'.cell? ⟨w.heap.size, 0, none⟩ = some (.int .i64 s) ∧ w'.cell? ⟨w.heap.size, 1, none⟩ = some (.int .i64 t) ∧ w'.cell? ⟨w.heap.size, 2, none⟩ = some (.int .i64 o) ∧ w'.cell? ⟨w.heap.size, 3, none⟩ = some (.slice ao len cap)) (go_keep)
    (first
      | (go_at_call 19; refine (clone_any ao len cap zs _ (HZ.out.kept HF1.out.drew) HL.out).mono ?_; rintro e w3 ⟨ae, ke, rfl, ze, fe⟩; obtain ⟨e0, e1, e2, e3⟩ := KS.out _ _ fe (by assumption) (by assumption) (by assumption) (by assumption))
      | (go_at_call 21; refine (K21.out ae ke _ ze).mono ?_; rintro e w4 ⟨rfl, rfl⟩))
  have HF4 := Lib.hid (HF1.out.drew.noTrans fe)
  clear fe ze c0 c1 c2 c3
  go_wp2_with fail
  go_region_held3 (fun w' => w'.cell? ⟨w.heap.size, 0, none⟩ = some (.int .i64 s) ∧ w'.cell? ⟨w.heap.size, 1, none⟩ = some (.int .i64 t) ∧ w'.cell? ⟨w.heap.size, 2, none⟩ = some (.int .i64 o) ∧ w'.cell? ⟨w.heap.size, 3, none⟩ = some (.slice ao len cap)) (go_keep)
    (first
      | (go_at_call 19; refine (clone_any ao len cap zs _ (HZ.out.kept HF4.out.drew) HL.out).mono ?_; rintro e w3 ⟨ag, kg, rfl, zg, fg⟩; obtain ⟨g0, g1, g2, g3⟩ := KS.out _ _ fg (by assumption) (by assumption) (by assumption) (by assumption))
      | (go_at_call 21; refine (K22.out ag kg _ zg).mono ?_; rintro e w4 ⟨rfl, rfl⟩))
  have HF5 := Lib.hid (HF4.out.drew.noTrans fg)
  clear fg zg e0 e1 e2 e3
  go_wp2_with fail
  go_ret
  exact ⟨rfl, HF5.out.belowNone (Nat.le_refl _)⟩
set_option maxHeartbeats 8000000 in
theorem mono_ittt (s t o more wo : Int) (ao : Option Addr) (len cap : Nat) (zs : List Int) (w : World) (hd : Dec w) (hl : len ≤ 64) (hz : IntsIn w ao len zs) (h0 : 0 < len) (k : Nat) (hk : k < len) (hkw : wo.tmod (len : Int) = (k : Int)) (hwo : 0 ≤ wo ∧ wo ≤ 255) (s0 : 0 ≤ s) (s1 : s ≤ 68719476736) (m0 : 0 ≤ more) (m1 : more ≤ 68719476736 - s)
    (H21 : ∀ (ao' : Option Addr) (cap' : Nat) (w : World), IntsIn w ao' (len) (zs) → Calls Tryd.prog 21 #[.int .i64 (s), .int .i64 t, .int .i64 o, .slice ao' (len) cap'] w fun e w' => e = .returned (.tuple #[.bool true, .int .i64 0]) ∧ w' = w) (H22 : ∀ (ao' : Option Addr) (cap' : Nat) (w : World), IntsIn w ao' (len) (zs) → Calls Tryd.prog 21 #[.int .i64 (s + more), .int .i64 t, .int .i64 o, .slice ao' (len) cap'] w fun e w' => e = .returned (.tuple #[.bool true, .int .i64 0]) ∧ w' = w) (H23 : ∀ (ao' : Option Addr) (cap' : Nat) (w : World), IntsIn w ao' (len - 1) (zs.take k ++ zs.drop (k + 1)) → Calls Tryd.prog 21 #[.int .i64 (s), .int .i64 t, .int .i64 o, .slice ao' (len - 1) cap'] w fun e w' => e = .returned (.tuple #[.bool true, .int .i64 0]) ∧ w' = w) :
    Calls Tryd.prog 7 #[.agg #[.int .i64 s, .int .i64 t, .int .i64 o, .slice ao len cap], .int .i64 more, .int .u8 wo] w fun e w' => e = .returned (.bool true) ∧ Below w.heap.size w w' := by
  have K21 := Lib.hid H21
  have K22 := Lib.hid H22
  have K23 := Lib.hid H23
  clear H21 H22 H23
  have f0 := (Fr.refl no w).alloc (.cells #[.int .i64 s, .int .i64 t, .int .i64 o, .slice ao len cap] 30 (0, 0))
  have HW := Lib.hid f0
  have HD := Lib.hid (hd.kept f0 (fun h => h))
  have HZ := Lib.hid hz
  have HL := Lib.hid (show len ≤ 1000 by omega)
  have hlI : (len : Int) ≤ 64 := by omega
  have HP := Lib.hid h0
  have HK := Lib.hid hk
  have hk1 : IntKind.i64.wrap ((k : Int) + 1) = (k : Int) + 1 := IntWalk.i64_in _ (by omega)
  have hlp : (0 : Int) < (len : Int) := by omega
  have hw1 : IntKind.i64.wrap (68719476736 - s) = 68719476736 - s := IntWalk.i64_in _ (by omega)
  have hw2 : IntKind.i64.wrap (s + more) = s + more := IntWalk.i64_in _ (by omega)
  clear f0 hd hl hz h0 hk
  go_enter Tryd.func7, Tryd.ntmps7
  go_wp2_with fail
  refine (awake_any _ HD.out).mono ?_
  rintro e w1 ⟨rfl, f1⟩
  have hb := f1.blk (heap_alloc_new w _) (fun h => h)
  obtain ⟨c0, c1, c2, c3⟩ := four_cells hb
  have HF1 := Lib.hid (HW.out.noTrans f1)
  clear f1 hb
  have HS : ∀ w0 w' : World, Fr no w0 w' → w0.cell? ⟨w.heap.size, 0, none⟩ = some (.int .i64 s) → w0.cell? ⟨w.heap.size, 1, none⟩ = some (.int .i64 t) → w0.cell? ⟨w.heap.size, 2, none⟩ = some (.int .i64 o) → w0.cell? ⟨w.heap.size, 3, none⟩ = some (.slice ao len cap) →
      w'.cell? ⟨w.heap.size, 0, none⟩ = some (.int .i64 s) ∧ w'.cell? ⟨w.heap.size, 1, none⟩ = some (.int .i64 t) ∧ w'.cell? ⟨w.heap.size, 2, none⟩ = some (.int .i64 o) ∧ w'.cell? ⟨w.heap.size, 3, none⟩ = some (.slice ao len cap) :=
    fun w0 w' h a b c d => ⟨(h.cell (World.block_lt_of_cell? w0 _ a) (fun h => h)).trans a, (h.cell (World.block_lt_of_cell? w0 _ b) (fun h => h)).trans b, (h.cell (World.block_lt_of_cell? w0 _ c) (fun h => h)).trans c, (h.cell (World.block_lt_of_cell? w0 _ d) (fun h => h)).trans d⟩
  have KS := Lib.hid HS
  clear HS
  go_wp2_with fail
  go_region_held3 (fun w' => w'.cell? ⟨w.heap.size, 0, none⟩ = some (.int .i64 s) ∧ w'.cell? ⟨w.heap.size, 1, none⟩ = some (.int .i64 t) ∧ w'.cell? ⟨w.heap.size, 2, none⟩ = some (.int .i64 o) ∧ w'.cell? ⟨w.heap.size, 3, none⟩ = some (.slice ao len cap)) (go_keep)
    (first
      | (go_at_call 19; refine (clone_any ao len cap zs _ (HZ.out.kept HF1.out.drew) HL.out).mono ?_; rintro e w3 ⟨ae, ke, rfl, ze, fe⟩; obtain ⟨e0, e1, e2, e3⟩ := KS.out _ _ fe (by assumption) (by assumption) (by assumption) (by assumption))
      | (go_at_call 21; refine (K21.out ae ke _ ze).mono ?_; rintro e w4 ⟨rfl, rfl⟩))
  have HF4 := Lib.hid (HF1.out.drew.noTrans fe)
  clear fe ze c0 c1 c2 c3
  go_wp2_with fail
  go_region_held3 (fun w' => w'.cell? ⟨w.heap.size, 0, none⟩ = some (.int .i64 s) ∧ w'.cell? ⟨w.heap.size, 1, none⟩ = some (.int .i64 t) ∧ w'.cell? ⟨w.heap.size, 2, none⟩ = some (.int .i64 o) ∧ w'.cell? ⟨w.heap.size, 3, none⟩ = some (.slice ao len cap)) (go_keep)
    (first
      | (go_at_call 19; refine (clone_any ao len cap zs _ (HZ.out.kept HF4.out.drew) HL.out).mono ?_; rintro e w3 ⟨ag, kg, rfl, zg, fg⟩; obtain ⟨g0, g1, g2, g3⟩ := KS.out _ _ fg (by assumption) (by assumption) (by assumption) (by assumption))
      | (go_at_call 21; refine (K22.out ag kg _ zg).mono ?_; rintro e w4 ⟨rfl, rfl⟩))
  have HF5 := Lib.hid (HF4.out.drew.noTrans fg)
  clear fg zg e0 e1 e2 e3
  go_wp2_with fail
  go_region_held3 (fun w' => w'.cell? ⟨w.heap.size, 0, none⟩ = some (.int .i64 s) ∧ w'.cell? ⟨w.heap.size, 1, none⟩ = some (.int .i64 t) ∧ w'.cell? ⟨w.heap.size, 2, none⟩ = some (.int .i64 o) ∧ w'.cell? ⟨w.heap.size, 3, none⟩ = some (.slice ao len cap)) (go_keep)
    (first
      | (go_at_call 19; refine (clone_own ao len cap zs _ (HZ.out.kept HF5.out.drew) HL.out HP.out).mono ?_; rintro e w3 ⟨gb, gk, rfl, ho, f9⟩; obtain ⟨i0, i1, i2, i3⟩ := KS.out _ _ f9 (by assumption) (by assumption) (by assumption) (by assumption))
      | (go_at_call 31; refine (delete_own gb len gk k _ _ zs _ ho HK.out (by first | rfl | exact hk1)).mono ?_; rintro e w4 ⟨a9, k9, rfl, z9, f10⟩; obtain ⟨j0, j1, j2, j3⟩ := cells_kept (World.block_lt_of_cell? _ _ (show _ = some (Value.int .i64 s) by assumption)) _ _ f10 (by assumption) (by assumption) (by assumption) (by assumption))
      | (go_at_call 21; refine (K23.out a9 k9 _ z9).mono ?_; rintro e w5 ⟨rfl, rfl⟩))
  have HF6 := Lib.hid (HF5.out.drew.noTrans f9)
  go_wp2_with fail
  go_ret
  exact ⟨rfl, ((HF6.out.mono (S' := over w.heap.size) (fun _ _ h => h.elim)).trans f10 (fun i hi hs => Nat.le_trans HF5.out.size hs)).below (fun k h => h) (Nat.le_refl _)⟩
set_option maxHeartbeats 8000000 in
theorem mono_xffz (s t o more wo : Int) (ao : Option Addr) (len cap : Nat) (zs : List Int) (w : World) (hd : Dec w) (hl : len ≤ 64) (hz : IntsIn w ao len zs) (h0 : len = 0) (s0 : 0 ≤ s) (s1 : s ≤ 68719476736) (m0 : more < 0 ∨ 68719476736 - s < more)
    (H21 : ∀ (ao' : Option Addr) (cap' : Nat) (w : World), IntsIn w ao' (len) (zs) → Calls Tryd.prog 21 #[.int .i64 (s), .int .i64 t, .int .i64 o, .slice ao' (len) cap'] w fun e w' => e = .returned (.tuple #[.bool false, .int .i64 0]) ∧ w' = w) (H22 : ∀ (ao' : Option Addr) (cap' : Nat) (w : World), IntsIn w ao' (len) (zs) → Calls Tryd.prog 21 #[.int .i64 (s), .int .i64 t, .int .i64 o, .slice ao' (len) cap'] w fun e w' => e = .returned (.tuple #[.bool false, .int .i64 0]) ∧ w' = w)  :
    Calls Tryd.prog 7 #[.agg #[.int .i64 s, .int .i64 t, .int .i64 o, .slice ao len cap], .int .i64 more, .int .u8 wo] w fun e w' => e = .returned (.bool true) ∧ Below w.heap.size w w' := by
  have K21 := Lib.hid H21
  have K22 := Lib.hid H22
  clear H21 H22 
  have f0 := (Fr.refl no w).alloc (.cells #[.int .i64 s, .int .i64 t, .int .i64 o, .slice ao len cap] 30 (0, 0))
  have HW := Lib.hid f0
  have HD := Lib.hid (hd.kept f0 (fun h => h))
  have HZ := Lib.hid hz
  have HL := Lib.hid (show len ≤ 1000 by omega)
  have hlI : (len : Int) ≤ 64 := by omega
  have hw1 : IntKind.i64.wrap (68719476736 - s) = 68719476736 - s := IntWalk.i64_in _ (by omega)
  have hw2 : IntKind.i64.wrap s = s := IntWalk.i64_in _ (by omega)
  have hlz : (len : Int) = 0 := by omega
  clear f0 hd hl hz h0
  rcases m0 with m0 | m0
  all_goals
    go_enter Tryd.func7, Tryd.ntmps7
    go_wp2_with fail
    refine (awake_any _ HD.out).mono ?_
    rintro e w1 ⟨rfl, f1⟩
    have hb := f1.blk (heap_alloc_new w _) (fun h => h)
    obtain ⟨c0, c1, c2, c3⟩ := four_cells hb
    have HF1 := Lib.hid (HW.out.noTrans f1)
    clear f1 hb
    have HS : ∀ w0 w' : World, Fr no w0 w' → w0.cell? ⟨w.heap.size, 0, none⟩ = some (.int .i64 s) → w0.cell? ⟨w.heap.size, 1, none⟩ = some (.int .i64 t) → w0.cell? ⟨w.heap.size, 2, none⟩ = some (.int .i64 o) → w0.cell? ⟨w.heap.size, 3, none⟩ = some (.slice ao len cap) →
        w'.cell? ⟨w.heap.size, 0, none⟩ = some (.int .i64 s) ∧ w'.cell? ⟨w.heap.size, 1, none⟩ = some (.int .i64 t) ∧ w'.cell? ⟨w.heap.size, 2, none⟩ = some (.int .i64 o) ∧ w'.cell? ⟨w.heap.size, 3, none⟩ = some (.slice ao len cap) :=
      fun w0 w' h a b c d => ⟨(h.cell (World.block_lt_of_cell? w0 _ a) (fun h => h)).trans a, (h.cell (World.block_lt_of_cell? w0 _ b) (fun h => h)).trans b, (h.cell (World.block_lt_of_cell? w0 _ c) (fun h => h)).trans c, (h.cell (World.block_lt_of_cell? w0 _ d) (fun h => h)).trans d⟩
    have KS := Lib.hid HS
    clear HS
    go_wp2_with fail
    go_region_held3 (fun w' => w'.cell? ⟨w.heap.size, 0, none⟩ = some (.int .i64 s) ∧ w'.cell? ⟨w.heap.size, 1, none⟩ = some (.int .i64 t) ∧ w'.cell? ⟨w.heap.size, 2, none⟩ = some (.int .i64 o) ∧ w'.cell? ⟨w.heap.size, 3, none⟩ = some (.slice ao len cap)) (go_keep)
      (first
        | (go_at_call 19; refine (clone_any ao len cap zs _ (HZ.out.kept HF1.out.drew) HL.out).mono ?_; rintro e w3 ⟨ae, ke, rfl, ze, fe⟩; obtain ⟨e0, e1, e2, e3⟩ := KS.out _ _ fe (by assumption) (by assumption) (by assumption) (by assumption))
        | (go_at_call 21; refine (K21.out ae ke _ ze).mono ?_; rintro e w4 ⟨rfl, rfl⟩))
    have HF4 := Lib.hid (HF1.out.drew.noTrans fe)
    clear fe ze c0 c1 c2 c3
    go_wp2_with fail
    go_region_held3 (fun w' => w'.cell? ⟨w.heap.size, 0, none⟩ = some (.int .i64 s) ∧ w'.cell? ⟨w.heap.size, 1, none⟩ = some (.int .i64 t) ∧ w'.cell? ⟨w.heap.size, 2, none⟩ = some (.int .i64 o) ∧ w'.cell? ⟨w.heap.size, 3, none⟩ = some (.slice ao len cap)) (go_keep)
      (first
        | (go_at_call 19; refine (clone_any ao len cap zs _ (HZ.out.kept HF4.out.drew) HL.out).mono ?_; rintro e w3 ⟨ag, kg, rfl, zg, fg⟩; obtain ⟨g0, g1, g2, g3⟩ := KS.out _ _ fg (by assumption) (by assumption) (by assumption) (by assumption))
        | (go_at_call 21; refine (K22.out ag kg _ zg).mono ?_; rintro e w4 ⟨rfl, rfl⟩))
    have HF5 := Lib.hid (HF4.out.drew.noTrans fg)
    clear fg zg e0 e1 e2 e3
    go_wp2_with fail
    go_ret
    exact ⟨rfl, HF5.out.belowNone (Nat.le_refl _)⟩
set_option maxHeartbeats 8000000 in
theorem mono_xfff (s t o more wo : Int) (ao : Option Addr) (len cap : Nat) (zs : List Int) (w : World) (hd : Dec w) (hl : len ≤ 64) (hz : IntsIn w ao len zs) (h0 : 0 < len) (k : Nat) (hk : k < len) (hkw : wo.tmod (len : Int) = (k : Int)) (hwo : 0 ≤ wo ∧ wo ≤ 255) (s0 : 0 ≤ s) (s1 : s ≤ 68719476736) (m0 : more < 0 ∨ 68719476736 - s < more)
    (H21 : ∀ (ao' : Option Addr) (cap' : Nat) (w : World), IntsIn w ao' (len) (zs) → Calls Tryd.prog 21 #[.int .i64 (s), .int .i64 t, .int .i64 o, .slice ao' (len) cap'] w fun e w' => e = .returned (.tuple #[.bool false, .int .i64 0]) ∧ w' = w) (H22 : ∀ (ao' : Option Addr) (cap' : Nat) (w : World), IntsIn w ao' (len) (zs) → Calls Tryd.prog 21 #[.int .i64 (s), .int .i64 t, .int .i64 o, .slice ao' (len) cap'] w fun e w' => e = .returned (.tuple #[.bool false, .int .i64 0]) ∧ w' = w) (H23 : ∀ (ao' : Option Addr) (cap' : Nat) (w : World), IntsIn w ao' (len - 1) (zs.take k ++ zs.drop (k + 1)) → Calls Tryd.prog 21 #[.int .i64 (s), .int .i64 t, .int .i64 o, .slice ao' (len - 1) cap'] w fun e w' => e = .returned (.tuple #[.bool false, .int .i64 0]) ∧ w' = w) :
    Calls Tryd.prog 7 #[.agg #[.int .i64 s, .int .i64 t, .int .i64 o, .slice ao len cap], .int .i64 more, .int .u8 wo] w fun e w' => e = .returned (.bool true) ∧ Below w.heap.size w w' := by
  have K21 := Lib.hid H21
  have K22 := Lib.hid H22
  have K23 := Lib.hid H23
  clear H21 H22 H23
  have f0 := (Fr.refl no w).alloc (.cells #[.int .i64 s, .int .i64 t, .int .i64 o, .slice ao len cap] 30 (0, 0))
  have HW := Lib.hid f0
  have HD := Lib.hid (hd.kept f0 (fun h => h))
  have HZ := Lib.hid hz
  have HL := Lib.hid (show len ≤ 1000 by omega)
  have hlI : (len : Int) ≤ 64 := by omega
  have HP := Lib.hid h0
  have HK := Lib.hid hk
  have hk1 : IntKind.i64.wrap ((k : Int) + 1) = (k : Int) + 1 := IntWalk.i64_in _ (by omega)
  have hlp : (0 : Int) < (len : Int) := by omega
  have hw1 : IntKind.i64.wrap (68719476736 - s) = 68719476736 - s := IntWalk.i64_in _ (by omega)
  have hw2 : IntKind.i64.wrap s = s := IntWalk.i64_in _ (by omega)
  clear f0 hd hl hz h0 hk
  rcases m0 with m0 | m0
  all_goals
    go_enter Tryd.func7, Tryd.ntmps7
    go_wp2_with fail
    refine (awake_any _ HD.out).mono ?_
    rintro e w1 ⟨rfl, f1⟩
    have hb := f1.blk (heap_alloc_new w _) (fun h => h)
    obtain ⟨c0, c1, c2, c3⟩ := four_cells hb
    have HF1 := Lib.hid (HW.out.noTrans f1)
    clear f1 hb
    have HS : ∀ w0 w' : World, Fr no w0 w' → w0.cell? ⟨w.heap.size, 0, none⟩ = some (.int .i64 s) → w0.cell? ⟨w.heap.size, 1, none⟩ = some (.int .i64 t) → w0.cell? ⟨w.heap.size, 2, none⟩ = some (.int .i64 o) → w0.cell? ⟨w.heap.size, 3, none⟩ = some (.slice ao len cap) →
        w'.cell? ⟨w.heap.size, 0, none⟩ = some (.int .i64 s) ∧ w'.cell? ⟨w.heap.size, 1, none⟩ = some (.int .i64 t) ∧ w'.cell? ⟨w.heap.size, 2, none⟩ = some (.int .i64 o) ∧ w'.cell? ⟨w.heap.size, 3, none⟩ = some (.slice ao len cap) :=
      fun w0 w' h a b c d => ⟨(h.cell (World.block_lt_of_cell? w0 _ a) (fun h => h)).trans a, (h.cell (World.block_lt_of_cell? w0 _ b) (fun h => h)).trans b, (h.cell (World.block_lt_of_cell? w0 _ c) (fun h => h)).trans c, (h.cell (World.block_lt_of_cell? w0 _ d) (fun h => h)).trans d⟩
    have KS := Lib.hid HS
    clear HS
    go_wp2_with fail
    go_region_held3 (fun w' => w'.cell? ⟨w.heap.size, 0, none⟩ = some (.int .i64 s) ∧ w'.cell? ⟨w.heap.size, 1, none⟩ = some (.int .i64 t) ∧ w'.cell? ⟨w.heap.size, 2, none⟩ = some (.int .i64 o) ∧ w'.cell? ⟨w.heap.size, 3, none⟩ = some (.slice ao len cap)) (go_keep)
      (first
        | (go_at_call 19; refine (clone_any ao len cap zs _ (HZ.out.kept HF1.out.drew) HL.out).mono ?_; rintro e w3 ⟨ae, ke, rfl, ze, fe⟩; obtain ⟨e0, e1, e2, e3⟩ := KS.out _ _ fe (by assumption) (by assumption) (by assumption) (by assumption))
        | (go_at_call 21; refine (K21.out ae ke _ ze).mono ?_; rintro e w4 ⟨rfl, rfl⟩))
    have HF4 := Lib.hid (HF1.out.drew.noTrans fe)
    clear fe ze c0 c1 c2 c3
    go_wp2_with fail
    go_region_held3 (fun w' => w'.cell? ⟨w.heap.size, 0, none⟩ = some (.int .i64 s) ∧ w'.cell? ⟨w.heap.size, 1, none⟩ = some (.int .i64 t) ∧ w'.cell? ⟨w.heap.size, 2, none⟩ = some (.int .i64 o) ∧ w'.cell? ⟨w.heap.size, 3, none⟩ = some (.slice ao len cap)) (go_keep)
      (first
        | (go_at_call 19; refine (clone_any ao len cap zs _ (HZ.out.kept HF4.out.drew) HL.out).mono ?_; rintro e w3 ⟨ag, kg, rfl, zg, fg⟩; obtain ⟨g0, g1, g2, g3⟩ := KS.out _ _ fg (by assumption) (by assumption) (by assumption) (by assumption))
        | (go_at_call 21; refine (K22.out ag kg _ zg).mono ?_; rintro e w4 ⟨rfl, rfl⟩))
    have HF5 := Lib.hid (HF4.out.drew.noTrans fg)
    clear fg zg e0 e1 e2 e3
    go_wp2_with fail
    go_region_held3 (fun w' => w'.cell? ⟨w.heap.size, 0, none⟩ = some (.int .i64 s) ∧ w'.cell? ⟨w.heap.size, 1, none⟩ = some (.int .i64 t) ∧ w'.cell? ⟨w.heap.size, 2, none⟩ = some (.int .i64 o) ∧ w'.cell? ⟨w.heap.size, 3, none⟩ = some (.slice ao len cap)) (go_keep)
      (first
        | (go_at_call 19; refine (clone_own ao len cap zs _ (HZ.out.kept HF5.out.drew) HL.out HP.out).mono ?_; rintro e w3 ⟨gb, gk, rfl, ho, f9⟩; obtain ⟨i0, i1, i2, i3⟩ := KS.out _ _ f9 (by assumption) (by assumption) (by assumption) (by assumption))
        | (go_at_call 31; refine (delete_own gb len gk k _ _ zs _ ho HK.out (by first | rfl | exact hk1)).mono ?_; rintro e w4 ⟨a9, k9, rfl, z9, f10⟩; obtain ⟨j0, j1, j2, j3⟩ := cells_kept (World.block_lt_of_cell? _ _ (show _ = some (Value.int .i64 s) by assumption)) _ _ f10 (by assumption) (by assumption) (by assumption) (by assumption))
        | (go_at_call 21; refine (K23.out a9 k9 _ z9).mono ?_; rintro e w5 ⟨rfl, rfl⟩))
    have HF6 := Lib.hid (HF5.out.drew.noTrans f9)
    go_wp2_with fail
    go_ret
    exact ⟨rfl, ((HF6.out.mono (S' := over w.heap.size) (fun _ _ h => h.elim)).trans f10 (fun i hi hs => Nat.le_trans HF5.out.size hs)).below (fun k h => h) (Nat.le_refl _)⟩
set_option maxHeartbeats 8000000 in
theorem mono_xfft (s t o more wo : Int) (ao : Option Addr) (len cap : Nat) (zs : List Int) (w : World) (hd : Dec w) (hl : len ≤ 64) (hz : IntsIn w ao len zs) (h0 : 0 < len) (k : Nat) (hk : k < len) (hkw : wo.tmod (len : Int) = (k : Int)) (hwo : 0 ≤ wo ∧ wo ≤ 255) (s0 : 0 ≤ s) (s1 : s ≤ 68719476736) (m0 : more < 0 ∨ 68719476736 - s < more)
    (H21 : ∀ (ao' : Option Addr) (cap' : Nat) (w : World), IntsIn w ao' (len) (zs) → Calls Tryd.prog 21 #[.int .i64 (s), .int .i64 t, .int .i64 o, .slice ao' (len) cap'] w fun e w' => e = .returned (.tuple #[.bool false, .int .i64 0]) ∧ w' = w) (H22 : ∀ (ao' : Option Addr) (cap' : Nat) (w : World), IntsIn w ao' (len) (zs) → Calls Tryd.prog 21 #[.int .i64 (s), .int .i64 t, .int .i64 o, .slice ao' (len) cap'] w fun e w' => e = .returned (.tuple #[.bool false, .int .i64 0]) ∧ w' = w) (H23 : ∀ (ao' : Option Addr) (cap' : Nat) (w : World), IntsIn w ao' (len - 1) (zs.take k ++ zs.drop (k + 1)) → Calls Tryd.prog 21 #[.int .i64 (s), .int .i64 t, .int .i64 o, .slice ao' (len - 1) cap'] w fun e w' => e = .returned (.tuple #[.bool true, .int .i64 0]) ∧ w' = w) :
    Calls Tryd.prog 7 #[.agg #[.int .i64 s, .int .i64 t, .int .i64 o, .slice ao len cap], .int .i64 more, .int .u8 wo] w fun e w' => e = .returned (.bool true) ∧ Below w.heap.size w w' := by
  have K21 := Lib.hid H21
  have K22 := Lib.hid H22
  have K23 := Lib.hid H23
  clear H21 H22 H23
  have f0 := (Fr.refl no w).alloc (.cells #[.int .i64 s, .int .i64 t, .int .i64 o, .slice ao len cap] 30 (0, 0))
  have HW := Lib.hid f0
  have HD := Lib.hid (hd.kept f0 (fun h => h))
  have HZ := Lib.hid hz
  have HL := Lib.hid (show len ≤ 1000 by omega)
  have hlI : (len : Int) ≤ 64 := by omega
  have HP := Lib.hid h0
  have HK := Lib.hid hk
  have hk1 : IntKind.i64.wrap ((k : Int) + 1) = (k : Int) + 1 := IntWalk.i64_in _ (by omega)
  have hlp : (0 : Int) < (len : Int) := by omega
  have hw1 : IntKind.i64.wrap (68719476736 - s) = 68719476736 - s := IntWalk.i64_in _ (by omega)
  have hw2 : IntKind.i64.wrap s = s := IntWalk.i64_in _ (by omega)
  clear f0 hd hl hz h0 hk
  rcases m0 with m0 | m0
  all_goals
    go_enter Tryd.func7, Tryd.ntmps7
    go_wp2_with fail
    refine (awake_any _ HD.out).mono ?_
    rintro e w1 ⟨rfl, f1⟩
    have hb := f1.blk (heap_alloc_new w _) (fun h => h)
    obtain ⟨c0, c1, c2, c3⟩ := four_cells hb
    have HF1 := Lib.hid (HW.out.noTrans f1)
    clear f1 hb
    have HS : ∀ w0 w' : World, Fr no w0 w' → w0.cell? ⟨w.heap.size, 0, none⟩ = some (.int .i64 s) → w0.cell? ⟨w.heap.size, 1, none⟩ = some (.int .i64 t) → w0.cell? ⟨w.heap.size, 2, none⟩ = some (.int .i64 o) → w0.cell? ⟨w.heap.size, 3, none⟩ = some (.slice ao len cap) →
        w'.cell? ⟨w.heap.size, 0, none⟩ = some (.int .i64 s) ∧ w'.cell? ⟨w.heap.size, 1, none⟩ = some (.int .i64 t) ∧ w'.cell? ⟨w.heap.size, 2, none⟩ = some (.int .i64 o) ∧ w'.cell? ⟨w.heap.size, 3, none⟩ = some (.slice ao len cap) :=
      fun w0 w' h a b c d => ⟨(h.cell (World.block_lt_of_cell? w0 _ a) (fun h => h)).trans a, (h.cell (World.block_lt_of_cell? w0 _ b) (fun h => h)).trans b, (h.cell (World.block_lt_of_cell? w0 _ c) (fun h => h)).trans c, (h.cell (World.block_lt_of_cell? w0 _ d) (fun h => h)).trans d⟩
    have KS := Lib.hid HS
    clear HS
    go_wp2_with fail
    go_region_held3 (fun w' => w'.cell? ⟨w.heap.size, 0, none⟩ = some (.int .i64 s) ∧ w'.cell? ⟨w.heap.size, 1, none⟩ = some (.int .i64 t) ∧ w'.cell? ⟨w.heap.size, 2, none⟩ = some (.int .i64 o) ∧ w'.cell? ⟨w.heap.size, 3, none⟩ = some (.slice ao len cap)) (go_keep)
      (first
        | (go_at_call 19; refine (clone_any ao len cap zs _ (HZ.out.kept HF1.out.drew) HL.out).mono ?_; rintro e w3 ⟨ae, ke, rfl, ze, fe⟩; obtain ⟨e0, e1, e2, e3⟩ := KS.out _ _ fe (by assumption) (by assumption) (by assumption) (by assumption))
        | (go_at_call 21; refine (K21.out ae ke _ ze).mono ?_; rintro e w4 ⟨rfl, rfl⟩))
    have HF4 := Lib.hid (HF1.out.drew.noTrans fe)
    clear fe ze c0 c1 c2 c3
    go_wp2_with fail
    go_region_held3 (fun w' => w'.cell? ⟨w.heap.size, 0, none⟩ = some (.int .i64 s) ∧ w'.cell? ⟨w.heap.size, 1, none⟩ = some (.int .i64 t) ∧ w'.cell? ⟨w.heap.size, 2, none⟩ = some (.int .i64 o) ∧ w'.cell? ⟨w.heap.size, 3, none⟩ = some (.slice ao len cap)) (go_keep)
      (first
        | (go_at_call 19; refine (clone_any ao len cap zs _ (HZ.out.kept HF4.out.drew) HL.out).mono ?_; rintro e w3 ⟨ag, kg, rfl, zg, fg⟩; obtain ⟨g0, g1, g2, g3⟩ := KS.out _ _ fg (by assumption) (by assumption) (by assumption) (by assumption))
        | (go_at_call 21; refine (K22.out ag kg _ zg).mono ?_; rintro e w4 ⟨rfl, rfl⟩))
    have HF5 := Lib.hid (HF4.out.drew.noTrans fg)
    clear fg zg e0 e1 e2 e3
    go_wp2_with fail
    go_region_held3 (fun w' => w'.cell? ⟨w.heap.size, 0, none⟩ = some (.int .i64 s) ∧ w'.cell? ⟨w.heap.size, 1, none⟩ = some (.int .i64 t) ∧ w'.cell? ⟨w.heap.size, 2, none⟩ = some (.int .i64 o) ∧ w'.cell? ⟨w.heap.size, 3, none⟩ = some (.slice ao len cap)) (go_keep)
      (first
        | (go_at_call 19; refine (clone_own ao len cap zs _ (HZ.out.kept HF5.out.drew) HL.out HP.out).mono ?_; rintro e w3 ⟨gb, gk, rfl, ho, f9⟩; obtain ⟨i0, i1, i2, i3⟩ := KS.out _ _ f9 (by assumption) (by assumption) (by assumption) (by assumption))
        | (go_at_call 31; refine (delete_own gb len gk k _ _ zs _ ho HK.out (by first | rfl | exact hk1)).mono ?_; rintro e w4 ⟨a9, k9, rfl, z9, f10⟩; obtain ⟨j0, j1, j2, j3⟩ := cells_kept (World.block_lt_of_cell? _ _ (show _ = some (Value.int .i64 s) by assumption)) _ _ f10 (by assumption) (by assumption) (by assumption) (by assumption))
        | (go_at_call 21; refine (K23.out a9 k9 _ z9).mono ?_; rintro e w5 ⟨rfl, rfl⟩))
    have HF6 := Lib.hid (HF5.out.drew.noTrans f9)
    go_wp2_with fail
    go_ret
    exact ⟨rfl, ((HF6.out.mono (S' := over w.heap.size) (fun _ _ h => h.elim)).trans f10 (fun i hi hs => Nat.le_trans HF5.out.size hs)).below (fun k h => h) (Nat.le_refl _)⟩
set_option maxHeartbeats 8000000 in
theorem mono_xttz (s t o more wo : Int) (ao : Option Addr) (len cap : Nat) (zs : List Int) (w : World) (hd : Dec w) (hl : len ≤ 64) (hz : IntsIn w ao len zs) (h0 : len = 0) (s0 : 0 ≤ s) (s1 : s ≤ 68719476736) (m0 : more < 0 ∨ 68719476736 - s < more)
    (H21 : ∀ (ao' : Option Addr) (cap' : Nat) (w : World), IntsIn w ao' (len) (zs) → Calls Tryd.prog 21 #[.int .i64 (s), .int .i64 t, .int .i64 o, .slice ao' (len) cap'] w fun e w' => e = .returned (.tuple #[.bool true, .int .i64 0]) ∧ w' = w) (H22 : ∀ (ao' : Option Addr) (cap' : Nat) (w : World), IntsIn w ao' (len) (zs) → Calls Tryd.prog 21 #[.int .i64 (s), .int .i64 t, .int .i64 o, .slice ao' (len) cap'] w fun e w' => e = .returned (.tuple #[.bool true, .int .i64 0]) ∧ w' = w)  :
    Calls Tryd.prog 7 #[.agg #[.int .i64 s, .int .i64 t, .int .i64 o, .slice ao len cap], .int .i64 more, .int .u8 wo] w fun e w' => e = .returned (.bool true) ∧ Below w.heap.size w w' := by
  have K21 := Lib.hid H21
  have K22 := Lib.hid H22
  clear H21 H22 
  have f0 := (Fr.refl no w).alloc (.cells #[.int .i64 s, .int .i64 t, .int .i64 o, .slice ao len cap] 30 (0, 0))
  have HW := Lib.hid f0
  have HD := Lib.hid (hd.kept f0 (fun h => h))
  have HZ := Lib.hid hz
  have HL := Lib.hid (show len ≤ 1000 by omega)
  have hlI : (len : Int) ≤ 64 := by omega
  have hw1 : IntKind.i64.wrap (68719476736 - s) = 68719476736 - s := IntWalk.i64_in _ (by omega)
  have hw2 : IntKind.i64.wrap s = s := IntWalk.i64_in _ (by omega)
  have hlz : (len : Int) = 0 := by omega
  clear f0 hd hl hz h0
  rcases m0 with m0 | m0
  all_goals
    go_enter Tryd.func7, Tryd.ntmps7
    go_wp2_with fail
    refine (awake_any _ HD.out).mono ?_
    rintro e w1 ⟨rfl, f1⟩
    have hb := f1.blk (heap_alloc_new w _) (fun h => h)
    obtain ⟨c0, c1, c2, c3⟩ := four_cells hb
    have HF1 := Lib.hid (HW.out.noTrans f1)
    clear f1 hb
    have HS : ∀ w0 w' : World, Fr no w0 w' → w0.cell? ⟨w.heap.size, 0, none⟩ = some (.int .i64 s) → w0.cell? ⟨w.heap.size, 1, none⟩ = some (.int .i64 t) → w0.cell? ⟨w.heap.size, 2, none⟩ = some (.int .i64 o) → w0.cell? ⟨w.heap.size, 3, none⟩ = some (.slice ao len cap) →
        w'.cell? ⟨w.heap.size, 0, none⟩ = some (.int .i64 s) ∧ w'.cell? ⟨w.heap.size, 1, none⟩ = some (.int .i64 t) ∧ w'.cell? ⟨w.heap.size, 2, none⟩ = some (.int .i64 o) ∧ w'.cell? ⟨w.heap.size, 3, none⟩ = some (.slice ao len cap) :=
      fun w0 w' h a b c d => ⟨(h.cell (World.block_lt_of_cell? w0 _ a) (fun h => h)).trans a, (h.cell (World.block_lt_of_cell? w0 _ b) (fun h => h)).trans b, (h.cell (World.block_lt_of_cell? w0 _ c) (fun h => h)).trans c, (h.cell (World.block_lt_of_cell? w0 _ d) (fun h => h)).trans d⟩
    have KS := Lib.hid HS
    clear HS
    go_wp2_with fail
    go_region_held3 (fun w' => w'.cell? ⟨w.heap.size, 0, none⟩ = some (.int .i64 s) ∧ w'.cell? ⟨w.heap.size, 1, none⟩ = some (.int .i64 t) ∧ w'.cell? ⟨w.heap.size, 2, none⟩ = some (.int .i64 o) ∧ w'.cell? ⟨w.heap.size, 3, none⟩ = some (.slice ao len cap)) (go_keep)
      (first
        | (go_at_call 19; refine (clone_any ao len cap zs _ (HZ.out.kept HF1.out.drew) HL.out).mono ?_; rintro e w3 ⟨ae, ke, rfl, ze, fe⟩; obtain ⟨e0, e1, e2, e3⟩ := KS.out _ _ fe (by assumption) (by assumption) (by assumption) (by assumption))
        | (go_at_call 21; refine (K21.out ae ke _ ze).mono ?_; rintro e w4 ⟨rfl, rfl⟩))
    have HF4 := Lib.hid (HF1.out.drew.noTrans fe)
    clear fe ze c0 c1 c2 c3
    go_wp2_with fail
    go_region_held3 (fun w' => w'.cell? ⟨w.heap.size, 0, none⟩ = some (.int .i64 s) ∧ w'.cell? ⟨w.heap.size, 1, none⟩ = some (.int .i64 t) ∧ w'.cell? ⟨w.heap.size, 2, none⟩ = some (.int .i64 o) ∧ w'.cell? ⟨w.heap.size, 3, none⟩ = some (.slice ao len cap)) (go_keep)
      (first
        | (go_at_call 19; refine (clone_any ao len cap zs _ (HZ.out.kept HF4.out.drew) HL.out).mono ?_; rintro e w3 ⟨ag, kg, rfl, zg, fg⟩; obtain ⟨g0, g1, g2, g3⟩ := KS.out _ _ fg (by assumption) (by assumption) (by assumption) (by assumption))
        | (go_at_call 21; refine (K22.out ag kg _ zg).mono ?_; rintro e w4 ⟨rfl, rfl⟩))
    have HF5 := Lib.hid (HF4.out.drew.noTrans fg)
    clear fg zg e0 e1 e2 e3
    go_wp2_with fail
    go_ret
    exact ⟨rfl, HF5.out.belowNone (Nat.le_refl _)⟩
set_option maxHeartbeats 8000000 in
theorem mono_xttt (s t o more wo : Int) (ao : Option Addr) (len cap : Nat) (zs : List Int) (w : World) (hd : Dec w) (hl : len ≤ 64) (hz : IntsIn w ao len zs) (h0 : 0 < len) (k : Nat) (hk : k < len) (hkw : wo.tmod (len : Int) = (k : Int)) (hwo : 0 ≤ wo ∧ wo ≤ 255) (s0 : 0 ≤ s) (s1 : s ≤ 68719476736) (m0 : more < 0 ∨ 68719476736 - s < more)
    (H21 : ∀ (ao' : Option Addr) (cap' : Nat) (w : World), IntsIn w ao' (len) (zs) → Calls Tryd.prog 21 #[.int .i64 (s), .int .i64 t, .int .i64 o, .slice ao' (len) cap'] w fun e w' => e = .returned (.tuple #[.bool true, .int .i64 0]) ∧ w' = w) (H22 : ∀ (ao' : Option Addr) (cap' : Nat) (w : World), IntsIn w ao' (len) (zs) → Calls Tryd.prog 21 #[.int .i64 (s), .int .i64 t, .int .i64 o, .slice ao' (len) cap'] w fun e w' => e = .returned (.tuple #[.bool true, .int .i64 0]) ∧ w' = w) (H23 : ∀ (ao' : Option Addr) (cap' : Nat) (w : World), IntsIn w ao' (len - 1) (zs.take k ++ zs.drop (k + 1)) → Calls Tryd.prog 21 #[.int .i64 (s), .int .i64 t, .int .i64 o, .slice ao' (len - 1) cap'] w fun e w' => e = .returned (.tuple #[.bool true, .int .i64 0]) ∧ w' = w) :
    Calls Tryd.prog 7 #[.agg #[.int .i64 s, .int .i64 t, .int .i64 o, .slice ao len cap], .int .i64 more, .int .u8 wo] w fun e w' => e = .returned (.bool true) ∧ Below w.heap.size w w' := by
  have K21 := Lib.hid H21
  have K22 := Lib.hid H22
  have K23 := Lib.hid H23
  clear H21 H22 H23
  have f0 := (Fr.refl no w).alloc (.cells #[.int .i64 s, .int .i64 t, .int .i64 o, .slice ao len cap] 30 (0, 0))
  have HW := Lib.hid f0
  have HD := Lib.hid (hd.kept f0 (fun h => h))
  have HZ := Lib.hid hz
  have HL := Lib.hid (show len ≤ 1000 by omega)
  have hlI : (len : Int) ≤ 64 := by omega
  have HP := Lib.hid h0
  have HK := Lib.hid hk
  have hk1 : IntKind.i64.wrap ((k : Int) + 1) = (k : Int) + 1 := IntWalk.i64_in _ (by omega)
  have hlp : (0 : Int) < (len : Int) := by omega
  have hw1 : IntKind.i64.wrap (68719476736 - s) = 68719476736 - s := IntWalk.i64_in _ (by omega)
  have hw2 : IntKind.i64.wrap s = s := IntWalk.i64_in _ (by omega)
  clear f0 hd hl hz h0 hk
  rcases m0 with m0 | m0
  all_goals
    go_enter Tryd.func7, Tryd.ntmps7
    go_wp2_with fail
    refine (awake_any _ HD.out).mono ?_
    rintro e w1 ⟨rfl, f1⟩
    have hb := f1.blk (heap_alloc_new w _) (fun h => h)
    obtain ⟨c0, c1, c2, c3⟩ := four_cells hb
    have HF1 := Lib.hid (HW.out.noTrans f1)
    clear f1 hb
    have HS : ∀ w0 w' : World, Fr no w0 w' → w0.cell? ⟨w.heap.size, 0, none⟩ = some (.int .i64 s) → w0.cell? ⟨w.heap.size, 1, none⟩ = some (.int .i64 t) → w0.cell? ⟨w.heap.size, 2, none⟩ = some (.int .i64 o) → w0.cell? ⟨w.heap.size, 3, none⟩ = some (.slice ao len cap) →
        w'.cell? ⟨w.heap.size, 0, none⟩ = some (.int .i64 s) ∧ w'.cell? ⟨w.heap.size, 1, none⟩ = some (.int .i64 t) ∧ w'.cell? ⟨w.heap.size, 2, none⟩ = some (.int .i64 o) ∧ w'.cell? ⟨w.heap.size, 3, none⟩ = some (.slice ao len cap) :=
      fun w0 w' h a b c d => ⟨(h.cell (World.block_lt_of_cell? w0 _ a) (fun h => h)).trans a, (h.cell (World.block_lt_of_cell? w0 _ b) (fun h => h)).trans b, (h.cell (World.block_lt_of_cell? w0 _ c) (fun h => h)).trans c, (h.cell (World.block_lt_of_cell? w0 _ d) (fun h => h)).trans d⟩
    have KS := Lib.hid HS
    clear HS
    go_wp2_with fail
    go_region_held3 (fun w' => w'.cell? ⟨w.heap.size, 0, none⟩ = some (.int .i64 s) ∧ w'.cell? ⟨w.heap.size, 1, none⟩ = some (.int .i64 t) ∧ w'.cell? ⟨w.heap.size, 2, none⟩ = some (.int .i64 o) ∧ w'.cell? ⟨w.heap.size, 3, none⟩ = some (.slice ao len cap)) (go_keep)
      (first
        | (go_at_call 19; refine (clone_any ao len cap zs _ (HZ.out.kept HF1.out.drew) HL.out).mono ?_; rintro e w3 ⟨ae, ke, rfl, ze, fe⟩; obtain ⟨e0, e1, e2, e3⟩ := KS.out _ _ fe (by assumption) (by assumption) (by assumption) (by assumption))
        | (go_at_call 21; refine (K21.out ae ke _ ze).mono ?_; rintro e w4 ⟨rfl, rfl⟩))
    have HF4 := Lib.hid (HF1.out.drew.noTrans fe)
    clear fe ze c0 c1 c2 c3
    go_wp2_with fail
    go_region_held3 (fun w' => w'.cell? ⟨w.heap.size, 0, none⟩ = some (.int .i64 s) ∧ w'.cell? ⟨w.heap.size, 1, none⟩ = some (.int .i64 t) ∧ w'.cell? ⟨w.heap.size, 2, none⟩ = some (.int .i64 o) ∧ w'.cell? ⟨w.heap.size, 3, none⟩ = some (.slice ao len cap)) (go_keep)
      (first
        | (go_at_call 19; refine (clone_any ao len cap zs _ (HZ.out.kept HF4.out.drew) HL.out).mono ?_; rintro e w3 ⟨ag, kg, rfl, zg, fg⟩; obtain ⟨g0, g1, g2, g3⟩ := KS.out _ _ fg (by assumption) (by assumption) (by assumption) (by assumption))
        | (go_at_call 21; refine (K22.out ag kg _ zg).mono ?_; rintro e w4 ⟨rfl, rfl⟩))
    have HF5 := Lib.hid (HF4.out.drew.noTrans fg)
    clear fg zg e0 e1 e2 e3
    go_wp2_with fail
    go_region_held3 (fun w' => w'.cell? ⟨w.heap.size, 0, none⟩ = some (.int .i64 s) ∧ w'.cell? ⟨w.heap.size, 1, none⟩ = some (.int .i64 t) ∧ w'.cell? ⟨w.heap.size, 2, none⟩ = some (.int .i64 o) ∧ w'.cell? ⟨w.heap.size, 3, none⟩ = some (.slice ao len cap)) (go_keep)
      (first
        | (go_at_call 19; refine (clone_own ao len cap zs _ (HZ.out.kept HF5.out.drew) HL.out HP.out).mono ?_; rintro e w3 ⟨gb, gk, rfl, ho, f9⟩; obtain ⟨i0, i1, i2, i3⟩ := KS.out _ _ f9 (by assumption) (by assumption) (by assumption) (by assumption))
        | (go_at_call 31; refine (delete_own gb len gk k _ _ zs _ ho HK.out (by first | rfl | exact hk1)).mono ?_; rintro e w4 ⟨a9, k9, rfl, z9, f10⟩; obtain ⟨j0, j1, j2, j3⟩ := cells_kept (World.block_lt_of_cell? _ _ (show _ = some (Value.int .i64 s) by assumption)) _ _ f10 (by assumption) (by assumption) (by assumption) (by assumption))
        | (go_at_call 21; refine (K23.out a9 k9 _ z9).mono ?_; rintro e w5 ⟨rfl, rfl⟩))
    have HF6 := Lib.hid (HF5.out.drew.noTrans f9)
    go_wp2_with fail
    go_ret
    exact ⟨rfl, ((HF6.out.mono (S' := over w.heap.size) (fun _ _ h => h.elim)).trans f10 (fun i hi hs => Nat.le_trans HF5.out.size hs)).below (fun k h => h) (Nat.le_refl _)⟩
end Go.Proofs.YtkbdjpdpcbeciaaDoor
