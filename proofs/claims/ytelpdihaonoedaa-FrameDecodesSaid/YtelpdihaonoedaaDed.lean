/- Decode, the rest. -/
import Derived.Test.YtelpdihaonoedaaDec
namespace Go.Proofs.Ytelpdihaonoedaa
open Go.RowKit
set_option linter.unusedVariables false
set_option maxRecDepth 20000

theorem fr_no {S : Nat → Prop} {a b : World} (h : Fr S a b) (hS : ∀ k, S k → False) : Fr no a b := h.mono (fun i _ hi => (hS i hi).elim)
set_option maxHeartbeats 4000000 in
theorem decode_rest (s : ByteArray) (w : World) (hs : s.size ≤ 127) (hc : chkE s = 0) (V : Frm) (E : Int)
    (hk : (rClose (deA s).2 ≠ 0 ∧ V = zeroF ∧ E = 10) ∨ (rClose (deA s).2 = 0 ∧ okF (deA s).1 = false ∧ V = zeroF ∧ E = 10) ∨ (rClose (deA s).2 = 0 ∧ okF (deA s).1 = true ∧ V = (deA s).1 ∧ E = 0)) :
    Calls Try.prog 20 #[.string s] w fun e w' => e = .returned (.tuple #[.agg (frA V), .int .i64 E]) ∧ Fr no w w' := by
  have HC := Lib.hid (fun w => check_any s w (by omega))
  rw [hc] at HC
  have h1 : ¬ (127 : Int) < (s.size : Int) := by omega
  have HR := Lib.hid (fun w => newReader_any (chkV s) w (by have := chkV_small s hs; omega))
  have HA := Lib.hid (fun F B P w T h => @all_R F B P w T s h)
  have HV := Lib.hid (fun w => isValid_any (deA s).1 w)
  have HK := Lib.hid hk
  clear hs hc hk
  generalize deA s = D at *
  generalize rNew (chkV s) = r0 at *
  obtain ⟨y, st⟩ := D
  simp only at HA HV HK
  obtain ⟨W, hW⟩ : ∃ W, W = w.alloc (.cells zA 23 (0, 0)) := ⟨_, rfl⟩
  have hB : W.heap[w.heap.size]? = some (.cells zA 23 (0, 0)) := by rw [hW]; exact heap_alloc_new w _
  have HW := Lib.hid hW
  have HFW := Lib.hid (show Fr no w W by rw [hW]; exact (Fr.refl no w).alloc _)
  have HB := Lib.hid hB
  clear hW hB
  simp only [zA] at HW
  go_enter Try.func20, Try.ntmps20
  go_wp2_with fail
  rw [← HW.out]
  go_wp2_with fail
  refine (HC.out _).mono ?_
  rintro e1 w1 ⟨rfl, f1⟩
  have HF1 := Lib.hid (HFW.out.noTrans f1)
  have HB1 := Lib.hid (f1.blk HB.out (fun h => h))
  clear f1 HB
  go_wp2_with fail
  refine (HR.out _).mono ?_
  rintro e2 w2 ⟨rfl, hr, f2⟩
  have HF2 := Lib.hid (fr_no f2 (fun _ h => h))
  have HR2 := Lib.hid hr
  clear f2 hr
  go_wp2_with fail
  obtain ⟨W3, hW3⟩ : ∃ W3, W3 = w2.alloc (.cells zA 23 (0, 0)) := ⟨_, rfl⟩
  have hB3 : W3.heap[w2.heap.size]? = some (.cells (frA zeroF) 23 (0, 0)) := by rw [hW3]; exact heap_alloc_new w2 _
  have HF3 := Lib.hid (show Fr no w2 W3 by rw [hW3]; exact (Fr.refl no w2).alloc _)
  have HB3 := Lib.hid hB3
  have HW3 := Lib.hid hW3
  clear hW3 hB3
  simp only [zA] at HW3
  rw [← HW3.out]
  go_wp2_with fail
  refine (reading_any w2.heap.size w1.heap.size _).mono ?_
  rintro e4 w4 ⟨rfl, hp, f4⟩
  have HL := Lib.hid (show (macR w2.heap.size w1.heap.size W3.heap.size).LS w4 (fooR w2.heap.size w1.heap.size) zeroF r0 from
    ⟨(HR2.out.kept HF3.out (fun h => h)).kept f4 (fun h => h), f4.blk HB3.out (fun h => h), hp, by have := lt_of_blk HR2.out.blk; omega, by have := lt_of_blk HR2.out.blk; have := HF3.out.size; omega, by have := lt_of_blk HB3.out; omega, rfl⟩)
  have HZ1 := Lib.hid (show w.heap.size < w1.heap.size from lt_of_blk HB1.out)
  have HZ2 := Lib.hid (show w1.heap.size ≤ w2.heap.size from HF2.out.size)
  have HF4 := Lib.hid (HF1.out.noTrans (HF2.out.noTrans (HF3.out.noTrans f4)))
  have HB4 := Lib.hid (f4.blk (HF3.out.blk (HF2.out.blk HB1.out (fun h => h)) (fun h => h)) (fun h => h))
  clear hp f4
  go_wp2_with fail
  refine (HA.out w2.heap.size w1.heap.size W3.heap.size w4 _ HL.out).mono ?_
  rintro e5 w5 ⟨rfl, hst⟩
  obtain ⟨T5, l5, f5, n5⟩ := hst
  have HB5 := Lib.hid (f5.blk HB4.out (by rintro (e | e) <;> (have := HZ1.out; have := HZ2.out; omega)))
  obtain ⟨hl5, hf5⟩ := dec_fr HF4.out (by rintro k (rfl | rfl) <;> (have := HZ1.out; have := HZ2.out; omega)) ⟨T5, l5, f5, n5⟩
  have HL5 := Lib.hid hl5
  have HF5 := Lib.hid hf5
  have HCL := Lib.hid (rClose_any w1.heap.size st w5 hl5.rd)
  clear l5 f5 n5 hl5 hf5 HA HL HR2 HC HR HW HW3 HB1 HB3 HB4 HF1 HF2 HF3 HF4
  have hn : w.heap.size ≠ w2.heap.size := by have := HZ1.out; have := HZ2.out; omega
  go_wp2_with fail
  refine HCL.out.mono ?_
  rintro e6 w6 ⟨rfl, f6⟩
  have HF6 := Lib.hid (HF5.out.noTrans (fr_no f6 (fun _ h => h)))
  have HB6 := Lib.hid (f6.blk HB5.out (fun h => h))
  have HY6 := Lib.hid (f6.blk HL5.out.f (fun h => h))
  clear f6 HCL HB5 HL5 HF5
  generalize rClose st = c at *
  rcases HK.out with ⟨k1, rfl, rfl⟩ | ⟨k1, k2, rfl, rfl⟩ | ⟨k1, k2, rfl, rfl⟩
  · have kb : (c != 0) = true := by simp [k1]
    obtain ⟨z0, z1, z2, z3, z4, z5, z6, z7, z8, z9, z10, z11⟩ := twelve_cells HB6.out
    have zf := fun i => (show w6.frozen? ⟨w.heap.size, i, none⟩ = false by simp [World.frozen?, HB6.out])
    clear HK k1 HV
    go_wp2_with fail
    refine bodyPost_ret (v := .tuple #[.agg #[.int .i64 0, .int .i64 0, .int .i64 0, .int .i64 0, .int .i64 0, .int .i64 0, .int .i64 0, .int .i64 0, .int .i64 0, .int .i64 0, .int .i64 0, .string ⟨#[]⟩], .int .i64 10]) (by simp [results, Try.results20, go_sem, z0, z1, z2, z3, z4, z5, z6, z7, z8, z9, z10, z11]) rfl ?_
    exact ⟨rfl, fr12 HF6.out (Nat.le_refl _) _ _ _ _ _ _ _ _ _ _ _ _⟩
  · subst k1
    rw [k2] at HV
    clear HK k2
    obtain ⟨k, s, t, l, q, f, n, e, sl, r, ep, d⟩ := y
    obtain ⟨y0, y1, y2, y3, y4, y5, y6, y7, y8, y9, y10, y11⟩ := twelve_cells HY6.out
    simp only [frA] at HV
    go_wp2_with fail
    refine (HV.out _).mono ?_
    rintro e7 w7 ⟨rfl, f7⟩
    have HF7 := Lib.hid (HF6.out.noTrans f7)
    have HB7 := Lib.hid (f7.blk HB6.out (fun h => h))
    clear f7 y0 y1 y2 y3 y4 y5 y6 y7 y8 y9 y10 y11
    obtain ⟨z0, z1, z2, z3, z4, z5, z6, z7, z8, z9, z10, z11⟩ := twelve_cells HB7.out
    have zf := fun i => (show w7.frozen? ⟨w.heap.size, i, none⟩ = false by simp [World.frozen?, HB7.out])
    go_wp2_with fail
    refine bodyPost_ret (v := .tuple #[.agg #[.int .i64 0, .int .i64 0, .int .i64 0, .int .i64 0, .int .i64 0, .int .i64 0, .int .i64 0, .int .i64 0, .int .i64 0, .int .i64 0, .int .i64 0, .string ⟨#[]⟩], .int .i64 10]) (by simp [results, Try.results20, go_sem, z0, z1, z2, z3, z4, z5, z6, z7, z8, z9, z10, z11]) rfl ?_
    exact ⟨rfl, fr12 HF7.out (Nat.le_refl _) _ _ _ _ _ _ _ _ _ _ _ _⟩
  · subst k1
    rw [k2] at HV
    clear HK k2
    obtain ⟨k, s, t, l, q, f, n, e, sl, r, ep, d⟩ := V
    obtain ⟨y0, y1, y2, y3, y4, y5, y6, y7, y8, y9, y10, y11⟩ := twelve_cells HY6.out
    simp only [frA] at HV
    go_wp2_with fail
    refine (HV.out _).mono ?_
    rintro e7 w7 ⟨rfl, f7⟩
    have HF7 := Lib.hid (HF6.out.noTrans f7)
    have HB7 := Lib.hid (f7.blk HB6.out (fun h => h))
    have HY7 := Lib.hid (f7.blk HY6.out (fun h => h))
    clear f7 y0 y1 y2 y3 y4 y5 y6 y7 y8 y9 y10 y11
    obtain ⟨z0, z1, z2, z3, z4, z5, z6, z7, z8, z9, z10, z11⟩ := twelve_cells HB7.out
    obtain ⟨y0, y1, y2, y3, y4, y5, y6, y7, y8, y9, y10, y11⟩ := twelve_cells HY7.out
    have zf := fun i => (show w7.frozen? ⟨w.heap.size, i, none⟩ = false by simp [World.frozen?, HB7.out])
    go_wp2_with fail
    refine bodyPost_ret (v := .tuple #[.agg #[.int .i64 k, .int .i64 s, .int .i64 t, .int .i64 l, .int .i64 q, .int .i64 f, .int .i64 n, .int .i64 e, .int .i64 sl, .int .i64 r, .int .i64 ep, .string d], .int .i64 0]) (by simp [results, Try.results20, go_sem, z0, z1, z2, z3, z4, z5, z6, z7, z8, z9, z10, z11]) rfl ?_
    exact ⟨rfl, fr12 HF7.out (Nat.le_refl _) _ _ _ _ _ _ _ _ _ _ _ _⟩
theorem decode_any (s : ByteArray) (w : World) (hb : s.size ≤ 1000000) : Calls Try.prog 20 #[.string s] w fun e w' => e = .returned (.tuple #[.agg (frA (deV s)), .int .i64 (deE s)]) ∧ Fr no w w' := by
  by_cases hs : s.size ≤ 127
  · by_cases hc : chkE s = 0
    · have hv : deV s = if rClose (deA s).2 = 0 then (if okF (deA s).1 then (deA s).1 else zeroF) else zeroF := by unfold deV; rw [if_pos hs, if_pos hc]
      have he : deE s = if rClose (deA s).2 = 0 then (if okF (deA s).1 then 0 else 10) else 10 := by unfold deE; rw [if_pos hs, if_pos hc]
      refine decode_rest s w hs hc _ _ ?_
      by_cases h1 : rClose (deA s).2 = 0
      · cases h2 : okF (deA s).1
        · exact .inr (.inl ⟨h1, rfl, by rw [hv, if_pos h1, h2]; rfl, by rw [he, if_pos h1, h2]; rfl⟩)
        · exact .inr (.inr ⟨h1, rfl, by rw [hv, if_pos h1, h2]; rfl, by rw [he, if_pos h1, h2]; rfl⟩)
      · exact .inl ⟨h1, by rw [hv, if_neg h1], by rw [he, if_neg h1]⟩
    · have hv : deV s = zeroF := by unfold deV; rw [if_pos hs, if_neg hc]
      have he : deE s = chkE s := by unfold deE; rw [if_pos hs, if_neg hc]
      rw [hv, he]
      exact decode_sum s w hs hc
  · have hv : deV s = zeroF := by unfold deV; rw [if_neg hs]
    have he : deE s = 8 := by unfold deE; rw [if_neg hs]
    rw [hv, he]
    exact decode_long s w (by omega)
end Go.Proofs.Ytelpdihaonoedaa
