/- Ack, Answers, For. -/
import Derived.Test.YtelpdihaonoedaaEnc
namespace Go.Proofs.Ytelpdihaonoedaa
open Go.RowKit
set_option linter.unusedVariables false
set_option maxRecDepth 20000

theorem fr12 {w w1 : World} (h : Fr no w w1) {B : Nat} (hB : w.heap.size ≤ B) (n0 n1 n2 n3 n4 n5 n6 n7 n8 n9 n10 n11 : Value) :
    Fr no w ((((((((((((w1.setCell ⟨B, 0, none⟩ n0).setCell ⟨B, 1, none⟩ n1).setCell ⟨B, 2, none⟩ n2).setCell ⟨B, 3, none⟩ n3).setCell ⟨B, 4, none⟩ n4).setCell ⟨B, 5, none⟩ n5).setCell ⟨B, 6, none⟩ n6).setCell ⟨B, 7, none⟩ n7).setCell ⟨B, 8, none⟩ n8).setCell ⟨B, 9, none⟩ n9).setCell ⟨B, 10, none⟩ n10).setCell ⟨B, 11, none⟩ n11) :=
  (((((((((((h.setCell (.inr hB) _).setCell (.inr hB) _).setCell (.inr hB) _).setCell (.inr hB) _).setCell (.inr hB) _).setCell (.inr hB) _).setCell (.inr hB) _).setCell (.inr hB) _).setCell (.inr hB) _).setCell (.inr hB) _).setCell (.inr hB) _).setCell (.inr hB) _
def anB (x : Frm) : Bool := x.t != -1 && x.k != 2
set_option maxHeartbeats 2000000 in
theorem isAnswered_any (x : Frm) (w : World) : Calls Try.prog 55 #[.agg (frA x)] w fun e w' => e = .returned (.bool (anB x)) ∧ Fr no w w' := by
  have HF := Lib.hid (Fr.refl no w)
  obtain ⟨k, s, t, l, q, f, n, e, sl, r, ep, d⟩ := x
  have HB := Lib.hid (show anB ⟨k, s, t, l, q, f, n, e, sl, r, ep, d⟩ = (t != -1 && k != 2) from rfl)
  simp only [frA]
  go_enter Try.func55, Try.ntmps55
  go_wp2_with fail
  all_goals go_ret
  all_goals rw [HB.out]
  all_goals exact ⟨by first | (simp [*]; done) | (simp_all; done), HF.out.alloc _⟩
def zeroF : Frm := ⟨0, 0, 0, 0, 0, 0, 0, 0, 0, 0, 0, ⟨#[]⟩⟩
def akF (x : Frm) (l d : Int) : Frm := ⟨2, x.t, x.s, l, x.q, 0, 0, d, 0, 0, 0, ⟨#[]⟩⟩
def acV (x : Frm) (l d : Int) : Frm := if okF x && anB x then (if inR l 0 255 && inR d (-32768) 32767 then akF x l d else zeroF) else zeroF
def acE (x : Frm) (l d : Int) : Int := if okF x && anB x then (if inR l 0 255 && inR d (-32768) 32767 then 0 else 2) else 1
set_option maxHeartbeats 4000000 in
theorem ack_any (x : Frm) (li di : Int) (w : World) : Calls Try.prog 22 #[.agg (frA x), .int .i64 li, .int .i64 di] w fun e w' => e = .returned (.tuple #[.agg (frA (acV x li di)), .int .i64 (acE x li di)]) ∧ Fr no w w' := by
  have HF := Lib.hid (Fr.refl no w)
  have HV := Lib.hid (fun w => isValid_any x w)
  have HA := Lib.hid (fun w => isAnswered_any x w)
  have HL := Lib.hid (fun w => isByte_any li w)
  have HD := Lib.hid (fun w => isError_any di w)
  have hy : acV x li di = if okF x && anB x then (if inR li 0 255 && inR di (-32768) 32767 then akF x li di else zeroF) else zeroF := rfl
  have hu : acE x li di = if okF x && anB x then (if inR li 0 255 && inR di (-32768) 32767 then 0 else 2) else 1 := rfl
  rw [hy, hu]
  clear hy hu
  generalize okF x = b1 at *
  generalize anB x = b2 at *
  generalize inR li 0 255 = b3 at *
  generalize inR di (-32768) 32767 = b4 at *
  obtain ⟨k, s, t, l, q, f, n, e, sl, r, ep, d⟩ := x
  obtain ⟨W, hW⟩ : ∃ W, W = (w.alloc (.cells #[.int .i64 k, .int .i64 s, .int .i64 t, .int .i64 l, .int .i64 q, .int .i64 f, .int .i64 n, .int .i64 e, .int .i64 sl, .int .i64 r, .int .i64 ep, .string d] 23 (0, 0))).alloc (.cells #[.int .i64 0, .int .i64 0, .int .i64 0, .int .i64 0, .int .i64 0, .int .i64 0, .int .i64 0, .int .i64 0, .int .i64 0, .int .i64 0, .int .i64 0, .string ⟨#[]⟩] 23 (0, 0)) := ⟨_, rfl⟩
  have hB : W.heap[w.heap.size]? = some (.cells #[.int .i64 k, .int .i64 s, .int .i64 t, .int .i64 l, .int .i64 q, .int .i64 f, .int .i64 n, .int .i64 e, .int .i64 sl, .int .i64 r, .int .i64 ep, .string d] 23 (0, 0)) := by rw [hW]; exact alloc_keeps (heap_alloc_new w _) _
  have hZ : W.heap[w.heap.size + 1]? = some (.cells #[.int .i64 0, .int .i64 0, .int .i64 0, .int .i64 0, .int .i64 0, .int .i64 0, .int .i64 0, .int .i64 0, .int .i64 0, .int .i64 0, .int .i64 0, .string ⟨#[]⟩] 23 (0, 0)) := by rw [hW]; simpa using heap_alloc_new (w.alloc (.cells #[.int .i64 k, .int .i64 s, .int .i64 t, .int .i64 l, .int .i64 q, .int .i64 f, .int .i64 n, .int .i64 e, .int .i64 sl, .int .i64 r, .int .i64 ep, .string d] 23 (0, 0))) (.cells #[.int .i64 0, .int .i64 0, .int .i64 0, .int .i64 0, .int .i64 0, .int .i64 0, .int .i64 0, .int .i64 0, .int .i64 0, .int .i64 0, .int .i64 0, .string ⟨#[]⟩] 23 (0, 0))
  have HW := Lib.hid hW
  have HFW := Lib.hid (show Fr no w W by rw [hW]; exact (HF.out.alloc _).alloc _)
  have HB := Lib.hid hB
  have HZ := Lib.hid hZ
  clear hW hB hZ
  simp only [frA] at HV HA ⊢
  cases b1
  · clear HA HL HD
    obtain ⟨c0, c1, c2, c3, c4, c5, c6, c7, c8, c9, c10, c11⟩ := twelve_cells HB.out
    go_enter Try.func22, Try.ntmps22
    go_wp2_with fail
    rw [← HW.out]
    go_wp2_with fail
    refine (HV.out _).mono ?_
    rintro e1 w1 ⟨rfl, f1⟩
    have HB1 := Lib.hid (f1.blk HB.out (fun h => h))
    have HZ1 := Lib.hid (f1.blk HZ.out (fun h => h))
    have HF1 := Lib.hid (HFW.out.noTrans f1)
    clear c0 c1 c2 c3 c4 c5 c6 c7 c8 c9 c10 c11
    obtain ⟨c0, c1, c2, c3, c4, c5, c6, c7, c8, c9, c10, c11⟩ := twelve_cells HB1.out
    clear f1
    obtain ⟨z0, z1, z2, z3, z4, z5, z6, z7, z8, z9, z10, z11⟩ := twelve_cells HZ1.out
    have zf := fun i => (show (w1).frozen? ⟨w.heap.size + 1, i, none⟩ = false by simp [World.frozen?, HZ1.out])
    go_wp2_with fail
    refine bodyPost_ret (v := .tuple #[.agg #[.int .i64 0, .int .i64 0, .int .i64 0, .int .i64 0, .int .i64 0, .int .i64 0, .int .i64 0, .int .i64 0, .int .i64 0, .int .i64 0, .int .i64 0, .string ⟨#[]⟩], .int .i64 1]) (by simp [results, Try.results22, go_sem, z0, z1, z2, z3, z4, z5, z6, z7, z8, z9, z10, z11]) rfl ?_
    exact ⟨by simp [zeroF], fr12 HF1.out (Nat.le_succ _) _ _ _ _ _ _ _ _ _ _ _ _⟩
  cases b2
  · clear HL HD
    obtain ⟨c0, c1, c2, c3, c4, c5, c6, c7, c8, c9, c10, c11⟩ := twelve_cells HB.out
    go_enter Try.func22, Try.ntmps22
    go_wp2_with fail
    rw [← HW.out]
    go_wp2_with fail
    refine (HV.out _).mono ?_
    rintro e1 w1 ⟨rfl, f1⟩
    have HB1 := Lib.hid (f1.blk HB.out (fun h => h))
    have HZ1 := Lib.hid (f1.blk HZ.out (fun h => h))
    have HF1 := Lib.hid (HFW.out.noTrans f1)
    clear c0 c1 c2 c3 c4 c5 c6 c7 c8 c9 c10 c11
    obtain ⟨c0, c1, c2, c3, c4, c5, c6, c7, c8, c9, c10, c11⟩ := twelve_cells HB1.out
    clear f1
    go_wp2_with fail
    refine (HA.out _).mono ?_
    rintro e2 w2 ⟨rfl, f2⟩
    have HB2 := Lib.hid (f2.blk HB1.out (fun h => h))
    have HZ2 := Lib.hid (f2.blk HZ1.out (fun h => h))
    have HF2 := Lib.hid (HF1.out.noTrans f2)
    clear c0 c1 c2 c3 c4 c5 c6 c7 c8 c9 c10 c11
    obtain ⟨c0, c1, c2, c3, c4, c5, c6, c7, c8, c9, c10, c11⟩ := twelve_cells HB2.out
    clear f2
    obtain ⟨z0, z1, z2, z3, z4, z5, z6, z7, z8, z9, z10, z11⟩ := twelve_cells HZ2.out
    have zf := fun i => (show (w2).frozen? ⟨w.heap.size + 1, i, none⟩ = false by simp [World.frozen?, HZ2.out])
    go_wp2_with fail
    refine bodyPost_ret (v := .tuple #[.agg #[.int .i64 0, .int .i64 0, .int .i64 0, .int .i64 0, .int .i64 0, .int .i64 0, .int .i64 0, .int .i64 0, .int .i64 0, .int .i64 0, .int .i64 0, .string ⟨#[]⟩], .int .i64 1]) (by simp [results, Try.results22, go_sem, z0, z1, z2, z3, z4, z5, z6, z7, z8, z9, z10, z11]) rfl ?_
    exact ⟨by simp [zeroF], fr12 HF2.out (Nat.le_succ _) _ _ _ _ _ _ _ _ _ _ _ _⟩
  cases b3
  · clear HD
    obtain ⟨c0, c1, c2, c3, c4, c5, c6, c7, c8, c9, c10, c11⟩ := twelve_cells HB.out
    go_enter Try.func22, Try.ntmps22
    go_wp2_with fail
    rw [← HW.out]
    go_wp2_with fail
    refine (HV.out _).mono ?_
    rintro e1 w1 ⟨rfl, f1⟩
    have HB1 := Lib.hid (f1.blk HB.out (fun h => h))
    have HZ1 := Lib.hid (f1.blk HZ.out (fun h => h))
    have HF1 := Lib.hid (HFW.out.noTrans f1)
    clear c0 c1 c2 c3 c4 c5 c6 c7 c8 c9 c10 c11
    obtain ⟨c0, c1, c2, c3, c4, c5, c6, c7, c8, c9, c10, c11⟩ := twelve_cells HB1.out
    clear f1
    go_wp2_with fail
    refine (HA.out _).mono ?_
    rintro e2 w2 ⟨rfl, f2⟩
    have HB2 := Lib.hid (f2.blk HB1.out (fun h => h))
    have HZ2 := Lib.hid (f2.blk HZ1.out (fun h => h))
    have HF2 := Lib.hid (HF1.out.noTrans f2)
    clear c0 c1 c2 c3 c4 c5 c6 c7 c8 c9 c10 c11
    obtain ⟨c0, c1, c2, c3, c4, c5, c6, c7, c8, c9, c10, c11⟩ := twelve_cells HB2.out
    clear f2
    go_wp2_with fail
    refine (HL.out _).mono ?_
    rintro e3 w3 ⟨rfl, rfl⟩
    have HB3 := HB2
    have HZ3 := HZ2
    have HF3 := HF2
    obtain ⟨z0, z1, z2, z3, z4, z5, z6, z7, z8, z9, z10, z11⟩ := twelve_cells HZ3.out
    have zf := fun i => (show (w3).frozen? ⟨w.heap.size + 1, i, none⟩ = false by simp [World.frozen?, HZ3.out])
    go_wp2_with fail
    refine bodyPost_ret (v := .tuple #[.agg #[.int .i64 0, .int .i64 0, .int .i64 0, .int .i64 0, .int .i64 0, .int .i64 0, .int .i64 0, .int .i64 0, .int .i64 0, .int .i64 0, .int .i64 0, .string ⟨#[]⟩], .int .i64 2]) (by simp [results, Try.results22, go_sem, z0, z1, z2, z3, z4, z5, z6, z7, z8, z9, z10, z11]) rfl ?_
    exact ⟨by simp [zeroF], fr12 HF3.out (Nat.le_succ _) _ _ _ _ _ _ _ _ _ _ _ _⟩
  cases b4
  · obtain ⟨c0, c1, c2, c3, c4, c5, c6, c7, c8, c9, c10, c11⟩ := twelve_cells HB.out
    go_enter Try.func22, Try.ntmps22
    go_wp2_with fail
    rw [← HW.out]
    go_wp2_with fail
    refine (HV.out _).mono ?_
    rintro e1 w1 ⟨rfl, f1⟩
    have HB1 := Lib.hid (f1.blk HB.out (fun h => h))
    have HZ1 := Lib.hid (f1.blk HZ.out (fun h => h))
    have HF1 := Lib.hid (HFW.out.noTrans f1)
    clear c0 c1 c2 c3 c4 c5 c6 c7 c8 c9 c10 c11
    obtain ⟨c0, c1, c2, c3, c4, c5, c6, c7, c8, c9, c10, c11⟩ := twelve_cells HB1.out
    clear f1
    go_wp2_with fail
    refine (HA.out _).mono ?_
    rintro e2 w2 ⟨rfl, f2⟩
    have HB2 := Lib.hid (f2.blk HB1.out (fun h => h))
    have HZ2 := Lib.hid (f2.blk HZ1.out (fun h => h))
    have HF2 := Lib.hid (HF1.out.noTrans f2)
    clear c0 c1 c2 c3 c4 c5 c6 c7 c8 c9 c10 c11
    obtain ⟨c0, c1, c2, c3, c4, c5, c6, c7, c8, c9, c10, c11⟩ := twelve_cells HB2.out
    clear f2
    go_wp2_with fail
    refine (HL.out _).mono ?_
    rintro e3 w3 ⟨rfl, rfl⟩
    have HB3 := HB2
    have HZ3 := HZ2
    have HF3 := HF2
    go_wp2_with fail
    refine (HD.out _).mono ?_
    rintro e4 w4 ⟨rfl, rfl⟩
    have HB4 := HB3
    have HZ4 := HZ3
    have HF4 := HF3
    obtain ⟨z0, z1, z2, z3, z4, z5, z6, z7, z8, z9, z10, z11⟩ := twelve_cells HZ4.out
    have zf := fun i => (show (w4).frozen? ⟨w.heap.size + 1, i, none⟩ = false by simp [World.frozen?, HZ4.out])
    go_wp2_with fail
    refine bodyPost_ret (v := .tuple #[.agg #[.int .i64 0, .int .i64 0, .int .i64 0, .int .i64 0, .int .i64 0, .int .i64 0, .int .i64 0, .int .i64 0, .int .i64 0, .int .i64 0, .int .i64 0, .string ⟨#[]⟩], .int .i64 2]) (by simp [results, Try.results22, go_sem, z0, z1, z2, z3, z4, z5, z6, z7, z8, z9, z10, z11]) rfl ?_
    exact ⟨by simp [zeroF], fr12 HF4.out (Nat.le_succ _) _ _ _ _ _ _ _ _ _ _ _ _⟩
  · obtain ⟨c0, c1, c2, c3, c4, c5, c6, c7, c8, c9, c10, c11⟩ := twelve_cells HB.out
    go_enter Try.func22, Try.ntmps22
    go_wp2_with fail
    rw [← HW.out]
    go_wp2_with fail
    refine (HV.out _).mono ?_
    rintro e1 w1 ⟨rfl, f1⟩
    have HB1 := Lib.hid (f1.blk HB.out (fun h => h))
    have HZ1 := Lib.hid (f1.blk HZ.out (fun h => h))
    have HF1 := Lib.hid (HFW.out.noTrans f1)
    clear c0 c1 c2 c3 c4 c5 c6 c7 c8 c9 c10 c11
    obtain ⟨c0, c1, c2, c3, c4, c5, c6, c7, c8, c9, c10, c11⟩ := twelve_cells HB1.out
    clear f1
    go_wp2_with fail
    refine (HA.out _).mono ?_
    rintro e2 w2 ⟨rfl, f2⟩
    have HB2 := Lib.hid (f2.blk HB1.out (fun h => h))
    have HZ2 := Lib.hid (f2.blk HZ1.out (fun h => h))
    have HF2 := Lib.hid (HF1.out.noTrans f2)
    clear c0 c1 c2 c3 c4 c5 c6 c7 c8 c9 c10 c11
    obtain ⟨c0, c1, c2, c3, c4, c5, c6, c7, c8, c9, c10, c11⟩ := twelve_cells HB2.out
    clear f2
    go_wp2_with fail
    refine (HL.out _).mono ?_
    rintro e3 w3 ⟨rfl, rfl⟩
    have HB3 := HB2
    have HZ3 := HZ2
    have HF3 := HF2
    go_wp2_with fail
    refine (HD.out _).mono ?_
    rintro e4 w4 ⟨rfl, rfl⟩
    have HB4 := HB3
    have HZ4 := HZ3
    have HF4 := HF3
    obtain ⟨z0, z1, z2, z3, z4, z5, z6, z7, z8, z9, z10, z11⟩ := twelve_cells HZ4.out
    have zf := fun i => (show (w4).frozen? ⟨w.heap.size + 1, i, none⟩ = false by simp [World.frozen?, HZ4.out])
    go_wp2_with fail
    refine bodyPost_ret (v := .tuple #[.agg #[.int .i64 2, .int .i64 t, .int .i64 s, .int .i64 li, .int .i64 q, .int .i64 0, .int .i64 0, .int .i64 di, .int .i64 0, .int .i64 0, .int .i64 0, .string ⟨#[]⟩], .int .i64 0]) (by simp [results, Try.results22, go_sem, z0, z1, z2, z3, z4, z5, z6, z7, z8, z9, z10, z11]) rfl ?_
    exact ⟨by simp [akF], fr12 HF4.out (Nat.le_succ _) _ _ _ _ _ _ _ _ _ _ _ _⟩
end Go.Proofs.Ytelpdihaonoedaa
