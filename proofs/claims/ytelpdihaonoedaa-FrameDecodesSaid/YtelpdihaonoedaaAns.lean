/- Answers, For. -/
import Derived.Test.YtelpdihaonoedaaAck
namespace Go.Proofs.Ytelpdihaonoedaa
open Go.RowKit
set_option linter.unusedVariables false
set_option maxRecDepth 20000

def nsB (x y : Frm) : Bool := acE x y.l y.e == 0 && eqF y (acV x y.l y.e)
set_option maxHeartbeats 4000000 in
theorem answers_any (x y : Frm) (w : World) : Calls Try.prog 24 #[.agg (frA x), .agg (frA y)] w fun e w' => e = .returned (.bool (nsB x y)) ∧ Fr no w w' := by
  have HF := Lib.hid (Fr.refl no w)
  have HA := Lib.hid (fun w => ack_any x y.l y.e w)
  have HE := eql_frame y (acV x y.l y.e)
  have hb : nsB x y = (acE x y.l y.e == 0 && eqF y (acV x y.l y.e)) := rfl
  rw [hb]
  clear hb
  generalize eqF y (acV x y.l y.e) = B at *
  generalize acV x y.l y.e = z at *
  generalize acE x y.l y.e = E at *
  obtain ⟨k, s, t, l, q, f, n, e, sl, r, ep, d⟩ := x
  obtain ⟨k1, s1, t1, l1, q1, f1, n1, e1, sl1, r1, ep1, d1⟩ := y
  obtain ⟨k2, s2, t2, l2, q2, f2, n2, e2, sl2, r2, ep2, d2⟩ := z
  obtain ⟨W, hW⟩ : ∃ W, W = (w.alloc (.cells #[.int .i64 k, .int .i64 s, .int .i64 t, .int .i64 l, .int .i64 q, .int .i64 f, .int .i64 n, .int .i64 e, .int .i64 sl, .int .i64 r, .int .i64 ep, .string d] 23 (0, 0))).alloc (.cells #[.int .i64 k1, .int .i64 s1, .int .i64 t1, .int .i64 l1, .int .i64 q1, .int .i64 f1, .int .i64 n1, .int .i64 e1, .int .i64 sl1, .int .i64 r1, .int .i64 ep1, .string d1] 23 (0, 0)) := ⟨_, rfl⟩
  have hB : W.heap[w.heap.size]? = some (.cells #[.int .i64 k, .int .i64 s, .int .i64 t, .int .i64 l, .int .i64 q, .int .i64 f, .int .i64 n, .int .i64 e, .int .i64 sl, .int .i64 r, .int .i64 ep, .string d] 23 (0, 0)) := by rw [hW]; exact alloc_keeps (heap_alloc_new w _) _
  have hZ : W.heap[w.heap.size + 1]? = some (.cells #[.int .i64 k1, .int .i64 s1, .int .i64 t1, .int .i64 l1, .int .i64 q1, .int .i64 f1, .int .i64 n1, .int .i64 e1, .int .i64 sl1, .int .i64 r1, .int .i64 ep1, .string d1] 23 (0, 0)) := by rw [hW]; simpa using heap_alloc_new (w.alloc (.cells #[.int .i64 k, .int .i64 s, .int .i64 t, .int .i64 l, .int .i64 q, .int .i64 f, .int .i64 n, .int .i64 e, .int .i64 sl, .int .i64 r, .int .i64 ep, .string d] 23 (0, 0))) (.cells #[.int .i64 k1, .int .i64 s1, .int .i64 t1, .int .i64 l1, .int .i64 q1, .int .i64 f1, .int .i64 n1, .int .i64 e1, .int .i64 sl1, .int .i64 r1, .int .i64 ep1, .string d1] 23 (0, 0))
  have HW := Lib.hid hW
  have HFW := Lib.hid (show Fr no w W by rw [hW]; exact (HF.out.alloc _).alloc _)
  have HZ := Lib.hid hZ
  obtain ⟨c0, c1, c2, c3, c4, c5, c6, c7, c8, c9, c10, c11⟩ := twelve_cells hB
  obtain ⟨z0, z1, z2, z3, z4, z5, z6, z7, z8, z9, z10, z11⟩ := twelve_cells hZ
  clear hW hB hZ
  simp only [frA] at HA HE ⊢
  by_cases h0 : E = 0
  · subst h0
    go_enter Try.func24, Try.ntmps24
    go_wp2_with fail
    rw [← HW.out]
    go_wp2_with fail
    refine (HA.out _).mono ?_
    rintro e3 w3 ⟨rfl, f3⟩
    have HF3 := Lib.hid (HFW.out.noTrans f3)
    have HZ3 := f3.blk HZ.out (fun h => h)
    clear f3 c0 c1 c2 c3 c4 c5 c6 c7 c8 c9 c10 c11 z0 z1 z2 z3 z4 z5 z6 z7 z8 z9 z10 z11
    obtain ⟨z0, z1, z2, z3, z4, z5, z6, z7, z8, z9, z10, z11⟩ := twelve_cells HZ3
    clear HZ3
    have b0 := World.block_lt_of_cell? w3 _ z0
    go_wp2_with fail
    go_ret
    exact ⟨by simp, HF3.out.alloc _⟩
  · have h1 : (E == 0) = false := by simpa using h0
    have h2 : decide (E = 0) = false := by simpa using h0
    clear h0
    go_enter Try.func24, Try.ntmps24
    go_wp2_with fail
    rw [← HW.out]
    go_wp2_with fail
    refine (HA.out _).mono ?_
    rintro e3 w3 ⟨rfl, f3⟩
    have HF3 := Lib.hid (HFW.out.noTrans f3)
    have HZ3 := f3.blk HZ.out (fun h => h)
    clear f3 c0 c1 c2 c3 c4 c5 c6 c7 c8 c9 c10 c11 z0 z1 z2 z3 z4 z5 z6 z7 z8 z9 z10 z11
    obtain ⟨z0, z1, z2, z3, z4, z5, z6, z7, z8, z9, z10, z11⟩ := twelve_cells HZ3
    clear HZ3
    have b0 := World.block_lt_of_cell? w3 _ z0
    go_wp2_with fail
    go_ret
    exact ⟨by simp [h1], HF3.out.alloc _⟩
def foB (x : Frm) (n : Int) : Bool := if okF x && inR n 0 31 then (if x.t = -1 then n != x.s else n == x.t) else false
set_option maxHeartbeats 4000000 in
theorem for_any (x : Frm) (m : Int) (w : World) : Calls Try.prog 26 #[.agg (frA x), .int .i64 m] w fun e w' => e = .returned (.bool (foB x m)) ∧ Fr no w w' := by
  have HF := Lib.hid (Fr.refl no w)
  have HV := Lib.hid (fun w => isValid_any x w)
  have HN := Lib.hid (fun w => isNode_any m w)
  have hb : foB x m = if okF x && inR m 0 31 then (if x.t = -1 then m != x.s else m == x.t) else false := rfl
  rw [hb]
  clear hb
  generalize okF x = b1 at *
  generalize inR m 0 31 = b2 at *
  obtain ⟨k, s, t, l, q, f, n, e, sl, r, ep, d⟩ := x
  obtain ⟨W, hW⟩ : ∃ W, W = w.alloc (.cells #[.int .i64 k, .int .i64 s, .int .i64 t, .int .i64 l, .int .i64 q, .int .i64 f, .int .i64 n, .int .i64 e, .int .i64 sl, .int .i64 r, .int .i64 ep, .string d] 23 (0, 0)) := ⟨_, rfl⟩
  have hB : W.heap[w.heap.size]? = some (.cells #[.int .i64 k, .int .i64 s, .int .i64 t, .int .i64 l, .int .i64 q, .int .i64 f, .int .i64 n, .int .i64 e, .int .i64 sl, .int .i64 r, .int .i64 ep, .string d] 23 (0, 0)) := by rw [hW]; exact heap_alloc_new w _
  have HW := Lib.hid hW
  have HFW := Lib.hid (show Fr no w W by rw [hW]; exact HF.out.alloc _)
  have HB := Lib.hid hB
  obtain ⟨c0, c1, c2, c3, c4, c5, c6, c7, c8, c9, c10, c11⟩ := twelve_cells hB
  clear hW hB
  simp only [frA] at HV ⊢
  cases b1
  · clear HN
    go_enter Try.func26, Try.ntmps26
    go_wp2_with fail
    rw [← HW.out]
    go_wp2_with fail
    refine (HV.out _).mono ?_
    rintro e3 w3 ⟨rfl, f3⟩
    have HF3 := Lib.hid (HFW.out.noTrans f3)
    have HB3 := f3.blk HB.out (fun h => h)
    clear f3 c0 c1 c2 c3 c4 c5 c6 c7 c8 c9 c10 c11
    obtain ⟨c0, c1, c2, c3, c4, c5, c6, c7, c8, c9, c10, c11⟩ := twelve_cells HB3
    clear HB3
    go_wp2_with fail
    go_ret
    exact ⟨by simp, HF3.out⟩
  cases b2
  · go_enter Try.func26, Try.ntmps26
    go_wp2_with fail
    rw [← HW.out]
    go_wp2_with fail
    refine (HV.out _).mono ?_
    rintro e3 w3 ⟨rfl, f3⟩
    have HF3 := Lib.hid (HFW.out.noTrans f3)
    have HB3 := f3.blk HB.out (fun h => h)
    clear f3 c0 c1 c2 c3 c4 c5 c6 c7 c8 c9 c10 c11
    obtain ⟨c0, c1, c2, c3, c4, c5, c6, c7, c8, c9, c10, c11⟩ := twelve_cells HB3
    clear HB3
    go_wp2_with fail
    refine (HN.out _).mono ?_
    rintro e4 w4 ⟨rfl, rfl⟩
    go_wp2_with fail
    go_ret
    exact ⟨by simp, HF3.out⟩
  by_cases ht : t = -1
  · subst ht
    go_enter Try.func26, Try.ntmps26
    go_wp2_with fail
    rw [← HW.out]
    go_wp2_with fail
    refine (HV.out _).mono ?_
    rintro e3 w3 ⟨rfl, f3⟩
    have HF3 := Lib.hid (HFW.out.noTrans f3)
    have HB3 := f3.blk HB.out (fun h => h)
    clear f3 c0 c1 c2 c3 c4 c5 c6 c7 c8 c9 c10 c11
    obtain ⟨c0, c1, c2, c3, c4, c5, c6, c7, c8, c9, c10, c11⟩ := twelve_cells HB3
    clear HB3
    go_wp2_with fail
    refine (HN.out _).mono ?_
    rintro e4 w4 ⟨rfl, rfl⟩
    go_wp2_with fail
    go_ret
    exact ⟨by simp, HF3.out⟩
  · have ht1 : (t == -1) = false := by simpa using ht
    go_enter Try.func26, Try.ntmps26
    go_wp2_with fail
    rw [← HW.out]
    go_wp2_with fail
    refine (HV.out _).mono ?_
    rintro e3 w3 ⟨rfl, f3⟩
    have HF3 := Lib.hid (HFW.out.noTrans f3)
    have HB3 := f3.blk HB.out (fun h => h)
    clear f3 c0 c1 c2 c3 c4 c5 c6 c7 c8 c9 c10 c11
    obtain ⟨c0, c1, c2, c3, c4, c5, c6, c7, c8, c9, c10, c11⟩ := twelve_cells HB3
    clear HB3
    go_wp2_with fail
    refine (HN.out _).mono ?_
    rintro e4 w4 ⟨rfl, rfl⟩
    go_wp2_with fail
    go_ret
    exact ⟨by simp, HF3.out⟩
end Go.Proofs.Ytelpdihaonoedaa
