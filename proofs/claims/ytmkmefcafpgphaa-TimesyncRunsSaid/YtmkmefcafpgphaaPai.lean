/- A node and its parent: hear, acked, kindOf. -/
import Derived.Test.YtmkmefcafpgphaaLsy
namespace Go.Proofs.Ytmkmefcafpgphaa
set_option linter.unusedVariables false
open Go.RowKit


/-- A node and its parent in a slot: the errors and the state of the node that hears its parent, or is acknowledged by it. -/
def phE (no nd ns nc po pd sl : Int) : Int := if inE po pd sl 2120 = 0 then 0 else inE po pd sl 2120
/-- 'no' under another name: here no is a number. -/
abbrev no_ : Nat → Prop := fun k => no k
theorem nine_cells {w : World} {B T : Nat} {c0 c1 c2 c3 c4 c5 c6 c7 c8 : Value} (h : w.heap[B]? = some (.cells #[c0, c1, c2, c3, c4, c5, c6, c7, c8] T (0, 0))) :
    w.cell? ⟨B, 0, none⟩ = some c0 ∧ w.cell? ⟨B, 1, none⟩ = some c1 ∧ w.cell? ⟨B, 2, none⟩ = some c2 ∧ w.cell? ⟨B, 3, none⟩ = some c3 ∧ w.cell? ⟨B, 4, none⟩ = some c4 ∧ w.cell? ⟨B, 5, none⟩ = some c5 ∧ w.cell? ⟨B, 6, none⟩ = some c6 ∧ w.cell? ⟨B, 7, none⟩ = some c7 ∧ w.cell? ⟨B, 8, none⟩ = some c8 := by
  simp [World.cell?, h]
/-- The state behind an error: zero. -/
noncomputable def pzB (E : Int) : Bool := decide (E = 0)
noncomputable def hrE (no nd ns nc po pd sl : Int) : Int := if inE po pd sl 2120 = 0 then heE no nd ns nc sl (inV po pd sl 2120) else inE po pd sl 2120
noncomputable def hrO (no nd ns nc po pd sl : Int) : Int := if inE po pd sl 2120 = 0 then z0 (heZ no nd ns nc sl (inV po pd sl 2120)) (coO no nd ns nc sl (-meV no nd sl (inV po pd sl 2120))) else 0
noncomputable def hrD (no nd ns nc po pd sl : Int) : Int := if inE po pd sl 2120 = 0 then z0 (heZ no nd ns nc sl (inV po pd sl 2120)) (coD no nd ns nc sl (-meV no nd sl (inV po pd sl 2120))) else 0
noncomputable def hrS (no nd ns nc po pd sl : Int) : Int := if inE po pd sl 2120 = 0 then z0 (heZ no nd ns nc sl (inV po pd sl 2120)) (coS no nd ns nc sl (-meV no nd sl (inV po pd sl 2120))) else 0
noncomputable def hrC (no nd ns nc po pd sl : Int) : Int := if inE po pd sl 2120 = 0 then z0 (heZ no nd ns nc sl (inV po pd sl 2120)) (coC no nd ns nc sl (-meV no nd sl (inV po pd sl 2120))) else 0
noncomputable def akE (no nd ns nc po pd sl : Int) : Int := if inE no nd sl 2120 = 0 then acE no nd ns nc sl (meV po pd sl (inV no nd sl 2120)) else inE no nd sl 2120
noncomputable def akO (no nd ns nc po pd sl : Int) : Int := if inE no nd sl 2120 = 0 then z0 (acZ no nd ns nc sl) (coO no nd ns nc sl (meV po pd sl (inV no nd sl 2120))) else 0
noncomputable def akD (no nd ns nc po pd sl : Int) : Int := if inE no nd sl 2120 = 0 then z0 (acZ no nd ns nc sl) (coD no nd ns nc sl (meV po pd sl (inV no nd sl 2120))) else 0
noncomputable def akS (no nd ns nc po pd sl : Int) : Int := if inE no nd sl 2120 = 0 then z0 (acZ no nd ns nc sl) (coS no nd ns nc sl (meV po pd sl (inV no nd sl 2120))) else 0
noncomputable def akC (no nd ns nc po pd sl : Int) : Int := if inE no nd sl 2120 = 0 then z0 (acZ no nd ns nc sl) (coC no nd ns nc sl (meV po pd sl (inV no nd sl 2120))) else 0
set_option maxHeartbeats 4000000 in
theorem phear_any (no nd ns nc po pd ps pc sl : Int) (w : World) : Calls Try.prog 71 #[.agg #[.int .i64 no, .int .i64 nd, .int .i64 ns, .int .i64 nc, .int .i64 po, .int .i64 pd, .int .i64 ps, .int .i64 pc, .int .i64 sl]] w fun e w' => e = .returned (.tuple #[.agg #[.int .i64 (hrO no nd ns nc po pd sl), .int .i64 (hrD no nd ns nc po pd sl), .int .i64 (hrS no nd ns nc po pd sl), .int .i64 (hrC no nd ns nc po pd sl)], .int .i64 (hrE no nd ns nc po pd sl)]) ∧ Fr no_ w w' := by
  obtain ⟨W, hW⟩ : ∃ W, W = (w.alloc (.cells #[.int .i64 no, .int .i64 nd, .int .i64 ns, .int .i64 nc, .int .i64 po, .int .i64 pd, .int .i64 ps, .int .i64 pc, .int .i64 sl] 75 (0, 0))).alloc (.cells #[.int .i64 0, .int .i64 0, .int .i64 0, .int .i64 0] 25 (0, 0)) := ⟨_, rfl⟩
  have hF : Fr no_ w W := by rw [hW]; exact ((Fr.refl no_ w).alloc _).alloc _
  have h1 : W.heap[w.heap.size]? = some (.cells #[.int .i64 no, .int .i64 nd, .int .i64 ns, .int .i64 nc, .int .i64 po, .int .i64 pd, .int .i64 ps, .int .i64 pc, .int .i64 sl] 75 (0, 0)) := by rw [hW]; exact alloc_keeps (heap_alloc_new w _) _
  have h2 : W.heap[w.heap.size + 1]? = some (.cells #[.int .i64 0, .int .i64 0, .int .i64 0, .int .i64 0] 25 (0, 0)) := by rw [hW]; simpa using heap_alloc_new (w.alloc (.cells #[.int .i64 no, .int .i64 nd, .int .i64 ns, .int .i64 nc, .int .i64 po, .int .i64 pd, .int .i64 ps, .int .i64 pc, .int .i64 sl] 75 (0, 0))) (.cells #[.int .i64 0, .int .i64 0, .int .i64 0, .int .i64 0] 25 (0, 0))
  have HB0 := Lib.hid h2
  have HA0 := Lib.hid h1
  obtain ⟨c0_0, c1_0, c2_0, c3_0, c4_0, c5_0, c6_0, c7_0, c8_0⟩ := nine_cells h1
  have HW := Lib.hid hW
  have HF0 := Lib.hid hF
  clear hW hF h1 h2
  have K1 := Lib.hid (fun w => send_any po pd sl w)
  by_cases k1 : inE po pd sl 2120 = 0
  · have HR := Lib.hid (show hrO no nd ns nc po pd sl = z0 (heZ no nd ns nc sl (inV po pd sl 2120)) (coO no nd ns nc sl (-meV no nd sl (inV po pd sl 2120))) ∧ hrD no nd ns nc po pd sl = z0 (heZ no nd ns nc sl (inV po pd sl 2120)) (coD no nd ns nc sl (-meV no nd sl (inV po pd sl 2120))) ∧ hrS no nd ns nc po pd sl = z0 (heZ no nd ns nc sl (inV po pd sl 2120)) (coS no nd ns nc sl (-meV no nd sl (inV po pd sl 2120))) ∧ hrC no nd ns nc po pd sl = z0 (heZ no nd ns nc sl (inV po pd sl 2120)) (coC no nd ns nc sl (-meV no nd sl (inV po pd sl 2120))) ∧ hrE no nd ns nc po pd sl = heE no nd ns nc sl (inV po pd sl 2120) by simp [hrO, hrD, hrS, hrC, hrE, k1])
    rw [k1] at K1
    have K2 := Lib.hid (fun w => hear_any no nd ns nc sl (inV po pd sl 2120) w)
    generalize z0 (heZ no nd ns nc sl (inV po pd sl 2120)) (coO no nd ns nc sl (-meV no nd sl (inV po pd sl 2120))) = xO at *
    generalize z0 (heZ no nd ns nc sl (inV po pd sl 2120)) (coD no nd ns nc sl (-meV no nd sl (inV po pd sl 2120))) = xD at *
    generalize z0 (heZ no nd ns nc sl (inV po pd sl 2120)) (coS no nd ns nc sl (-meV no nd sl (inV po pd sl 2120))) = xS at *
    generalize z0 (heZ no nd ns nc sl (inV po pd sl 2120)) (coC no nd ns nc sl (-meV no nd sl (inV po pd sl 2120))) = xC at *
    generalize heE no nd ns nc sl (inV po pd sl 2120) = xE at *
    generalize inV po pd sl 2120 = v at *
    clear k1
    go_enter Try.func71, Try.ntmps71
    go_wp2_with fail
    rw [← HW.out]
    refine (K1.out _).mono ?_
    rintro e w1 ⟨rfl, f1⟩
    have HF1 := Lib.hid (HF0.out.noTrans f1)
    have HB1 := Lib.hid (f1.blk HB0.out (fun h => h))
    have HA1 := Lib.hid (f1.blk HA0.out (fun h => h))
    obtain ⟨c0_1, c1_1, c2_1, c3_1, c4_1, c5_1, c6_1, c7_1, c8_1⟩ := nine_cells HA1.out
    obtain ⟨r0_1, r1_1, r2_1, r3_1, g0_1, g1_1, g2_1, g3_1⟩ := four_cells HB1.out
    clear f1 c0_0 c1_0 c2_0 c3_0 c4_0 c5_0 c6_0 c7_0 c8_0
    go_wp2_with fail
    refine (K2.out _).mono ?_
    rintro e w2 ⟨rfl, f2⟩
    have HF2 := Lib.hid (HF1.out.noTrans f2)
    have HB2 := Lib.hid (f2.blk HB1.out (fun h => h))
    have HA2 := Lib.hid (f2.blk HA1.out (fun h => h))
    obtain ⟨c0_2, c1_2, c2_2, c3_2, c4_2, c5_2, c6_2, c7_2, c8_2⟩ := nine_cells HA2.out
    obtain ⟨r0_2, r1_2, r2_2, r3_2, g0_2, g1_2, g2_2, g3_2⟩ := four_cells HB2.out
    clear f2 c0_1 c1_1 c2_1 c3_1 c4_1 c5_1 c6_1 c7_1 c8_1 r0_1 r1_1 r2_1 r3_1 g0_1 g1_1 g2_1 g3_1
    go_wp2_with fail
    obtain ⟨y0, y1, y2, y3, -⟩ := four_cells (set_four HB2.out (.int .i64 (xO)) (.int .i64 (xD)) (.int .i64 (xS)) (.int .i64 (xC)))
    refine bodyPost_ret (v := .tuple #[.agg #[.int .i64 (xO), .int .i64 (xD), .int .i64 (xS), .int .i64 (xC)], .int .i64 (xE)]) (by simp [results, Try.results71, go_sem, y0, y1, y2, y3]) rfl ⟨?_, set_four_fr HF2.out (by simp) _ _ _ _⟩
    rw [HR.out.1, HR.out.2.1, HR.out.2.2.1, HR.out.2.2.2.1, HR.out.2.2.2.2]
  · have HR := Lib.hid (show hrO no nd ns nc po pd sl = 0 ∧ hrD no nd ns nc po pd sl = 0 ∧ hrS no nd ns nc po pd sl = 0 ∧ hrC no nd ns nc po pd sl = 0 ∧ hrE no nd ns nc po pd sl = inE po pd sl 2120 by simp [hrO, hrD, hrS, hrC, hrE, k1])
    generalize inV po pd sl 2120 = v at *
    generalize inE po pd sl 2120 = r at *
    have hr2 : (r == 0) = false := by simpa using k1
    clear k1
    go_enter Try.func71, Try.ntmps71
    go_wp2_with fail
    rw [← HW.out]
    refine (K1.out _).mono ?_
    rintro e w1 ⟨rfl, f1⟩
    have HF1 := Lib.hid (HF0.out.noTrans f1)
    have HB1 := Lib.hid (f1.blk HB0.out (fun h => h))
    have HA1 := Lib.hid (f1.blk HA0.out (fun h => h))
    obtain ⟨c0_1, c1_1, c2_1, c3_1, c4_1, c5_1, c6_1, c7_1, c8_1⟩ := nine_cells HA1.out
    obtain ⟨r0_1, r1_1, r2_1, r3_1, g0_1, g1_1, g2_1, g3_1⟩ := four_cells HB1.out
    clear f1 c0_0 c1_0 c2_0 c3_0 c4_0 c5_0 c6_0 c7_0 c8_0
    go_wp2_with fail
    obtain ⟨y0, y1, y2, y3, -⟩ := four_cells (set_four HB1.out (.int .i64 (0)) (.int .i64 (0)) (.int .i64 (0)) (.int .i64 (0)))
    refine bodyPost_ret (v := .tuple #[.agg #[.int .i64 (0), .int .i64 (0), .int .i64 (0), .int .i64 (0)], .int .i64 (r)]) (by simp [results, Try.results71, go_sem, y0, y1, y2, y3]) rfl ⟨?_, set_four_fr HF1.out (by simp) _ _ _ _⟩
    rw [HR.out.1, HR.out.2.1, HR.out.2.2.1, HR.out.2.2.2.1, HR.out.2.2.2.2]
set_option maxHeartbeats 4000000 in
theorem packed_any (no nd ns nc po pd ps pc sl : Int) (w : World) : Calls Try.prog 70 #[.agg #[.int .i64 no, .int .i64 nd, .int .i64 ns, .int .i64 nc, .int .i64 po, .int .i64 pd, .int .i64 ps, .int .i64 pc, .int .i64 sl]] w fun e w' => e = .returned (.tuple #[.agg #[.int .i64 (akO no nd ns nc po pd sl), .int .i64 (akD no nd ns nc po pd sl), .int .i64 (akS no nd ns nc po pd sl), .int .i64 (akC no nd ns nc po pd sl)], .int .i64 (akE no nd ns nc po pd sl)]) ∧ Fr no_ w w' := by
  obtain ⟨W, hW⟩ : ∃ W, W = (w.alloc (.cells #[.int .i64 no, .int .i64 nd, .int .i64 ns, .int .i64 nc, .int .i64 po, .int .i64 pd, .int .i64 ps, .int .i64 pc, .int .i64 sl] 75 (0, 0))).alloc (.cells #[.int .i64 0, .int .i64 0, .int .i64 0, .int .i64 0] 25 (0, 0)) := ⟨_, rfl⟩
  have hF : Fr no_ w W := by rw [hW]; exact ((Fr.refl no_ w).alloc _).alloc _
  have h1 : W.heap[w.heap.size]? = some (.cells #[.int .i64 no, .int .i64 nd, .int .i64 ns, .int .i64 nc, .int .i64 po, .int .i64 pd, .int .i64 ps, .int .i64 pc, .int .i64 sl] 75 (0, 0)) := by rw [hW]; exact alloc_keeps (heap_alloc_new w _) _
  have h2 : W.heap[w.heap.size + 1]? = some (.cells #[.int .i64 0, .int .i64 0, .int .i64 0, .int .i64 0] 25 (0, 0)) := by rw [hW]; simpa using heap_alloc_new (w.alloc (.cells #[.int .i64 no, .int .i64 nd, .int .i64 ns, .int .i64 nc, .int .i64 po, .int .i64 pd, .int .i64 ps, .int .i64 pc, .int .i64 sl] 75 (0, 0))) (.cells #[.int .i64 0, .int .i64 0, .int .i64 0, .int .i64 0] 25 (0, 0))
  have HB0 := Lib.hid h2
  have HA0 := Lib.hid h1
  obtain ⟨c0_0, c1_0, c2_0, c3_0, c4_0, c5_0, c6_0, c7_0, c8_0⟩ := nine_cells h1
  have HW := Lib.hid hW
  have HF0 := Lib.hid hF
  clear hW hF h1 h2
  have K1 := Lib.hid (fun w => send_any no nd sl w)
  by_cases k1 : inE no nd sl 2120 = 0
  · have HR := Lib.hid (show akO no nd ns nc po pd sl = z0 (acZ no nd ns nc sl) (coO no nd ns nc sl (meV po pd sl (inV no nd sl 2120))) ∧ akD no nd ns nc po pd sl = z0 (acZ no nd ns nc sl) (coD no nd ns nc sl (meV po pd sl (inV no nd sl 2120))) ∧ akS no nd ns nc po pd sl = z0 (acZ no nd ns nc sl) (coS no nd ns nc sl (meV po pd sl (inV no nd sl 2120))) ∧ akC no nd ns nc po pd sl = z0 (acZ no nd ns nc sl) (coC no nd ns nc sl (meV po pd sl (inV no nd sl 2120))) ∧ akE no nd ns nc po pd sl = acE no nd ns nc sl (meV po pd sl (inV no nd sl 2120)) by simp [akO, akD, akS, akC, akE, k1])
    rw [k1] at K1
    have K2 := Lib.hid (fun w => measure_any po pd sl (inV no nd sl 2120) w)
    have K3 := Lib.hid (fun w => acked_any no nd ns nc sl (meV po pd sl (inV no nd sl 2120)) w)
    generalize z0 (acZ no nd ns nc sl) (coO no nd ns nc sl (meV po pd sl (inV no nd sl 2120))) = xO at *
    generalize z0 (acZ no nd ns nc sl) (coD no nd ns nc sl (meV po pd sl (inV no nd sl 2120))) = xD at *
    generalize z0 (acZ no nd ns nc sl) (coS no nd ns nc sl (meV po pd sl (inV no nd sl 2120))) = xS at *
    generalize z0 (acZ no nd ns nc sl) (coC no nd ns nc sl (meV po pd sl (inV no nd sl 2120))) = xC at *
    generalize acE no nd ns nc sl (meV po pd sl (inV no nd sl 2120)) = xE at *
    generalize meV po pd sl (inV no nd sl 2120) = mv at *
    generalize meE po pd sl (inV no nd sl 2120) = me at *
    generalize inV no nd sl 2120 = v at *
    clear k1
    go_enter Try.func70, Try.ntmps70
    go_wp2_with fail
    rw [← HW.out]
    refine (K1.out _).mono ?_
    rintro e w1 ⟨rfl, f1⟩
    have HF1 := Lib.hid (HF0.out.noTrans f1)
    have HB1 := Lib.hid (f1.blk HB0.out (fun h => h))
    have HA1 := Lib.hid (f1.blk HA0.out (fun h => h))
    obtain ⟨c0_1, c1_1, c2_1, c3_1, c4_1, c5_1, c6_1, c7_1, c8_1⟩ := nine_cells HA1.out
    obtain ⟨r0_1, r1_1, r2_1, r3_1, g0_1, g1_1, g2_1, g3_1⟩ := four_cells HB1.out
    clear f1 c0_0 c1_0 c2_0 c3_0 c4_0 c5_0 c6_0 c7_0 c8_0
    go_wp2_with fail
    refine (K2.out _).mono ?_
    rintro e w2 ⟨rfl, f2⟩
    have HF2 := Lib.hid (HF1.out.noTrans f2)
    have HB2 := Lib.hid (f2.blk HB1.out (fun h => h))
    have HA2 := Lib.hid (f2.blk HA1.out (fun h => h))
    obtain ⟨c0_2, c1_2, c2_2, c3_2, c4_2, c5_2, c6_2, c7_2, c8_2⟩ := nine_cells HA2.out
    obtain ⟨r0_2, r1_2, r2_2, r3_2, g0_2, g1_2, g2_2, g3_2⟩ := four_cells HB2.out
    clear f2 c0_1 c1_1 c2_1 c3_1 c4_1 c5_1 c6_1 c7_1 c8_1 r0_1 r1_1 r2_1 r3_1 g0_1 g1_1 g2_1 g3_1
    go_wp2_with fail
    refine (K3.out _).mono ?_
    rintro e w3 ⟨rfl, f3⟩
    have HF3 := Lib.hid (HF2.out.noTrans f3)
    have HB3 := Lib.hid (f3.blk HB2.out (fun h => h))
    have HA3 := Lib.hid (f3.blk HA2.out (fun h => h))
    obtain ⟨c0_3, c1_3, c2_3, c3_3, c4_3, c5_3, c6_3, c7_3, c8_3⟩ := nine_cells HA3.out
    obtain ⟨r0_3, r1_3, r2_3, r3_3, g0_3, g1_3, g2_3, g3_3⟩ := four_cells HB3.out
    clear f3 c0_2 c1_2 c2_2 c3_2 c4_2 c5_2 c6_2 c7_2 c8_2 r0_2 r1_2 r2_2 r3_2 g0_2 g1_2 g2_2 g3_2
    go_wp2_with fail
    obtain ⟨y0, y1, y2, y3, -⟩ := four_cells (set_four HB3.out (.int .i64 (xO)) (.int .i64 (xD)) (.int .i64 (xS)) (.int .i64 (xC)))
    refine bodyPost_ret (v := .tuple #[.agg #[.int .i64 (xO), .int .i64 (xD), .int .i64 (xS), .int .i64 (xC)], .int .i64 (xE)]) (by simp [results, Try.results70, go_sem, y0, y1, y2, y3]) rfl ⟨?_, set_four_fr HF3.out (by simp) _ _ _ _⟩
    rw [HR.out.1, HR.out.2.1, HR.out.2.2.1, HR.out.2.2.2.1, HR.out.2.2.2.2]
  · have HR := Lib.hid (show akO no nd ns nc po pd sl = 0 ∧ akD no nd ns nc po pd sl = 0 ∧ akS no nd ns nc po pd sl = 0 ∧ akC no nd ns nc po pd sl = 0 ∧ akE no nd ns nc po pd sl = inE no nd sl 2120 by simp [akO, akD, akS, akC, akE, k1])
    generalize inV no nd sl 2120 = v at *
    generalize inE no nd sl 2120 = r at *
    have hr2 : (r == 0) = false := by simpa using k1
    clear k1
    go_enter Try.func70, Try.ntmps70
    go_wp2_with fail
    rw [← HW.out]
    refine (K1.out _).mono ?_
    rintro e w1 ⟨rfl, f1⟩
    have HF1 := Lib.hid (HF0.out.noTrans f1)
    have HB1 := Lib.hid (f1.blk HB0.out (fun h => h))
    have HA1 := Lib.hid (f1.blk HA0.out (fun h => h))
    obtain ⟨c0_1, c1_1, c2_1, c3_1, c4_1, c5_1, c6_1, c7_1, c8_1⟩ := nine_cells HA1.out
    obtain ⟨r0_1, r1_1, r2_1, r3_1, g0_1, g1_1, g2_1, g3_1⟩ := four_cells HB1.out
    clear f1 c0_0 c1_0 c2_0 c3_0 c4_0 c5_0 c6_0 c7_0 c8_0
    go_wp2_with fail
    obtain ⟨y0, y1, y2, y3, -⟩ := four_cells (set_four HB1.out (.int .i64 (0)) (.int .i64 (0)) (.int .i64 (0)) (.int .i64 (0)))
    refine bodyPost_ret (v := .tuple #[.agg #[.int .i64 (0), .int .i64 (0), .int .i64 (0), .int .i64 (0)], .int .i64 (r)]) (by simp [results, Try.results70, go_sem, y0, y1, y2, y3]) rfl ⟨?_, set_four_fr HF1.out (by simp) _ _ _ _⟩
    rw [HR.out.1, HR.out.2.1, HR.out.2.2.1, HR.out.2.2.2.1, HR.out.2.2.2.2]
theorem kindOf_any (n s : Int) (a : Bool) (w : World) : Calls Try.prog 55 #[.agg #[.int .i64 n, .int .i64 s, .bool a]] w fun e w' => e = .returned (.func (.func (if a then 70 else 71)) #[] #[]) ∧ Fr no_ w w' := by
  cases a
  · go_enter Try.func55, Try.ntmps55
    go_wp2_with fail
    go_ret
    exact ⟨rfl, (Fr.refl no_ w).alloc _⟩
  · go_enter Try.func55, Try.ntmps55
    go_wp2_with fail
    go_ret
    exact ⟨rfl, (Fr.refl no_ w).alloc _⟩

end Go.Proofs.Ytmkmefcafpgphaa
