/- De1t, De1f, De2t, De2f in one text. -/
import Derived.Test.YtelpdihaonoedaaDer
import Derived.Deep.Cut
namespace Go.Proofs.Ytelpdihaonoedaa
open Go.RowKit
set_option linter.unusedVariables false
set_option maxRecDepth 20000

set_option maxHeartbeats 8000000 in
theorem dc1t (s : ByteArray) (w : World) (hs : s.size ≤ 127) (hc : chkE s = 0) {st0 : RSt} (hst : rNew (chkV s) = st0) {n1 n3 n4 n5 n6 n7 : Int} {d8 : ByteArray} {t0 t1 t2 t3 t4 t5 t6 t7 t8 : RSt} (h0 : rUnsigned 3 st0 = (1, t0)) (h1 : rUnsigned 5 t0 = (n1, t1)) (h2 : rFlag t1 = (true, t2)) (h3 : rUnsigned 5 t2 = (n3, t3)) (h4 : rUnsigned 8 t3 = (n4, t4)) (h5 : rUnsigned 8 t4 = (n5, t5)) (h6 : rUnsigned 8 t5 = (n6, t6)) (h7 : rUnsigned 16 t6 = (n7, t7)) (h8 : rText 127 t7 = (d8, t8)) (V : Frm) (E : Int)
    (hk : (rClose t8 ≠ 0 ∧ V = zeroF ∧ E = 10) ∨ (rClose t8 = 0 ∧ okF (⟨1, n1, n3, n4, n5, n6, n7, 0, 0, 0, 0, d8⟩ : Frm) = false ∧ V = zeroF ∧ E = 10) ∨ (rClose t8 = 0 ∧ okF (⟨1, n1, n3, n4, n5, n6, n7, 0, 0, 0, 0, d8⟩ : Frm) = true ∧ V = (⟨1, n1, n3, n4, n5, n6, n7, 0, 0, 0, 0, d8⟩ : Frm) ∧ E = 0)) :
    Calls Try.prog 21 #[.string s] w fun e w' => e = .returned (.tuple #[.agg (frA V), .int .i64 E]) ∧ Fr no w w' := by
  have HC := Lib.hid (fun w => checkR_any s w (by omega))
  rw [hc] at HC
  have h127 : ¬ (127 : Int) < (s.size : Int) := by omega
  have HR := Lib.hid (fun w => newReaderR_any (chkV s) w (by have := chkV_small s hs; omega))
  rw [hst] at HR
  have HV := Lib.hid (fun w => ckr_any (⟨1, n1, n3, n4, n5, n6, n7, 0, 0, 0, 0, d8⟩ : Frm) w)
  have HK := Lib.hid hk
  have G0 := Lib.hid h0
  have G1 := Lib.hid h1
  have G2 := Lib.hid h2
  have G3 := Lib.hid h3
  have G4 := Lib.hid h4
  have G5 := Lib.hid h5
  have G6 := Lib.hid h6
  have G7 := Lib.hid h7
  have G8 := Lib.hid h8
  clear hs hc hk hst h0 h1 h2 h3 h4 h5 h6 h7 h8
  obtain ⟨W, hW⟩ : ∃ W, W = w.alloc (.cells zA 23 (0, 0)) := ⟨_, rfl⟩
  have HW := Lib.hid hW
  have HFW := Lib.hid (show Fr no w W by rw [hW]; exact (Fr.refl no w).alloc _)
  have HB := Lib.hid (show W.heap[w.heap.size]? = some (.cells zA 23 (0, 0)) by rw [hW]; exact heap_alloc_new w _)
  clear hW
  simp only [zA] at HW
  go_enter Try.func21, Try.ntmps21
  go_wp2_with fail
  rw [← HW.out]
  go_wp2_with fail
  refine (HC.out _).mono ?_
  rintro e1 w1 ⟨rfl, f1⟩
  have HF1 := Lib.hid (HFW.out.noTrans f1)
  have HB1 := Lib.hid (f1.blk HB.out (fun h => h))
  clear f1 HB
  go_wp2_with fail
  refine (HR.out _).mono ?_
  rintro e2 w2 ⟨rfl, hr, f2⟩
  have HF2 := Lib.hid (fr_nop f2 (fun _ h => h))
  have HR2 := Lib.hid hr
  clear f2 hr
  go_wp2_with fail
  refine (rUnsignedR_any w1.heap.size _ 3 _ HR2.out).mono ?_
  rw [G0.out]
  rintro e3 w3 ⟨rfl, hr, f3⟩
  have HR3 := Lib.hid hr
  have HF3 := Lib.hid f3
  clear hr f3
  go_wp2_with fail
  refine (rUnsignedR_any w1.heap.size _ 5 _ HR3.out).mono ?_
  rw [G1.out]
  rintro e4 w4 ⟨rfl, hr, f4⟩
  have X4 := Lib.hid (show Sx w4.heap.size w1.heap.size w (w4.alloc (.cells (frA ⟨1, n1, -1, 0, 0, 0, 0, 0, 0, 0, 0, ⟨#[]⟩⟩) 23 (0, 0))) ⟨1, n1, -1, 0, 0, 0, 0, 0, 0, 0, 0, ⟨#[]⟩⟩ t1 by
    have z1 := lt_of_blk HB1.out
    have z2 := HF2.out.size
    have z3 := HF3.out.size
    have z4 := f4.size
    have z5 := lt_of_blk hr.blk
    have b2 := HF2.out.blk HB1.out (fun h => h)
    have b3 := HF3.out.blk b2 (by simp only [only]; omega)
    have b4 := f4.blk b3 (by simp only [only]; omega)
    refine ⟨hr.alloc _, heap_alloc_new w4 _, alloc_keeps b4 _, by omega, by omega, by omega, ?_⟩
    have q : Fr (fun k => w.heap.size ≤ k) w w2 := (HF1.out.noTrans HF2.out).mono (fun _ _ hh => hh.elim)
    exact ((q.trans (HF3.out.mono (S' := fun k => w.heap.size ≤ k) (fun i _ hi => by rw [show i = w1.heap.size from hi]; omega)) (fun _ _ hh => hh)).trans (f4.mono (S' := fun k => w.heap.size ≤ k) (fun i _ hi => by rw [show i = w1.heap.size from hi]; omega)) (fun _ _ hh => hh)).alloc _)
  clear hr f4 HR2 HR3 HF1 HF2 HF3 HB1
  go_wp2_with fail
  obtain ⟨v4, hv4⟩ : ∃ v4, v4 = w4.alloc (.cells #[.int .i64 1, .int .i64 n1, .int .i64 (-1), .int .i64 0, .int .i64 0, .int .i64 0, .int .i64 0, .int .i64 0, .int .i64 0, .int .i64 0, .int .i64 0, .string ⟨#[]⟩] 23 (0, 0)) := ⟨_, rfl⟩
  have X5 := Lib.hid (show Sx w4.heap.size w1.heap.size w v4 ⟨1, n1, -1, 0, 0, 0, 0, 0, 0, 0, 0, ⟨#[]⟩⟩ t1 by rw [hv4]; exact X4.out)
  rw [← hv4]
  clear hv4 X4
  generalize w4.heap.size = F at *
  generalize w1.heap.size = B at *
  clear HFW HW
  obtain ⟨c0, c1, c2, c3, c4, c5, c6, c7, c8, c9, c10, c11⟩ := twelve_cells X5.out.f
  go_wp2_with fail
  refine (rFlagR_any B _ _ X5.out.rd).mono ?_
  rw [G2.out]
  rintro e5 u5 ⟨rfl, hr, fr⟩
  have X6 := Lib.hid (X5.out.read hr fr)
  clear hr fr X5 c0 c1 c2 c3 c4 c5 c6 c7 c8 c9 c10 c11
  obtain ⟨c0, c1, c2, c3, c4, c5, c6, c7, c8, c9, c10, c11⟩ := twelve_cells X6.out.f
  go_wp2_with fail
  refine (rUnsignedR_any B _ 5 _ X6.out.rd).mono ?_
  rw [G3.out]
  rintro e6 u6 ⟨rfl, hr, fr⟩
  have X7 := Lib.hid (X6.out.read hr fr)
  clear hr fr X6 c0 c1 c2 c3 c4 c5 c6 c7 c8 c9 c10 c11
  obtain ⟨c0, c1, c2, c3, c4, c5, c6, c7, c8, c9, c10, c11⟩ := twelve_cells X7.out.f
  have zf : u6.frozen? ⟨F, 2, none⟩ = false := by simp [World.frozen?, X7.out.f]
  go_upto_region 10 with (fail)
  obtain ⟨v7, hv7⟩ : ∃ v, v = u6.setCell ⟨F, 2, none⟩ (.int .i64 n3) := ⟨_, rfl⟩
  have X8 := Lib.hid (show Sx F B w v7 ⟨1, n1, n3, 0, 0, 0, 0, 0, 0, 0, 0, ⟨#[]⟩⟩ t3 by rw [hv7]; exact X7.out.put 2 _ _ rfl)
  rw [← hv7]
  clear hv7 zf X7 c0 c1 c2 c3 c4 c5 c6 c7 c8 c9 c10 c11
  obtain ⟨c0, c1, c2, c3, c4, c5, c6, c7, c8, c9, c10, c11⟩ := twelve_cells X8.out.f
  go_wp2_with fail
  refine (rUnsignedR_any B _ 8 _ X8.out.rd).mono ?_
  rw [G4.out]
  rintro e8 u8 ⟨rfl, hr, fr⟩
  have X9 := Lib.hid (X8.out.read hr fr)
  clear hr fr X8 c0 c1 c2 c3 c4 c5 c6 c7 c8 c9 c10 c11
  obtain ⟨c0, c1, c2, c3, c4, c5, c6, c7, c8, c9, c10, c11⟩ := twelve_cells X9.out.f
  have zf : u8.frozen? ⟨F, 3, none⟩ = false := by simp [World.frozen?, X9.out.f]
  go_upto_region 11 with (fail)
  obtain ⟨v9, hv9⟩ : ∃ v, v = u8.setCell ⟨F, 3, none⟩ (.int .i64 n4) := ⟨_, rfl⟩
  have X10 := Lib.hid (show Sx F B w v9 ⟨1, n1, n3, n4, 0, 0, 0, 0, 0, 0, 0, ⟨#[]⟩⟩ t4 by rw [hv9]; exact X9.out.put 3 _ _ rfl)
  rw [← hv9]
  clear hv9 zf X9 c0 c1 c2 c3 c4 c5 c6 c7 c8 c9 c10 c11
  obtain ⟨c0, c1, c2, c3, c4, c5, c6, c7, c8, c9, c10, c11⟩ := twelve_cells X10.out.f
  go_wp2_with fail
  refine (rUnsignedR_any B _ 8 _ X10.out.rd).mono ?_
  rw [G5.out]
  rintro e10 u10 ⟨rfl, hr, fr⟩
  have X11 := Lib.hid (X10.out.read hr fr)
  clear hr fr X10 c0 c1 c2 c3 c4 c5 c6 c7 c8 c9 c10 c11
  obtain ⟨c0, c1, c2, c3, c4, c5, c6, c7, c8, c9, c10, c11⟩ := twelve_cells X11.out.f
  have zf : u10.frozen? ⟨F, 4, none⟩ = false := by simp [World.frozen?, X11.out.f]
  go_upto_region 12 with (fail)
  obtain ⟨v11, hv11⟩ : ∃ v, v = u10.setCell ⟨F, 4, none⟩ (.int .i64 n5) := ⟨_, rfl⟩
  have X12 := Lib.hid (show Sx F B w v11 ⟨1, n1, n3, n4, n5, 0, 0, 0, 0, 0, 0, ⟨#[]⟩⟩ t5 by rw [hv11]; exact X11.out.put 4 _ _ rfl)
  rw [← hv11]
  clear hv11 zf X11 c0 c1 c2 c3 c4 c5 c6 c7 c8 c9 c10 c11
  obtain ⟨c0, c1, c2, c3, c4, c5, c6, c7, c8, c9, c10, c11⟩ := twelve_cells X12.out.f
  go_wp2_with fail
  refine (rUnsignedR_any B _ 8 _ X12.out.rd).mono ?_
  rw [G6.out]
  rintro e12 u12 ⟨rfl, hr, fr⟩
  have X13 := Lib.hid (X12.out.read hr fr)
  clear hr fr X12 c0 c1 c2 c3 c4 c5 c6 c7 c8 c9 c10 c11
  obtain ⟨c0, c1, c2, c3, c4, c5, c6, c7, c8, c9, c10, c11⟩ := twelve_cells X13.out.f
  have zf : u12.frozen? ⟨F, 5, none⟩ = false := by simp [World.frozen?, X13.out.f]
  go_upto_region 14 with (fail)
  obtain ⟨v13, hv13⟩ : ∃ v, v = u12.setCell ⟨F, 5, none⟩ (.int .i64 n6) := ⟨_, rfl⟩
  have X14 := Lib.hid (show Sx F B w v13 ⟨1, n1, n3, n4, n5, n6, 0, 0, 0, 0, 0, ⟨#[]⟩⟩ t6 by rw [hv13]; exact X13.out.put 5 _ _ rfl)
  rw [← hv13]
  clear hv13 zf X13 c0 c1 c2 c3 c4 c5 c6 c7 c8 c9 c10 c11
  obtain ⟨c0, c1, c2, c3, c4, c5, c6, c7, c8, c9, c10, c11⟩ := twelve_cells X14.out.f
  go_wp2_with fail
  refine (rUnsignedR_any B _ 16 _ X14.out.rd).mono ?_
  rw [G7.out]
  rintro e14 u14 ⟨rfl, hr, fr⟩
  have X15 := Lib.hid (X14.out.read hr fr)
  clear hr fr X14 c0 c1 c2 c3 c4 c5 c6 c7 c8 c9 c10 c11
  obtain ⟨c0, c1, c2, c3, c4, c5, c6, c7, c8, c9, c10, c11⟩ := twelve_cells X15.out.f
  have zf : u14.frozen? ⟨F, 6, none⟩ = false := by simp [World.frozen?, X15.out.f]
  go_upto_region 15 with (fail)
  obtain ⟨v15, hv15⟩ : ∃ v, v = u14.setCell ⟨F, 6, none⟩ (.int .i64 n7) := ⟨_, rfl⟩
  have X16 := Lib.hid (show Sx F B w v15 ⟨1, n1, n3, n4, n5, n6, n7, 0, 0, 0, 0, ⟨#[]⟩⟩ t7 by rw [hv15]; exact X15.out.put 6 _ _ rfl)
  rw [← hv15]
  clear hv15 zf X15 c0 c1 c2 c3 c4 c5 c6 c7 c8 c9 c10 c11
  obtain ⟨c0, c1, c2, c3, c4, c5, c6, c7, c8, c9, c10, c11⟩ := twelve_cells X16.out.f
  go_wp2_with fail
  refine (rTextR_any B _ 127 _ (by decide) X16.out.rd).mono ?_
  rw [G8.out]
  rintro e16 u16 ⟨rfl, hr, fr⟩
  have X17 := Lib.hid (X16.out.read hr fr)
  clear hr fr X16 c0 c1 c2 c3 c4 c5 c6 c7 c8 c9 c10 c11
  obtain ⟨c0, c1, c2, c3, c4, c5, c6, c7, c8, c9, c10, c11⟩ := twelve_cells X17.out.f
  have zf : u16.frozen? ⟨F, 11, none⟩ = false := by simp [World.frozen?, X17.out.f]
  go_upto_region 23 with (fail)
  obtain ⟨v17, hv17⟩ : ∃ v, v = u16.setCell ⟨F, 11, none⟩ (.string d8) := ⟨_, rfl⟩
  have X18 := Lib.hid (show Sx F B w v17 ⟨1, n1, n3, n4, n5, n6, n7, 0, 0, 0, 0, d8⟩ t8 by rw [hv17]; exact X17.out.put 11 _ _ rfl)
  rw [← hv17]
  clear hv17 zf X17 c0 c1 c2 c3 c4 c5 c6 c7 c8 c9 c10 c11
  obtain ⟨c0, c1, c2, c3, c4, c5, c6, c7, c8, c9, c10, c11⟩ := twelve_cells X18.out.f
  go_wp2_with fail
  refine (rCloseR_any B _ _ X18.out.rd).mono ?_
  rintro e30 w30 ⟨rfl, f30⟩
  have HF30 := Lib.hid (ge_nop (X18.out.fr.trans f30 (fun _ _ hh => hh.elim)))
  have HZ30 := Lib.hid (f30.blk X18.out.z (fun h => h))
  have HY30 := Lib.hid (f30.blk X18.out.f (fun h => h))
  clear f30 X18 c0 c1 c2 c3 c4 c5 c6 c7 c8 c9 c10 c11
  generalize rClose t8 = c at *
  rcases HK.out with ⟨k5, rfl, rfl⟩ | ⟨k5, k6, rfl, rfl⟩ | ⟨k5, k6, rfl, rfl⟩
  · have kb : (c != 0) = true := by simp [k5]
    obtain ⟨z0, z1, z2, z3, z4, z5, z6, z7, z8, z9, z10, z11⟩ := twelve_cells HZ30.out
    have zf := fun i => (show w30.frozen? ⟨w.heap.size, i, none⟩ = false by simp [World.frozen?, HZ30.out])
    clear HK k5 HV
    go_wp2_with fail
    refine bodyPost_ret (v := .tuple #[.agg #[.int .i64 0, .int .i64 0, .int .i64 0, .int .i64 0, .int .i64 0, .int .i64 0, .int .i64 0, .int .i64 0, .int .i64 0, .int .i64 0, .int .i64 0, .string ⟨#[]⟩], .int .i64 10]) (by simp [results, Try.results21, go_sem, z0, z1, z2, z3, z4, z5, z6, z7, z8, z9, z10, z11]) rfl ?_
    exact ⟨rfl, fr12 HF30.out (Nat.le_refl _) _ _ _ _ _ _ _ _ _ _ _ _⟩
  · subst k5
    rw [k6] at HV
    clear HK k6
    obtain ⟨y0, y1, y2, y3, y4, y5, y6, y7, y8, y9, y10, y11⟩ := twelve_cells HY30.out
    simp only [frA] at HV
    go_wp2_with fail
    refine (HV.out _).mono ?_
    rintro e31 w31 ⟨rfl, f31⟩
    have HF31 := Lib.hid (HF30.out.noTrans f31)
    have HZ31 := Lib.hid (f31.blk HZ30.out (fun h => h))
    have HY31 := Lib.hid (f31.blk HY30.out (fun h => h))
    clear f31 y0 y1 y2 y3 y4 y5 y6 y7 y8 y9 y10 y11
    obtain ⟨z0, z1, z2, z3, z4, z5, z6, z7, z8, z9, z10, z11⟩ := twelve_cells HZ31.out
    obtain ⟨y0, y1, y2, y3, y4, y5, y6, y7, y8, y9, y10, y11⟩ := twelve_cells HY31.out
    have zf := fun i => (show w31.frozen? ⟨w.heap.size, i, none⟩ = false by simp [World.frozen?, HZ31.out])
    go_wp2_with fail
    refine bodyPost_ret (v := .tuple #[.agg #[.int .i64 0, .int .i64 0, .int .i64 0, .int .i64 0, .int .i64 0, .int .i64 0, .int .i64 0, .int .i64 0, .int .i64 0, .int .i64 0, .int .i64 0, .string ⟨#[]⟩], .int .i64 10]) (by simp [results, Try.results21, go_sem, z0, z1, z2, z3, z4, z5, z6, z7, z8, z9, z10, z11]) rfl ?_
    exact ⟨rfl, fr12 HF31.out (Nat.le_refl _) _ _ _ _ _ _ _ _ _ _ _ _⟩
  · subst k5
    rw [k6] at HV
    clear HK k6
    obtain ⟨y0, y1, y2, y3, y4, y5, y6, y7, y8, y9, y10, y11⟩ := twelve_cells HY30.out
    simp only [frA] at HV
    go_wp2_with fail
    refine (HV.out _).mono ?_
    rintro e31 w31 ⟨rfl, f31⟩
    have HF31 := Lib.hid (HF30.out.noTrans f31)
    have HZ31 := Lib.hid (f31.blk HZ30.out (fun h => h))
    have HY31 := Lib.hid (f31.blk HY30.out (fun h => h))
    clear f31 y0 y1 y2 y3 y4 y5 y6 y7 y8 y9 y10 y11
    obtain ⟨z0, z1, z2, z3, z4, z5, z6, z7, z8, z9, z10, z11⟩ := twelve_cells HZ31.out
    obtain ⟨y0, y1, y2, y3, y4, y5, y6, y7, y8, y9, y10, y11⟩ := twelve_cells HY31.out
    have zf := fun i => (show w31.frozen? ⟨w.heap.size, i, none⟩ = false by simp [World.frozen?, HZ31.out])
    go_wp2_with fail
    refine bodyPost_ret (v := .tuple #[.agg #[.int .i64 1, .int .i64 n1, .int .i64 n3, .int .i64 n4, .int .i64 n5, .int .i64 n6, .int .i64 n7, .int .i64 0, .int .i64 0, .int .i64 0, .int .i64 0, .string d8], .int .i64 0]) (by simp [results, Try.results21, go_sem, z0, z1, z2, z3, z4, z5, z6, z7, z8, z9, z10, z11]) rfl ?_
    exact ⟨rfl, fr12 HF31.out (Nat.le_refl _) _ _ _ _ _ _ _ _ _ _ _ _⟩
end Go.Proofs.Ytelpdihaonoedaa
namespace Go.Proofs.Ytelpdihaonoedaa
open Go.RowKit
set_option linter.unusedVariables false
set_option maxRecDepth 20000

set_option maxHeartbeats 8000000 in
theorem dc1f (s : ByteArray) (w : World) (hs : s.size ≤ 127) (hc : chkE s = 0) {st0 : RSt} (hst : rNew (chkV s) = st0) {n1 n4 n5 n6 n7 : Int} {d8 : ByteArray} {t0 t1 t2 t3 t4 t5 t6 t7 : RSt} (h0 : rUnsigned 3 st0 = (1, t0)) (h1 : rUnsigned 5 t0 = (n1, t1)) (h2 : rFlag t1 = (false, t2)) (h3 : rUnsigned 8 t2 = (n4, t3)) (h4 : rUnsigned 8 t3 = (n5, t4)) (h5 : rUnsigned 8 t4 = (n6, t5)) (h6 : rUnsigned 16 t5 = (n7, t6)) (h7 : rText 127 t6 = (d8, t7)) (V : Frm) (E : Int)
    (hk : (rClose t7 ≠ 0 ∧ V = zeroF ∧ E = 10) ∨ (rClose t7 = 0 ∧ okF (⟨1, n1, -1, n4, n5, n6, n7, 0, 0, 0, 0, d8⟩ : Frm) = false ∧ V = zeroF ∧ E = 10) ∨ (rClose t7 = 0 ∧ okF (⟨1, n1, -1, n4, n5, n6, n7, 0, 0, 0, 0, d8⟩ : Frm) = true ∧ V = (⟨1, n1, -1, n4, n5, n6, n7, 0, 0, 0, 0, d8⟩ : Frm) ∧ E = 0)) :
    Calls Try.prog 21 #[.string s] w fun e w' => e = .returned (.tuple #[.agg (frA V), .int .i64 E]) ∧ Fr no w w' := by
  have HC := Lib.hid (fun w => checkR_any s w (by omega))
  rw [hc] at HC
  have h127 : ¬ (127 : Int) < (s.size : Int) := by omega
  have HR := Lib.hid (fun w => newReaderR_any (chkV s) w (by have := chkV_small s hs; omega))
  rw [hst] at HR
  have HV := Lib.hid (fun w => ckr_any (⟨1, n1, -1, n4, n5, n6, n7, 0, 0, 0, 0, d8⟩ : Frm) w)
  have HK := Lib.hid hk
  have G0 := Lib.hid h0
  have G1 := Lib.hid h1
  have G2 := Lib.hid h2
  have G3 := Lib.hid h3
  have G4 := Lib.hid h4
  have G5 := Lib.hid h5
  have G6 := Lib.hid h6
  have G7 := Lib.hid h7
  clear hs hc hk hst h0 h1 h2 h3 h4 h5 h6 h7
  obtain ⟨W, hW⟩ : ∃ W, W = w.alloc (.cells zA 23 (0, 0)) := ⟨_, rfl⟩
  have HW := Lib.hid hW
  have HFW := Lib.hid (show Fr no w W by rw [hW]; exact (Fr.refl no w).alloc _)
  have HB := Lib.hid (show W.heap[w.heap.size]? = some (.cells zA 23 (0, 0)) by rw [hW]; exact heap_alloc_new w _)
  clear hW
  simp only [zA] at HW
  go_enter Try.func21, Try.ntmps21
  go_wp2_with fail
  rw [← HW.out]
  go_wp2_with fail
  refine (HC.out _).mono ?_
  rintro e1 w1 ⟨rfl, f1⟩
  have HF1 := Lib.hid (HFW.out.noTrans f1)
  have HB1 := Lib.hid (f1.blk HB.out (fun h => h))
  clear f1 HB
  go_wp2_with fail
  refine (HR.out _).mono ?_
  rintro e2 w2 ⟨rfl, hr, f2⟩
  have HF2 := Lib.hid (fr_nop f2 (fun _ h => h))
  have HR2 := Lib.hid hr
  clear f2 hr
  go_wp2_with fail
  refine (rUnsignedR_any w1.heap.size _ 3 _ HR2.out).mono ?_
  rw [G0.out]
  rintro e3 w3 ⟨rfl, hr, f3⟩
  have HR3 := Lib.hid hr
  have HF3 := Lib.hid f3
  clear hr f3
  go_wp2_with fail
  refine (rUnsignedR_any w1.heap.size _ 5 _ HR3.out).mono ?_
  rw [G1.out]
  rintro e4 w4 ⟨rfl, hr, f4⟩
  have X4 := Lib.hid (show Sx w4.heap.size w1.heap.size w (w4.alloc (.cells (frA ⟨1, n1, -1, 0, 0, 0, 0, 0, 0, 0, 0, ⟨#[]⟩⟩) 23 (0, 0))) ⟨1, n1, -1, 0, 0, 0, 0, 0, 0, 0, 0, ⟨#[]⟩⟩ t1 by
    have z1 := lt_of_blk HB1.out
    have z2 := HF2.out.size
    have z3 := HF3.out.size
    have z4 := f4.size
    have z5 := lt_of_blk hr.blk
    have b2 := HF2.out.blk HB1.out (fun h => h)
    have b3 := HF3.out.blk b2 (by simp only [only]; omega)
    have b4 := f4.blk b3 (by simp only [only]; omega)
    refine ⟨hr.alloc _, heap_alloc_new w4 _, alloc_keeps b4 _, by omega, by omega, by omega, ?_⟩
    have q : Fr (fun k => w.heap.size ≤ k) w w2 := (HF1.out.noTrans HF2.out).mono (fun _ _ hh => hh.elim)
    exact ((q.trans (HF3.out.mono (S' := fun k => w.heap.size ≤ k) (fun i _ hi => by rw [show i = w1.heap.size from hi]; omega)) (fun _ _ hh => hh)).trans (f4.mono (S' := fun k => w.heap.size ≤ k) (fun i _ hi => by rw [show i = w1.heap.size from hi]; omega)) (fun _ _ hh => hh)).alloc _)
  clear hr f4 HR2 HR3 HF1 HF2 HF3 HB1
  go_wp2_with fail
  obtain ⟨v4, hv4⟩ : ∃ v4, v4 = w4.alloc (.cells #[.int .i64 1, .int .i64 n1, .int .i64 (-1), .int .i64 0, .int .i64 0, .int .i64 0, .int .i64 0, .int .i64 0, .int .i64 0, .int .i64 0, .int .i64 0, .string ⟨#[]⟩] 23 (0, 0)) := ⟨_, rfl⟩
  have X5 := Lib.hid (show Sx w4.heap.size w1.heap.size w v4 ⟨1, n1, -1, 0, 0, 0, 0, 0, 0, 0, 0, ⟨#[]⟩⟩ t1 by rw [hv4]; exact X4.out)
  rw [← hv4]
  clear hv4 X4
  generalize w4.heap.size = F at *
  generalize w1.heap.size = B at *
  clear HFW HW
  obtain ⟨c0, c1, c2, c3, c4, c5, c6, c7, c8, c9, c10, c11⟩ := twelve_cells X5.out.f
  go_wp2_with fail
  refine (rFlagR_any B _ _ X5.out.rd).mono ?_
  rw [G2.out]
  rintro e5 u5 ⟨rfl, hr, fr⟩
  have X6 := Lib.hid (X5.out.read hr fr)
  clear hr fr X5 c0 c1 c2 c3 c4 c5 c6 c7 c8 c9 c10 c11
  obtain ⟨c0, c1, c2, c3, c4, c5, c6, c7, c8, c9, c10, c11⟩ := twelve_cells X6.out.f
  go_wp2_with fail
  refine (rUnsignedR_any B _ 8 _ X6.out.rd).mono ?_
  rw [G3.out]
  rintro e6 u6 ⟨rfl, hr, fr⟩
  have X7 := Lib.hid (X6.out.read hr fr)
  clear hr fr X6 c0 c1 c2 c3 c4 c5 c6 c7 c8 c9 c10 c11
  obtain ⟨c0, c1, c2, c3, c4, c5, c6, c7, c8, c9, c10, c11⟩ := twelve_cells X7.out.f
  have zf : u6.frozen? ⟨F, 3, none⟩ = false := by simp [World.frozen?, X7.out.f]
  go_upto_region 11 with (fail)
  obtain ⟨v7, hv7⟩ : ∃ v, v = u6.setCell ⟨F, 3, none⟩ (.int .i64 n4) := ⟨_, rfl⟩
  have X8 := Lib.hid (show Sx F B w v7 ⟨1, n1, -1, n4, 0, 0, 0, 0, 0, 0, 0, ⟨#[]⟩⟩ t3 by rw [hv7]; exact X7.out.put 3 _ _ rfl)
  rw [← hv7]
  clear hv7 zf X7 c0 c1 c2 c3 c4 c5 c6 c7 c8 c9 c10 c11
  obtain ⟨c0, c1, c2, c3, c4, c5, c6, c7, c8, c9, c10, c11⟩ := twelve_cells X8.out.f
  go_wp2_with fail
  refine (rUnsignedR_any B _ 8 _ X8.out.rd).mono ?_
  rw [G4.out]
  rintro e8 u8 ⟨rfl, hr, fr⟩
  have X9 := Lib.hid (X8.out.read hr fr)
  clear hr fr X8 c0 c1 c2 c3 c4 c5 c6 c7 c8 c9 c10 c11
  obtain ⟨c0, c1, c2, c3, c4, c5, c6, c7, c8, c9, c10, c11⟩ := twelve_cells X9.out.f
  have zf : u8.frozen? ⟨F, 4, none⟩ = false := by simp [World.frozen?, X9.out.f]
  go_upto_region 12 with (fail)
  obtain ⟨v9, hv9⟩ : ∃ v, v = u8.setCell ⟨F, 4, none⟩ (.int .i64 n5) := ⟨_, rfl⟩
  have X10 := Lib.hid (show Sx F B w v9 ⟨1, n1, -1, n4, n5, 0, 0, 0, 0, 0, 0, ⟨#[]⟩⟩ t4 by rw [hv9]; exact X9.out.put 4 _ _ rfl)
  rw [← hv9]
  clear hv9 zf X9 c0 c1 c2 c3 c4 c5 c6 c7 c8 c9 c10 c11
  obtain ⟨c0, c1, c2, c3, c4, c5, c6, c7, c8, c9, c10, c11⟩ := twelve_cells X10.out.f
  go_wp2_with fail
  refine (rUnsignedR_any B _ 8 _ X10.out.rd).mono ?_
  rw [G5.out]
  rintro e10 u10 ⟨rfl, hr, fr⟩
  have X11 := Lib.hid (X10.out.read hr fr)
  clear hr fr X10 c0 c1 c2 c3 c4 c5 c6 c7 c8 c9 c10 c11
  obtain ⟨c0, c1, c2, c3, c4, c5, c6, c7, c8, c9, c10, c11⟩ := twelve_cells X11.out.f
  have zf : u10.frozen? ⟨F, 5, none⟩ = false := by simp [World.frozen?, X11.out.f]
  go_upto_region 14 with (fail)
  obtain ⟨v11, hv11⟩ : ∃ v, v = u10.setCell ⟨F, 5, none⟩ (.int .i64 n6) := ⟨_, rfl⟩
  have X12 := Lib.hid (show Sx F B w v11 ⟨1, n1, -1, n4, n5, n6, 0, 0, 0, 0, 0, ⟨#[]⟩⟩ t5 by rw [hv11]; exact X11.out.put 5 _ _ rfl)
  rw [← hv11]
  clear hv11 zf X11 c0 c1 c2 c3 c4 c5 c6 c7 c8 c9 c10 c11
  obtain ⟨c0, c1, c2, c3, c4, c5, c6, c7, c8, c9, c10, c11⟩ := twelve_cells X12.out.f
  go_wp2_with fail
  refine (rUnsignedR_any B _ 16 _ X12.out.rd).mono ?_
  rw [G6.out]
  rintro e12 u12 ⟨rfl, hr, fr⟩
  have X13 := Lib.hid (X12.out.read hr fr)
  clear hr fr X12 c0 c1 c2 c3 c4 c5 c6 c7 c8 c9 c10 c11
  obtain ⟨c0, c1, c2, c3, c4, c5, c6, c7, c8, c9, c10, c11⟩ := twelve_cells X13.out.f
  have zf : u12.frozen? ⟨F, 6, none⟩ = false := by simp [World.frozen?, X13.out.f]
  go_upto_region 15 with (fail)
  obtain ⟨v13, hv13⟩ : ∃ v, v = u12.setCell ⟨F, 6, none⟩ (.int .i64 n7) := ⟨_, rfl⟩
  have X14 := Lib.hid (show Sx F B w v13 ⟨1, n1, -1, n4, n5, n6, n7, 0, 0, 0, 0, ⟨#[]⟩⟩ t6 by rw [hv13]; exact X13.out.put 6 _ _ rfl)
  rw [← hv13]
  clear hv13 zf X13 c0 c1 c2 c3 c4 c5 c6 c7 c8 c9 c10 c11
  obtain ⟨c0, c1, c2, c3, c4, c5, c6, c7, c8, c9, c10, c11⟩ := twelve_cells X14.out.f
  go_wp2_with fail
  refine (rTextR_any B _ 127 _ (by decide) X14.out.rd).mono ?_
  rw [G7.out]
  rintro e14 u14 ⟨rfl, hr, fr⟩
  have X15 := Lib.hid (X14.out.read hr fr)
  clear hr fr X14 c0 c1 c2 c3 c4 c5 c6 c7 c8 c9 c10 c11
  obtain ⟨c0, c1, c2, c3, c4, c5, c6, c7, c8, c9, c10, c11⟩ := twelve_cells X15.out.f
  have zf : u14.frozen? ⟨F, 11, none⟩ = false := by simp [World.frozen?, X15.out.f]
  go_upto_region 23 with (fail)
  obtain ⟨v15, hv15⟩ : ∃ v, v = u14.setCell ⟨F, 11, none⟩ (.string d8) := ⟨_, rfl⟩
  have X16 := Lib.hid (show Sx F B w v15 ⟨1, n1, -1, n4, n5, n6, n7, 0, 0, 0, 0, d8⟩ t7 by rw [hv15]; exact X15.out.put 11 _ _ rfl)
  rw [← hv15]
  clear hv15 zf X15 c0 c1 c2 c3 c4 c5 c6 c7 c8 c9 c10 c11
  obtain ⟨c0, c1, c2, c3, c4, c5, c6, c7, c8, c9, c10, c11⟩ := twelve_cells X16.out.f
  go_wp2_with fail
  refine (rCloseR_any B _ _ X16.out.rd).mono ?_
  rintro e30 w30 ⟨rfl, f30⟩
  have HF30 := Lib.hid (ge_nop (X16.out.fr.trans f30 (fun _ _ hh => hh.elim)))
  have HZ30 := Lib.hid (f30.blk X16.out.z (fun h => h))
  have HY30 := Lib.hid (f30.blk X16.out.f (fun h => h))
  clear f30 X16 c0 c1 c2 c3 c4 c5 c6 c7 c8 c9 c10 c11
  generalize rClose t7 = c at *
  rcases HK.out with ⟨k5, rfl, rfl⟩ | ⟨k5, k6, rfl, rfl⟩ | ⟨k5, k6, rfl, rfl⟩
  · have kb : (c != 0) = true := by simp [k5]
    obtain ⟨z0, z1, z2, z3, z4, z5, z6, z7, z8, z9, z10, z11⟩ := twelve_cells HZ30.out
    have zf := fun i => (show w30.frozen? ⟨w.heap.size, i, none⟩ = false by simp [World.frozen?, HZ30.out])
    clear HK k5 HV
    go_wp2_with fail
    refine bodyPost_ret (v := .tuple #[.agg #[.int .i64 0, .int .i64 0, .int .i64 0, .int .i64 0, .int .i64 0, .int .i64 0, .int .i64 0, .int .i64 0, .int .i64 0, .int .i64 0, .int .i64 0, .string ⟨#[]⟩], .int .i64 10]) (by simp [results, Try.results21, go_sem, z0, z1, z2, z3, z4, z5, z6, z7, z8, z9, z10, z11]) rfl ?_
    exact ⟨rfl, fr12 HF30.out (Nat.le_refl _) _ _ _ _ _ _ _ _ _ _ _ _⟩
  · subst k5
    rw [k6] at HV
    clear HK k6
    obtain ⟨y0, y1, y2, y3, y4, y5, y6, y7, y8, y9, y10, y11⟩ := twelve_cells HY30.out
    simp only [frA] at HV
    go_wp2_with fail
    refine (HV.out _).mono ?_
    rintro e31 w31 ⟨rfl, f31⟩
    have HF31 := Lib.hid (HF30.out.noTrans f31)
    have HZ31 := Lib.hid (f31.blk HZ30.out (fun h => h))
    have HY31 := Lib.hid (f31.blk HY30.out (fun h => h))
    clear f31 y0 y1 y2 y3 y4 y5 y6 y7 y8 y9 y10 y11
    obtain ⟨z0, z1, z2, z3, z4, z5, z6, z7, z8, z9, z10, z11⟩ := twelve_cells HZ31.out
    obtain ⟨y0, y1, y2, y3, y4, y5, y6, y7, y8, y9, y10, y11⟩ := twelve_cells HY31.out
    have zf := fun i => (show w31.frozen? ⟨w.heap.size, i, none⟩ = false by simp [World.frozen?, HZ31.out])
    go_wp2_with fail
    refine bodyPost_ret (v := .tuple #[.agg #[.int .i64 0, .int .i64 0, .int .i64 0, .int .i64 0, .int .i64 0, .int .i64 0, .int .i64 0, .int .i64 0, .int .i64 0, .int .i64 0, .int .i64 0, .string ⟨#[]⟩], .int .i64 10]) (by simp [results, Try.results21, go_sem, z0, z1, z2, z3, z4, z5, z6, z7, z8, z9, z10, z11]) rfl ?_
    exact ⟨rfl, fr12 HF31.out (Nat.le_refl _) _ _ _ _ _ _ _ _ _ _ _ _⟩
  · subst k5
    rw [k6] at HV
    clear HK k6
    obtain ⟨y0, y1, y2, y3, y4, y5, y6, y7, y8, y9, y10, y11⟩ := twelve_cells HY30.out
    simp only [frA] at HV
    go_wp2_with fail
    refine (HV.out _).mono ?_
    rintro e31 w31 ⟨rfl, f31⟩
    have HF31 := Lib.hid (HF30.out.noTrans f31)
    have HZ31 := Lib.hid (f31.blk HZ30.out (fun h => h))
    have HY31 := Lib.hid (f31.blk HY30.out (fun h => h))
    clear f31 y0 y1 y2 y3 y4 y5 y6 y7 y8 y9 y10 y11
    obtain ⟨z0, z1, z2, z3, z4, z5, z6, z7, z8, z9, z10, z11⟩ := twelve_cells HZ31.out
    obtain ⟨y0, y1, y2, y3, y4, y5, y6, y7, y8, y9, y10, y11⟩ := twelve_cells HY31.out
    have zf := fun i => (show w31.frozen? ⟨w.heap.size, i, none⟩ = false by simp [World.frozen?, HZ31.out])
    go_wp2_with fail
    refine bodyPost_ret (v := .tuple #[.agg #[.int .i64 1, .int .i64 n1, .int .i64 (-1), .int .i64 n4, .int .i64 n5, .int .i64 n6, .int .i64 n7, .int .i64 0, .int .i64 0, .int .i64 0, .int .i64 0, .string d8], .int .i64 0]) (by simp [results, Try.results21, go_sem, z0, z1, z2, z3, z4, z5, z6, z7, z8, z9, z10, z11]) rfl ?_
    exact ⟨rfl, fr12 HF31.out (Nat.le_refl _) _ _ _ _ _ _ _ _ _ _ _ _⟩
end Go.Proofs.Ytelpdihaonoedaa
namespace Go.Proofs.Ytelpdihaonoedaa
open Go.RowKit
set_option linter.unusedVariables false
set_option maxRecDepth 20000

set_option maxHeartbeats 8000000 in
theorem dc2t (s : ByteArray) (w : World) (hs : s.size ≤ 127) (hc : chkE s = 0) {st0 : RSt} (hst : rNew (chkV s) = st0) {n1 n3 n4 n5 n6 : Int} {t0 t1 t2 t3 t4 t5 t6 : RSt} (h0 : rUnsigned 3 st0 = (2, t0)) (h1 : rUnsigned 5 t0 = (n1, t1)) (h2 : rFlag t1 = (true, t2)) (h3 : rUnsigned 5 t2 = (n3, t3)) (h4 : rUnsigned 8 t3 = (n4, t4)) (h5 : rUnsigned 8 t4 = (n5, t5)) (h6 : rSigned 16 t5 = (n6, t6)) (V : Frm) (E : Int)
    (hk : (rClose t6 ≠ 0 ∧ V = zeroF ∧ E = 10) ∨ (rClose t6 = 0 ∧ okF (⟨2, n1, n3, n4, n5, 0, 0, n6, 0, 0, 0, ⟨#[]⟩⟩ : Frm) = false ∧ V = zeroF ∧ E = 10) ∨ (rClose t6 = 0 ∧ okF (⟨2, n1, n3, n4, n5, 0, 0, n6, 0, 0, 0, ⟨#[]⟩⟩ : Frm) = true ∧ V = (⟨2, n1, n3, n4, n5, 0, 0, n6, 0, 0, 0, ⟨#[]⟩⟩ : Frm) ∧ E = 0)) :
    Calls Try.prog 21 #[.string s] w fun e w' => e = .returned (.tuple #[.agg (frA V), .int .i64 E]) ∧ Fr no w w' := by
  have HC := Lib.hid (fun w => checkR_any s w (by omega))
  rw [hc] at HC
  have h127 : ¬ (127 : Int) < (s.size : Int) := by omega
  have HR := Lib.hid (fun w => newReaderR_any (chkV s) w (by have := chkV_small s hs; omega))
  rw [hst] at HR
  have HV := Lib.hid (fun w => ckr_any (⟨2, n1, n3, n4, n5, 0, 0, n6, 0, 0, 0, ⟨#[]⟩⟩ : Frm) w)
  have HK := Lib.hid hk
  have G0 := Lib.hid h0
  have G1 := Lib.hid h1
  have G2 := Lib.hid h2
  have G3 := Lib.hid h3
  have G4 := Lib.hid h4
  have G5 := Lib.hid h5
  have G6 := Lib.hid h6
  clear hs hc hk hst h0 h1 h2 h3 h4 h5 h6
  obtain ⟨W, hW⟩ : ∃ W, W = w.alloc (.cells zA 23 (0, 0)) := ⟨_, rfl⟩
  have HW := Lib.hid hW
  have HFW := Lib.hid (show Fr no w W by rw [hW]; exact (Fr.refl no w).alloc _)
  have HB := Lib.hid (show W.heap[w.heap.size]? = some (.cells zA 23 (0, 0)) by rw [hW]; exact heap_alloc_new w _)
  clear hW
  simp only [zA] at HW
  go_enter Try.func21, Try.ntmps21
  go_wp2_with fail
  rw [← HW.out]
  go_wp2_with fail
  refine (HC.out _).mono ?_
  rintro e1 w1 ⟨rfl, f1⟩
  have HF1 := Lib.hid (HFW.out.noTrans f1)
  have HB1 := Lib.hid (f1.blk HB.out (fun h => h))
  clear f1 HB
  go_wp2_with fail
  refine (HR.out _).mono ?_
  rintro e2 w2 ⟨rfl, hr, f2⟩
  have HF2 := Lib.hid (fr_nop f2 (fun _ h => h))
  have HR2 := Lib.hid hr
  clear f2 hr
  go_wp2_with fail
  refine (rUnsignedR_any w1.heap.size _ 3 _ HR2.out).mono ?_
  rw [G0.out]
  rintro e3 w3 ⟨rfl, hr, f3⟩
  have HR3 := Lib.hid hr
  have HF3 := Lib.hid f3
  clear hr f3
  go_wp2_with fail
  refine (rUnsignedR_any w1.heap.size _ 5 _ HR3.out).mono ?_
  rw [G1.out]
  rintro e4 w4 ⟨rfl, hr, f4⟩
  have X4 := Lib.hid (show Sx w4.heap.size w1.heap.size w (w4.alloc (.cells (frA ⟨2, n1, -1, 0, 0, 0, 0, 0, 0, 0, 0, ⟨#[]⟩⟩) 23 (0, 0))) ⟨2, n1, -1, 0, 0, 0, 0, 0, 0, 0, 0, ⟨#[]⟩⟩ t1 by
    have z1 := lt_of_blk HB1.out
    have z2 := HF2.out.size
    have z3 := HF3.out.size
    have z4 := f4.size
    have z5 := lt_of_blk hr.blk
    have b2 := HF2.out.blk HB1.out (fun h => h)
    have b3 := HF3.out.blk b2 (by simp only [only]; omega)
    have b4 := f4.blk b3 (by simp only [only]; omega)
    refine ⟨hr.alloc _, heap_alloc_new w4 _, alloc_keeps b4 _, by omega, by omega, by omega, ?_⟩
    have q : Fr (fun k => w.heap.size ≤ k) w w2 := (HF1.out.noTrans HF2.out).mono (fun _ _ hh => hh.elim)
    exact ((q.trans (HF3.out.mono (S' := fun k => w.heap.size ≤ k) (fun i _ hi => by rw [show i = w1.heap.size from hi]; omega)) (fun _ _ hh => hh)).trans (f4.mono (S' := fun k => w.heap.size ≤ k) (fun i _ hi => by rw [show i = w1.heap.size from hi]; omega)) (fun _ _ hh => hh)).alloc _)
  clear hr f4 HR2 HR3 HF1 HF2 HF3 HB1
  go_wp2_with fail
  obtain ⟨v4, hv4⟩ : ∃ v4, v4 = w4.alloc (.cells #[.int .i64 2, .int .i64 n1, .int .i64 (-1), .int .i64 0, .int .i64 0, .int .i64 0, .int .i64 0, .int .i64 0, .int .i64 0, .int .i64 0, .int .i64 0, .string ⟨#[]⟩] 23 (0, 0)) := ⟨_, rfl⟩
  have X5 := Lib.hid (show Sx w4.heap.size w1.heap.size w v4 ⟨2, n1, -1, 0, 0, 0, 0, 0, 0, 0, 0, ⟨#[]⟩⟩ t1 by rw [hv4]; exact X4.out)
  rw [← hv4]
  clear hv4 X4
  generalize w4.heap.size = F at *
  generalize w1.heap.size = B at *
  clear HFW HW
  obtain ⟨c0, c1, c2, c3, c4, c5, c6, c7, c8, c9, c10, c11⟩ := twelve_cells X5.out.f
  go_wp2_with fail
  refine (rFlagR_any B _ _ X5.out.rd).mono ?_
  rw [G2.out]
  rintro e5 u5 ⟨rfl, hr, fr⟩
  have X6 := Lib.hid (X5.out.read hr fr)
  clear hr fr X5 c0 c1 c2 c3 c4 c5 c6 c7 c8 c9 c10 c11
  obtain ⟨c0, c1, c2, c3, c4, c5, c6, c7, c8, c9, c10, c11⟩ := twelve_cells X6.out.f
  go_wp2_with fail
  refine (rUnsignedR_any B _ 5 _ X6.out.rd).mono ?_
  rw [G3.out]
  rintro e6 u6 ⟨rfl, hr, fr⟩
  have X7 := Lib.hid (X6.out.read hr fr)
  clear hr fr X6 c0 c1 c2 c3 c4 c5 c6 c7 c8 c9 c10 c11
  obtain ⟨c0, c1, c2, c3, c4, c5, c6, c7, c8, c9, c10, c11⟩ := twelve_cells X7.out.f
  have zf : u6.frozen? ⟨F, 2, none⟩ = false := by simp [World.frozen?, X7.out.f]
  go_upto_region 10 with (fail)
  obtain ⟨v7, hv7⟩ : ∃ v, v = u6.setCell ⟨F, 2, none⟩ (.int .i64 n3) := ⟨_, rfl⟩
  have X8 := Lib.hid (show Sx F B w v7 ⟨2, n1, n3, 0, 0, 0, 0, 0, 0, 0, 0, ⟨#[]⟩⟩ t3 by rw [hv7]; exact X7.out.put 2 _ _ rfl)
  rw [← hv7]
  clear hv7 zf X7 c0 c1 c2 c3 c4 c5 c6 c7 c8 c9 c10 c11
  obtain ⟨c0, c1, c2, c3, c4, c5, c6, c7, c8, c9, c10, c11⟩ := twelve_cells X8.out.f
  go_wp2_with fail
  refine (rUnsignedR_any B _ 8 _ X8.out.rd).mono ?_
  rw [G4.out]
  rintro e8 u8 ⟨rfl, hr, fr⟩
  have X9 := Lib.hid (X8.out.read hr fr)
  clear hr fr X8 c0 c1 c2 c3 c4 c5 c6 c7 c8 c9 c10 c11
  obtain ⟨c0, c1, c2, c3, c4, c5, c6, c7, c8, c9, c10, c11⟩ := twelve_cells X9.out.f
  have zf : u8.frozen? ⟨F, 3, none⟩ = false := by simp [World.frozen?, X9.out.f]
  go_upto_region 11 with (fail)
  obtain ⟨v9, hv9⟩ : ∃ v, v = u8.setCell ⟨F, 3, none⟩ (.int .i64 n4) := ⟨_, rfl⟩
  have X10 := Lib.hid (show Sx F B w v9 ⟨2, n1, n3, n4, 0, 0, 0, 0, 0, 0, 0, ⟨#[]⟩⟩ t4 by rw [hv9]; exact X9.out.put 3 _ _ rfl)
  rw [← hv9]
  clear hv9 zf X9 c0 c1 c2 c3 c4 c5 c6 c7 c8 c9 c10 c11
  obtain ⟨c0, c1, c2, c3, c4, c5, c6, c7, c8, c9, c10, c11⟩ := twelve_cells X10.out.f
  go_wp2_with fail
  refine (rUnsignedR_any B _ 8 _ X10.out.rd).mono ?_
  rw [G5.out]
  rintro e10 u10 ⟨rfl, hr, fr⟩
  have X11 := Lib.hid (X10.out.read hr fr)
  clear hr fr X10 c0 c1 c2 c3 c4 c5 c6 c7 c8 c9 c10 c11
  obtain ⟨c0, c1, c2, c3, c4, c5, c6, c7, c8, c9, c10, c11⟩ := twelve_cells X11.out.f
  have zf : u10.frozen? ⟨F, 4, none⟩ = false := by simp [World.frozen?, X11.out.f]
  go_upto_region 12 with (fail)
  obtain ⟨v11, hv11⟩ : ∃ v, v = u10.setCell ⟨F, 4, none⟩ (.int .i64 n5) := ⟨_, rfl⟩
  have X12 := Lib.hid (show Sx F B w v11 ⟨2, n1, n3, n4, n5, 0, 0, 0, 0, 0, 0, ⟨#[]⟩⟩ t5 by rw [hv11]; exact X11.out.put 4 _ _ rfl)
  rw [← hv11]
  clear hv11 zf X11 c0 c1 c2 c3 c4 c5 c6 c7 c8 c9 c10 c11
  obtain ⟨c0, c1, c2, c3, c4, c5, c6, c7, c8, c9, c10, c11⟩ := twelve_cells X12.out.f
  go_wp2_with fail
  refine (rSignedR_any B _ 16 _ X12.out.rd).mono ?_
  rw [G6.out]
  rintro e12 u12 ⟨rfl, hr, fr⟩
  have X13 := Lib.hid (X12.out.read hr fr)
  clear hr fr X12 c0 c1 c2 c3 c4 c5 c6 c7 c8 c9 c10 c11
  obtain ⟨c0, c1, c2, c3, c4, c5, c6, c7, c8, c9, c10, c11⟩ := twelve_cells X13.out.f
  have zf : u12.frozen? ⟨F, 7, none⟩ = false := by simp [World.frozen?, X13.out.f]
  go_upto_region 17 with (fail)
  obtain ⟨v13, hv13⟩ : ∃ v, v = u12.setCell ⟨F, 7, none⟩ (.int .i64 n6) := ⟨_, rfl⟩
  have X14 := Lib.hid (show Sx F B w v13 ⟨2, n1, n3, n4, n5, 0, 0, n6, 0, 0, 0, ⟨#[]⟩⟩ t6 by rw [hv13]; exact X13.out.put 7 _ _ rfl)
  rw [← hv13]
  clear hv13 zf X13 c0 c1 c2 c3 c4 c5 c6 c7 c8 c9 c10 c11
  obtain ⟨c0, c1, c2, c3, c4, c5, c6, c7, c8, c9, c10, c11⟩ := twelve_cells X14.out.f
  go_wp2_with fail
  refine (rCloseR_any B _ _ X14.out.rd).mono ?_
  rintro e30 w30 ⟨rfl, f30⟩
  have HF30 := Lib.hid (ge_nop (X14.out.fr.trans f30 (fun _ _ hh => hh.elim)))
  have HZ30 := Lib.hid (f30.blk X14.out.z (fun h => h))
  have HY30 := Lib.hid (f30.blk X14.out.f (fun h => h))
  clear f30 X14 c0 c1 c2 c3 c4 c5 c6 c7 c8 c9 c10 c11
  generalize rClose t6 = c at *
  rcases HK.out with ⟨k5, rfl, rfl⟩ | ⟨k5, k6, rfl, rfl⟩ | ⟨k5, k6, rfl, rfl⟩
  · have kb : (c != 0) = true := by simp [k5]
    obtain ⟨z0, z1, z2, z3, z4, z5, z6, z7, z8, z9, z10, z11⟩ := twelve_cells HZ30.out
    have zf := fun i => (show w30.frozen? ⟨w.heap.size, i, none⟩ = false by simp [World.frozen?, HZ30.out])
    clear HK k5 HV
    go_wp2_with fail
    refine bodyPost_ret (v := .tuple #[.agg #[.int .i64 0, .int .i64 0, .int .i64 0, .int .i64 0, .int .i64 0, .int .i64 0, .int .i64 0, .int .i64 0, .int .i64 0, .int .i64 0, .int .i64 0, .string ⟨#[]⟩], .int .i64 10]) (by simp [results, Try.results21, go_sem, z0, z1, z2, z3, z4, z5, z6, z7, z8, z9, z10, z11]) rfl ?_
    exact ⟨rfl, fr12 HF30.out (Nat.le_refl _) _ _ _ _ _ _ _ _ _ _ _ _⟩
  · subst k5
    rw [k6] at HV
    clear HK k6
    obtain ⟨y0, y1, y2, y3, y4, y5, y6, y7, y8, y9, y10, y11⟩ := twelve_cells HY30.out
    simp only [frA] at HV
    go_wp2_with fail
    refine (HV.out _).mono ?_
    rintro e31 w31 ⟨rfl, f31⟩
    have HF31 := Lib.hid (HF30.out.noTrans f31)
    have HZ31 := Lib.hid (f31.blk HZ30.out (fun h => h))
    have HY31 := Lib.hid (f31.blk HY30.out (fun h => h))
    clear f31 y0 y1 y2 y3 y4 y5 y6 y7 y8 y9 y10 y11
    obtain ⟨z0, z1, z2, z3, z4, z5, z6, z7, z8, z9, z10, z11⟩ := twelve_cells HZ31.out
    obtain ⟨y0, y1, y2, y3, y4, y5, y6, y7, y8, y9, y10, y11⟩ := twelve_cells HY31.out
    have zf := fun i => (show w31.frozen? ⟨w.heap.size, i, none⟩ = false by simp [World.frozen?, HZ31.out])
    go_wp2_with fail
    refine bodyPost_ret (v := .tuple #[.agg #[.int .i64 0, .int .i64 0, .int .i64 0, .int .i64 0, .int .i64 0, .int .i64 0, .int .i64 0, .int .i64 0, .int .i64 0, .int .i64 0, .int .i64 0, .string ⟨#[]⟩], .int .i64 10]) (by simp [results, Try.results21, go_sem, z0, z1, z2, z3, z4, z5, z6, z7, z8, z9, z10, z11]) rfl ?_
    exact ⟨rfl, fr12 HF31.out (Nat.le_refl _) _ _ _ _ _ _ _ _ _ _ _ _⟩
  · subst k5
    rw [k6] at HV
    clear HK k6
    obtain ⟨y0, y1, y2, y3, y4, y5, y6, y7, y8, y9, y10, y11⟩ := twelve_cells HY30.out
    simp only [frA] at HV
    go_wp2_with fail
    refine (HV.out _).mono ?_
    rintro e31 w31 ⟨rfl, f31⟩
    have HF31 := Lib.hid (HF30.out.noTrans f31)
    have HZ31 := Lib.hid (f31.blk HZ30.out (fun h => h))
    have HY31 := Lib.hid (f31.blk HY30.out (fun h => h))
    clear f31 y0 y1 y2 y3 y4 y5 y6 y7 y8 y9 y10 y11
    obtain ⟨z0, z1, z2, z3, z4, z5, z6, z7, z8, z9, z10, z11⟩ := twelve_cells HZ31.out
    obtain ⟨y0, y1, y2, y3, y4, y5, y6, y7, y8, y9, y10, y11⟩ := twelve_cells HY31.out
    have zf := fun i => (show w31.frozen? ⟨w.heap.size, i, none⟩ = false by simp [World.frozen?, HZ31.out])
    go_wp2_with fail
    refine bodyPost_ret (v := .tuple #[.agg #[.int .i64 2, .int .i64 n1, .int .i64 n3, .int .i64 n4, .int .i64 n5, .int .i64 0, .int .i64 0, .int .i64 n6, .int .i64 0, .int .i64 0, .int .i64 0, .string ⟨#[]⟩], .int .i64 0]) (by simp [results, Try.results21, go_sem, z0, z1, z2, z3, z4, z5, z6, z7, z8, z9, z10, z11]) rfl ?_
    exact ⟨rfl, fr12 HF31.out (Nat.le_refl _) _ _ _ _ _ _ _ _ _ _ _ _⟩
end Go.Proofs.Ytelpdihaonoedaa
namespace Go.Proofs.Ytelpdihaonoedaa
open Go.RowKit
set_option linter.unusedVariables false
set_option maxRecDepth 20000

set_option maxHeartbeats 8000000 in
theorem dc2f (s : ByteArray) (w : World) (hs : s.size ≤ 127) (hc : chkE s = 0) {st0 : RSt} (hst : rNew (chkV s) = st0) {n1 n4 n5 n6 : Int} {t0 t1 t2 t3 t4 t5 : RSt} (h0 : rUnsigned 3 st0 = (2, t0)) (h1 : rUnsigned 5 t0 = (n1, t1)) (h2 : rFlag t1 = (false, t2)) (h3 : rUnsigned 8 t2 = (n4, t3)) (h4 : rUnsigned 8 t3 = (n5, t4)) (h5 : rSigned 16 t4 = (n6, t5)) (V : Frm) (E : Int)
    (hk : (rClose t5 ≠ 0 ∧ V = zeroF ∧ E = 10) ∨ (rClose t5 = 0 ∧ okF (⟨2, n1, -1, n4, n5, 0, 0, n6, 0, 0, 0, ⟨#[]⟩⟩ : Frm) = false ∧ V = zeroF ∧ E = 10) ∨ (rClose t5 = 0 ∧ okF (⟨2, n1, -1, n4, n5, 0, 0, n6, 0, 0, 0, ⟨#[]⟩⟩ : Frm) = true ∧ V = (⟨2, n1, -1, n4, n5, 0, 0, n6, 0, 0, 0, ⟨#[]⟩⟩ : Frm) ∧ E = 0)) :
    Calls Try.prog 21 #[.string s] w fun e w' => e = .returned (.tuple #[.agg (frA V), .int .i64 E]) ∧ Fr no w w' := by
  have HC := Lib.hid (fun w => checkR_any s w (by omega))
  rw [hc] at HC
  have h127 : ¬ (127 : Int) < (s.size : Int) := by omega
  have HR := Lib.hid (fun w => newReaderR_any (chkV s) w (by have := chkV_small s hs; omega))
  rw [hst] at HR
  have HV := Lib.hid (fun w => ckr_any (⟨2, n1, -1, n4, n5, 0, 0, n6, 0, 0, 0, ⟨#[]⟩⟩ : Frm) w)
  have HK := Lib.hid hk
  have G0 := Lib.hid h0
  have G1 := Lib.hid h1
  have G2 := Lib.hid h2
  have G3 := Lib.hid h3
  have G4 := Lib.hid h4
  have G5 := Lib.hid h5
  clear hs hc hk hst h0 h1 h2 h3 h4 h5
  obtain ⟨W, hW⟩ : ∃ W, W = w.alloc (.cells zA 23 (0, 0)) := ⟨_, rfl⟩
  have HW := Lib.hid hW
  have HFW := Lib.hid (show Fr no w W by rw [hW]; exact (Fr.refl no w).alloc _)
  have HB := Lib.hid (show W.heap[w.heap.size]? = some (.cells zA 23 (0, 0)) by rw [hW]; exact heap_alloc_new w _)
  clear hW
  simp only [zA] at HW
  go_enter Try.func21, Try.ntmps21
  go_wp2_with fail
  rw [← HW.out]
  go_wp2_with fail
  refine (HC.out _).mono ?_
  rintro e1 w1 ⟨rfl, f1⟩
  have HF1 := Lib.hid (HFW.out.noTrans f1)
  have HB1 := Lib.hid (f1.blk HB.out (fun h => h))
  clear f1 HB
  go_wp2_with fail
  refine (HR.out _).mono ?_
  rintro e2 w2 ⟨rfl, hr, f2⟩
  have HF2 := Lib.hid (fr_nop f2 (fun _ h => h))
  have HR2 := Lib.hid hr
  clear f2 hr
  go_wp2_with fail
  refine (rUnsignedR_any w1.heap.size _ 3 _ HR2.out).mono ?_
  rw [G0.out]
  rintro e3 w3 ⟨rfl, hr, f3⟩
  have HR3 := Lib.hid hr
  have HF3 := Lib.hid f3
  clear hr f3
  go_wp2_with fail
  refine (rUnsignedR_any w1.heap.size _ 5 _ HR3.out).mono ?_
  rw [G1.out]
  rintro e4 w4 ⟨rfl, hr, f4⟩
  have X4 := Lib.hid (show Sx w4.heap.size w1.heap.size w (w4.alloc (.cells (frA ⟨2, n1, -1, 0, 0, 0, 0, 0, 0, 0, 0, ⟨#[]⟩⟩) 23 (0, 0))) ⟨2, n1, -1, 0, 0, 0, 0, 0, 0, 0, 0, ⟨#[]⟩⟩ t1 by
    have z1 := lt_of_blk HB1.out
    have z2 := HF2.out.size
    have z3 := HF3.out.size
    have z4 := f4.size
    have z5 := lt_of_blk hr.blk
    have b2 := HF2.out.blk HB1.out (fun h => h)
    have b3 := HF3.out.blk b2 (by simp only [only]; omega)
    have b4 := f4.blk b3 (by simp only [only]; omega)
    refine ⟨hr.alloc _, heap_alloc_new w4 _, alloc_keeps b4 _, by omega, by omega, by omega, ?_⟩
    have q : Fr (fun k => w.heap.size ≤ k) w w2 := (HF1.out.noTrans HF2.out).mono (fun _ _ hh => hh.elim)
    exact ((q.trans (HF3.out.mono (S' := fun k => w.heap.size ≤ k) (fun i _ hi => by rw [show i = w1.heap.size from hi]; omega)) (fun _ _ hh => hh)).trans (f4.mono (S' := fun k => w.heap.size ≤ k) (fun i _ hi => by rw [show i = w1.heap.size from hi]; omega)) (fun _ _ hh => hh)).alloc _)
  clear hr f4 HR2 HR3 HF1 HF2 HF3 HB1
  go_wp2_with fail
  obtain ⟨v4, hv4⟩ : ∃ v4, v4 = w4.alloc (.cells #[.int .i64 2, .int .i64 n1, .int .i64 (-1), .int .i64 0, .int .i64 0, .int .i64 0, .int .i64 0, .int .i64 0, .int .i64 0, .int .i64 0, .int .i64 0, .string ⟨#[]⟩] 23 (0, 0)) := ⟨_, rfl⟩
  have X5 := Lib.hid (show Sx w4.heap.size w1.heap.size w v4 ⟨2, n1, -1, 0, 0, 0, 0, 0, 0, 0, 0, ⟨#[]⟩⟩ t1 by rw [hv4]; exact X4.out)
  rw [← hv4]
  clear hv4 X4
  generalize w4.heap.size = F at *
  generalize w1.heap.size = B at *
  clear HFW HW
  obtain ⟨c0, c1, c2, c3, c4, c5, c6, c7, c8, c9, c10, c11⟩ := twelve_cells X5.out.f
  go_wp2_with fail
  refine (rFlagR_any B _ _ X5.out.rd).mono ?_
  rw [G2.out]
  rintro e5 u5 ⟨rfl, hr, fr⟩
  have X6 := Lib.hid (X5.out.read hr fr)
  clear hr fr X5 c0 c1 c2 c3 c4 c5 c6 c7 c8 c9 c10 c11
  obtain ⟨c0, c1, c2, c3, c4, c5, c6, c7, c8, c9, c10, c11⟩ := twelve_cells X6.out.f
  go_wp2_with fail
  refine (rUnsignedR_any B _ 8 _ X6.out.rd).mono ?_
  rw [G3.out]
  rintro e6 u6 ⟨rfl, hr, fr⟩
  have X7 := Lib.hid (X6.out.read hr fr)
  clear hr fr X6 c0 c1 c2 c3 c4 c5 c6 c7 c8 c9 c10 c11
  obtain ⟨c0, c1, c2, c3, c4, c5, c6, c7, c8, c9, c10, c11⟩ := twelve_cells X7.out.f
  have zf : u6.frozen? ⟨F, 3, none⟩ = false := by simp [World.frozen?, X7.out.f]
  go_upto_region 11 with (fail)
  obtain ⟨v7, hv7⟩ : ∃ v, v = u6.setCell ⟨F, 3, none⟩ (.int .i64 n4) := ⟨_, rfl⟩
  have X8 := Lib.hid (show Sx F B w v7 ⟨2, n1, -1, n4, 0, 0, 0, 0, 0, 0, 0, ⟨#[]⟩⟩ t3 by rw [hv7]; exact X7.out.put 3 _ _ rfl)
  rw [← hv7]
  clear hv7 zf X7 c0 c1 c2 c3 c4 c5 c6 c7 c8 c9 c10 c11
  obtain ⟨c0, c1, c2, c3, c4, c5, c6, c7, c8, c9, c10, c11⟩ := twelve_cells X8.out.f
  go_wp2_with fail
  refine (rUnsignedR_any B _ 8 _ X8.out.rd).mono ?_
  rw [G4.out]
  rintro e8 u8 ⟨rfl, hr, fr⟩
  have X9 := Lib.hid (X8.out.read hr fr)
  clear hr fr X8 c0 c1 c2 c3 c4 c5 c6 c7 c8 c9 c10 c11
  obtain ⟨c0, c1, c2, c3, c4, c5, c6, c7, c8, c9, c10, c11⟩ := twelve_cells X9.out.f
  have zf : u8.frozen? ⟨F, 4, none⟩ = false := by simp [World.frozen?, X9.out.f]
  go_upto_region 12 with (fail)
  obtain ⟨v9, hv9⟩ : ∃ v, v = u8.setCell ⟨F, 4, none⟩ (.int .i64 n5) := ⟨_, rfl⟩
  have X10 := Lib.hid (show Sx F B w v9 ⟨2, n1, -1, n4, n5, 0, 0, 0, 0, 0, 0, ⟨#[]⟩⟩ t4 by rw [hv9]; exact X9.out.put 4 _ _ rfl)
  rw [← hv9]
  clear hv9 zf X9 c0 c1 c2 c3 c4 c5 c6 c7 c8 c9 c10 c11
  obtain ⟨c0, c1, c2, c3, c4, c5, c6, c7, c8, c9, c10, c11⟩ := twelve_cells X10.out.f
  go_wp2_with fail
  refine (rSignedR_any B _ 16 _ X10.out.rd).mono ?_
  rw [G5.out]
  rintro e10 u10 ⟨rfl, hr, fr⟩
  have X11 := Lib.hid (X10.out.read hr fr)
  clear hr fr X10 c0 c1 c2 c3 c4 c5 c6 c7 c8 c9 c10 c11
  obtain ⟨c0, c1, c2, c3, c4, c5, c6, c7, c8, c9, c10, c11⟩ := twelve_cells X11.out.f
  have zf : u10.frozen? ⟨F, 7, none⟩ = false := by simp [World.frozen?, X11.out.f]
  go_upto_region 17 with (fail)
  obtain ⟨v11, hv11⟩ : ∃ v, v = u10.setCell ⟨F, 7, none⟩ (.int .i64 n6) := ⟨_, rfl⟩
  have X12 := Lib.hid (show Sx F B w v11 ⟨2, n1, -1, n4, n5, 0, 0, n6, 0, 0, 0, ⟨#[]⟩⟩ t5 by rw [hv11]; exact X11.out.put 7 _ _ rfl)
  rw [← hv11]
  clear hv11 zf X11 c0 c1 c2 c3 c4 c5 c6 c7 c8 c9 c10 c11
  obtain ⟨c0, c1, c2, c3, c4, c5, c6, c7, c8, c9, c10, c11⟩ := twelve_cells X12.out.f
  go_wp2_with fail
  refine (rCloseR_any B _ _ X12.out.rd).mono ?_
  rintro e30 w30 ⟨rfl, f30⟩
  have HF30 := Lib.hid (ge_nop (X12.out.fr.trans f30 (fun _ _ hh => hh.elim)))
  have HZ30 := Lib.hid (f30.blk X12.out.z (fun h => h))
  have HY30 := Lib.hid (f30.blk X12.out.f (fun h => h))
  clear f30 X12 c0 c1 c2 c3 c4 c5 c6 c7 c8 c9 c10 c11
  generalize rClose t5 = c at *
  rcases HK.out with ⟨k5, rfl, rfl⟩ | ⟨k5, k6, rfl, rfl⟩ | ⟨k5, k6, rfl, rfl⟩
  · have kb : (c != 0) = true := by simp [k5]
    obtain ⟨z0, z1, z2, z3, z4, z5, z6, z7, z8, z9, z10, z11⟩ := twelve_cells HZ30.out
    have zf := fun i => (show w30.frozen? ⟨w.heap.size, i, none⟩ = false by simp [World.frozen?, HZ30.out])
    clear HK k5 HV
    go_wp2_with fail
    refine bodyPost_ret (v := .tuple #[.agg #[.int .i64 0, .int .i64 0, .int .i64 0, .int .i64 0, .int .i64 0, .int .i64 0, .int .i64 0, .int .i64 0, .int .i64 0, .int .i64 0, .int .i64 0, .string ⟨#[]⟩], .int .i64 10]) (by simp [results, Try.results21, go_sem, z0, z1, z2, z3, z4, z5, z6, z7, z8, z9, z10, z11]) rfl ?_
    exact ⟨rfl, fr12 HF30.out (Nat.le_refl _) _ _ _ _ _ _ _ _ _ _ _ _⟩
  · subst k5
    rw [k6] at HV
    clear HK k6
    obtain ⟨y0, y1, y2, y3, y4, y5, y6, y7, y8, y9, y10, y11⟩ := twelve_cells HY30.out
    simp only [frA] at HV
    go_wp2_with fail
    refine (HV.out _).mono ?_
    rintro e31 w31 ⟨rfl, f31⟩
    have HF31 := Lib.hid (HF30.out.noTrans f31)
    have HZ31 := Lib.hid (f31.blk HZ30.out (fun h => h))
    have HY31 := Lib.hid (f31.blk HY30.out (fun h => h))
    clear f31 y0 y1 y2 y3 y4 y5 y6 y7 y8 y9 y10 y11
    obtain ⟨z0, z1, z2, z3, z4, z5, z6, z7, z8, z9, z10, z11⟩ := twelve_cells HZ31.out
    obtain ⟨y0, y1, y2, y3, y4, y5, y6, y7, y8, y9, y10, y11⟩ := twelve_cells HY31.out
    have zf := fun i => (show w31.frozen? ⟨w.heap.size, i, none⟩ = false by simp [World.frozen?, HZ31.out])
    go_wp2_with fail
    refine bodyPost_ret (v := .tuple #[.agg #[.int .i64 0, .int .i64 0, .int .i64 0, .int .i64 0, .int .i64 0, .int .i64 0, .int .i64 0, .int .i64 0, .int .i64 0, .int .i64 0, .int .i64 0, .string ⟨#[]⟩], .int .i64 10]) (by simp [results, Try.results21, go_sem, z0, z1, z2, z3, z4, z5, z6, z7, z8, z9, z10, z11]) rfl ?_
    exact ⟨rfl, fr12 HF31.out (Nat.le_refl _) _ _ _ _ _ _ _ _ _ _ _ _⟩
  · subst k5
    rw [k6] at HV
    clear HK k6
    obtain ⟨y0, y1, y2, y3, y4, y5, y6, y7, y8, y9, y10, y11⟩ := twelve_cells HY30.out
    simp only [frA] at HV
    go_wp2_with fail
    refine (HV.out _).mono ?_
    rintro e31 w31 ⟨rfl, f31⟩
    have HF31 := Lib.hid (HF30.out.noTrans f31)
    have HZ31 := Lib.hid (f31.blk HZ30.out (fun h => h))
    have HY31 := Lib.hid (f31.blk HY30.out (fun h => h))
    clear f31 y0 y1 y2 y3 y4 y5 y6 y7 y8 y9 y10 y11
    obtain ⟨z0, z1, z2, z3, z4, z5, z6, z7, z8, z9, z10, z11⟩ := twelve_cells HZ31.out
    obtain ⟨y0, y1, y2, y3, y4, y5, y6, y7, y8, y9, y10, y11⟩ := twelve_cells HY31.out
    have zf := fun i => (show w31.frozen? ⟨w.heap.size, i, none⟩ = false by simp [World.frozen?, HZ31.out])
    go_wp2_with fail
    refine bodyPost_ret (v := .tuple #[.agg #[.int .i64 2, .int .i64 n1, .int .i64 (-1), .int .i64 n4, .int .i64 n5, .int .i64 0, .int .i64 0, .int .i64 n6, .int .i64 0, .int .i64 0, .int .i64 0, .string ⟨#[]⟩], .int .i64 0]) (by simp [results, Try.results21, go_sem, z0, z1, z2, z3, z4, z5, z6, z7, z8, z9, z10, z11]) rfl ?_
    exact ⟨rfl, fr12 HF31.out (Nat.le_refl _) _ _ _ _ _ _ _ _ _ _ _ _⟩
end Go.Proofs.Ytelpdihaonoedaa
