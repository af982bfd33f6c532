/- De3t, De3f, De4t, De4f, Dea in one text. -/
import Derived.Test.YtelpdihaonoedaaDer
import Derived.Deep.Cut
import Derived.Test.YtelpdihaonoedaaDew1
namespace Go.Proofs.Ytelpdihaonoedaa
open Go.RowKit
set_option linter.unusedVariables false
set_option maxRecDepth 20000

set_option maxHeartbeats 8000000 in
theorem dc3t (s : ByteArray) (w : World) (hs : s.size ≤ 127) (hc : chkE s = 0) {st0 : RSt} (hst : rNew (chkV s) = st0) {n1 n3 n4 n5 n6 n7 n8 : Int} {d9 : ByteArray} {t0 t1 t2 t3 t4 t5 t6 t7 t8 t9 : RSt} (h0 : rUnsigned 3 st0 = (3, t0)) (h1 : rUnsigned 5 t0 = (n1, t1)) (h2 : rFlag t1 = (true, t2)) (h3 : rUnsigned 5 t2 = (n3, t3)) (h4 : rUnsigned 8 t3 = (n4, t4)) (h5 : rUnsigned 8 t4 = (n5, t5)) (h6 : rUnsigned 27 t5 = (n6, t6)) (h7 : rUnsigned 16 t6 = (n7, t7)) (h8 : rUnsigned 16 t7 = (n8, t8)) (h9 : rText 127 t8 = (d9, t9)) (V : Frm) (E : Int)
    (hk : (rClose t9 ≠ 0 ∧ V = zeroF ∧ E = 10) ∨ (rClose t9 = 0 ∧ okF (⟨3, n1, n3, n4, n5, 0, 0, 0, n6, n7, n8, d9⟩ : Frm) = false ∧ V = zeroF ∧ E = 10) ∨ (rClose t9 = 0 ∧ okF (⟨3, n1, n3, n4, n5, 0, 0, 0, n6, n7, n8, d9⟩ : Frm) = true ∧ V = (⟨3, n1, n3, n4, n5, 0, 0, 0, n6, n7, n8, d9⟩ : Frm) ∧ E = 0)) :
    Calls Try.prog 21 #[.string s] w fun e w' => e = .returned (.tuple #[.agg (frA V), .int .i64 E]) ∧ Fr no w w' := by
  have HC := Lib.hid (fun w => checkR_any s w (by omega))
  rw [hc] at HC
  have h127 : ¬ (127 : Int) < (s.size : Int) := by omega
  have HR := Lib.hid (fun w => newReaderR_any (chkV s) w (by have := chkV_small s hs; omega))
  rw [hst] at HR
  have HV := Lib.hid (fun w => ckr_any (⟨3, n1, n3, n4, n5, 0, 0, 0, n6, n7, n8, d9⟩ : Frm) w)
  have HK := Lib.hid hk
  have G0 := Lib.hid h0
  have G1 := Lib.hid h1
  have G2 := Lib.hid h2
  have G3 := Lib.hid h3
  have G4 := Lib.hid h4
  have G5 := Lib.hid h5
  have G6 := Lib.hid h6
  have G7 := Lib.hid h7
  have G8 := Lib.hid h8
  have G9 := Lib.hid h9
  clear hs hc hk hst h0 h1 h2 h3 h4 h5 h6 h7 h8 h9
  obtain ⟨W, hW⟩ : ∃ W, W = w.alloc (.cells zA 23 (0, 0)) := ⟨_, rfl⟩
  have HW := Lib.hid hW
  have HFW := Lib.hid (show Fr no w W by rw [hW]; exact (Fr.refl no w).alloc _)
  have HB := Lib.hid (show W.heap[w.heap.size]? = some (.cells zA 23 (0, 0)) by rw [hW]; exact heap_alloc_new w _)
  clear hW
  simp only [zA] at HW
  go_enter Try.func21, Try.ntmps21
  go_wp2_with fail
  rw [← HW.out]
  go_wp2_with fail
  refine (HC.out _).mono ?_
  rintro e1 w1 ⟨rfl, f1⟩
  have HF1 := Lib.hid (HFW.out.noTrans f1)
  have HB1 := Lib.hid (f1.blk HB.out (fun h => h))
  clear f1 HB
  go_wp2_with fail
  refine (HR.out _).mono ?_
  rintro e2 w2 ⟨rfl, hr, f2⟩
  have HF2 := Lib.hid (fr_nop f2 (fun _ h => h))
  have HR2 := Lib.hid hr
  clear f2 hr
  go_wp2_with fail
  refine (rUnsignedR_any w1.heap.size _ 3 _ HR2.out).mono ?_
  rw [G0.out]
  rintro e3 w3 ⟨rfl, hr, f3⟩
  have HR3 := Lib.hid hr
  have HF3 := Lib.hid f3
  clear hr f3
  go_wp2_with fail
  refine (rUnsignedR_any w1.heap.size _ 5 _ HR3.out).mono ?_
  rw [G1.out]
  rintro e4 w4 ⟨rfl, hr, f4⟩
  have X4 := Lib.hid (show Sx w4.heap.size w1.heap.size w (w4.alloc (.cells (frA ⟨3, n1, -1, 0, 0, 0, 0, 0, 0, 0, 0, ⟨#[]⟩⟩) 23 (0, 0))) ⟨3, n1, -1, 0, 0, 0, 0, 0, 0, 0, 0, ⟨#[]⟩⟩ t1 by
    have z1 := lt_of_blk HB1.out
    have z2 := HF2.out.size
    have z3 := HF3.out.size
    have z4 := f4.size
    have z5 := lt_of_blk hr.blk
    have b2 := HF2.out.blk HB1.out (fun h => h)
    have b3 := HF3.out.blk b2 (by simp only [only]; omega)
    have b4 := f4.blk b3 (by simp only [only]; omega)
    refine ⟨hr.alloc _, heap_alloc_new w4 _, alloc_keeps b4 _, by omega, by omega, by omega, ?_⟩
    have q : Fr (fun k => w.heap.size ≤ k) w w2 := (HF1.out.noTrans HF2.out).mono (fun _ _ hh => hh.elim)
    exact ((q.trans (HF3.out.mono (S' := fun k => w.heap.size ≤ k) (fun i _ hi => by rw [show i = w1.heap.size from hi]; omega)) (fun _ _ hh => hh)).trans (f4.mono (S' := fun k => w.heap.size ≤ k) (fun i _ hi => by rw [show i = w1.heap.size from hi]; omega)) (fun _ _ hh => hh)).alloc _)
  clear hr f4 HR2 HR3 HF1 HF2 HF3 HB1
  go_wp2_with fail
  obtain ⟨v4, hv4⟩ : ∃ v4, v4 = w4.alloc (.cells #[.int .i64 3, .int .i64 n1, .int .i64 (-1), .int .i64 0, .int .i64 0, .int .i64 0, .int .i64 0, .int .i64 0, .int .i64 0, .int .i64 0, .int .i64 0, .string ⟨#[]⟩] 23 (0, 0)) := ⟨_, rfl⟩
  have X5 := Lib.hid (show Sx w4.heap.size w1.heap.size w v4 ⟨3, n1, -1, 0, 0, 0, 0, 0, 0, 0, 0, ⟨#[]⟩⟩ t1 by rw [hv4]; exact X4.out)
  rw [← hv4]
  clear hv4 X4
  generalize w4.heap.size = F at *
  generalize w1.heap.size = B at *
  clear HFW HW
  obtain ⟨c0, c1, c2, c3, c4, c5, c6, c7, c8, c9, c10, c11⟩ := twelve_cells X5.out.f
  go_wp2_with fail
  refine (rFlagR_any B _ _ X5.out.rd).mono ?_
  rw [G2.out]
  rintro e5 u5 ⟨rfl, hr, fr⟩
  have X6 := Lib.hid (X5.out.read hr fr)
  clear hr fr X5 c0 c1 c2 c3 c4 c5 c6 c7 c8 c9 c10 c11
  obtain ⟨c0, c1, c2, c3, c4, c5, c6, c7, c8, c9, c10, c11⟩ := twelve_cells X6.out.f
  go_wp2_with fail
  refine (rUnsignedR_any B _ 5 _ X6.out.rd).mono ?_
  rw [G3.out]
  rintro e6 u6 ⟨rfl, hr, fr⟩
  have X7 := Lib.hid (X6.out.read hr fr)
  clear hr fr X6 c0 c1 c2 c3 c4 c5 c6 c7 c8 c9 c10 c11
  obtain ⟨c0, c1, c2, c3, c4, c5, c6, c7, c8, c9, c10, c11⟩ := twelve_cells X7.out.f
  have zf : u6.frozen? ⟨F, 2, none⟩ = false := by simp [World.frozen?, X7.out.f]
  go_upto_region 10 with (fail)
  obtain ⟨v7, hv7⟩ : ∃ v, v = u6.setCell ⟨F, 2, none⟩ (.int .i64 n3) := ⟨_, rfl⟩
  have X8 := Lib.hid (show Sx F B w v7 ⟨3, n1, n3, 0, 0, 0, 0, 0, 0, 0, 0, ⟨#[]⟩⟩ t3 by rw [hv7]; exact X7.out.put 2 _ _ rfl)
  rw [← hv7]
  clear hv7 zf X7 c0 c1 c2 c3 c4 c5 c6 c7 c8 c9 c10 c11
  obtain ⟨c0, c1, c2, c3, c4, c5, c6, c7, c8, c9, c10, c11⟩ := twelve_cells X8.out.f
  go_wp2_with fail
  refine (rUnsignedR_any B _ 8 _ X8.out.rd).mono ?_
  rw [G4.out]
  rintro e8 u8 ⟨rfl, hr, fr⟩
  have X9 := Lib.hid (X8.out.read hr fr)
  clear hr fr X8 c0 c1 c2 c3 c4 c5 c6 c7 c8 c9 c10 c11
  obtain ⟨c0, c1, c2, c3, c4, c5, c6, c7, c8, c9, c10, c11⟩ := twelve_cells X9.out.f
  have zf : u8.frozen? ⟨F, 3, none⟩ = false := by simp [World.frozen?, X9.out.f]
  go_upto_region 11 with (fail)
  obtain ⟨v9, hv9⟩ : ∃ v, v = u8.setCell ⟨F, 3, none⟩ (.int .i64 n4) := ⟨_, rfl⟩
  have X10 := Lib.hid (show Sx F B w v9 ⟨3, n1, n3, n4, 0, 0, 0, 0, 0, 0, 0, ⟨#[]⟩⟩ t4 by rw [hv9]; exact X9.out.put 3 _ _ rfl)
  rw [← hv9]
  clear hv9 zf X9 c0 c1 c2 c3 c4 c5 c6 c7 c8 c9 c10 c11
  obtain ⟨c0, c1, c2, c3, c4, c5, c6, c7, c8, c9, c10, c11⟩ := twelve_cells X10.out.f
  go_wp2_with fail
  refine (rUnsignedR_any B _ 8 _ X10.out.rd).mono ?_
  rw [G5.out]
  rintro e10 u10 ⟨rfl, hr, fr⟩
  have X11 := Lib.hid (X10.out.read hr fr)
  clear hr fr X10 c0 c1 c2 c3 c4 c5 c6 c7 c8 c9 c10 c11
  obtain ⟨c0, c1, c2, c3, c4, c5, c6, c7, c8, c9, c10, c11⟩ := twelve_cells X11.out.f
  have zf : u10.frozen? ⟨F, 4, none⟩ = false := by simp [World.frozen?, X11.out.f]
  go_upto_region 12 with (fail)
  obtain ⟨v11, hv11⟩ : ∃ v, v = u10.setCell ⟨F, 4, none⟩ (.int .i64 n5) := ⟨_, rfl⟩
  have X12 := Lib.hid (show Sx F B w v11 ⟨3, n1, n3, n4, n5, 0, 0, 0, 0, 0, 0, ⟨#[]⟩⟩ t5 by rw [hv11]; exact X11.out.put 4 _ _ rfl)
  rw [← hv11]
  clear hv11 zf X11 c0 c1 c2 c3 c4 c5 c6 c7 c8 c9 c10 c11
  obtain ⟨c0, c1, c2, c3, c4, c5, c6, c7, c8, c9, c10, c11⟩ := twelve_cells X12.out.f
  go_wp2_with fail
  refine (rUnsignedR_any B _ 27 _ X12.out.rd).mono ?_
  rw [G6.out]
  rintro e12 u12 ⟨rfl, hr, fr⟩
  have X13 := Lib.hid (X12.out.read hr fr)
  clear hr fr X12 c0 c1 c2 c3 c4 c5 c6 c7 c8 c9 c10 c11
  obtain ⟨c0, c1, c2, c3, c4, c5, c6, c7, c8, c9, c10, c11⟩ := twelve_cells X13.out.f
  have zf : u12.frozen? ⟨F, 8, none⟩ = false := by simp [World.frozen?, X13.out.f]
  go_upto_region 19 with (fail)
  obtain ⟨v13, hv13⟩ : ∃ v, v = u12.setCell ⟨F, 8, none⟩ (.int .i64 n6) := ⟨_, rfl⟩
  have X14 := Lib.hid (show Sx F B w v13 ⟨3, n1, n3, n4, n5, 0, 0, 0, n6, 0, 0, ⟨#[]⟩⟩ t6 by rw [hv13]; exact X13.out.put 8 _ _ rfl)
  rw [← hv13]
  clear hv13 zf X13 c0 c1 c2 c3 c4 c5 c6 c7 c8 c9 c10 c11
  obtain ⟨c0, c1, c2, c3, c4, c5, c6, c7, c8, c9, c10, c11⟩ := twelve_cells X14.out.f
  go_wp2_with fail
  refine (rUnsignedR_any B _ 16 _ X14.out.rd).mono ?_
  rw [G7.out]
  rintro e14 u14 ⟨rfl, hr, fr⟩
  have X15 := Lib.hid (X14.out.read hr fr)
  clear hr fr X14 c0 c1 c2 c3 c4 c5 c6 c7 c8 c9 c10 c11
  obtain ⟨c0, c1, c2, c3, c4, c5, c6, c7, c8, c9, c10, c11⟩ := twelve_cells X15.out.f
  have zf : u14.frozen? ⟨F, 9, none⟩ = false := by simp [World.frozen?, X15.out.f]
  go_upto_region 20 with (fail)
  obtain ⟨v15, hv15⟩ : ∃ v, v = u14.setCell ⟨F, 9, none⟩ (.int .i64 n7) := ⟨_, rfl⟩
  have X16 := Lib.hid (show Sx F B w v15 ⟨3, n1, n3, n4, n5, 0, 0, 0, n6, n7, 0, ⟨#[]⟩⟩ t7 by rw [hv15]; exact X15.out.put 9 _ _ rfl)
  rw [← hv15]
  clear hv15 zf X15 c0 c1 c2 c3 c4 c5 c6 c7 c8 c9 c10 c11
  obtain ⟨c0, c1, c2, c3, c4, c5, c6, c7, c8, c9, c10, c11⟩ := twelve_cells X16.out.f
  go_wp2_with fail
  refine (rUnsignedR_any B _ 16 _ X16.out.rd).mono ?_
  rw [G8.out]
  rintro e16 u16 ⟨rfl, hr, fr⟩
  have X17 := Lib.hid (X16.out.read hr fr)
  clear hr fr X16 c0 c1 c2 c3 c4 c5 c6 c7 c8 c9 c10 c11
  obtain ⟨c0, c1, c2, c3, c4, c5, c6, c7, c8, c9, c10, c11⟩ := twelve_cells X17.out.f
  have zf : u16.frozen? ⟨F, 10, none⟩ = false := by simp [World.frozen?, X17.out.f]
  go_upto_region 21 with (fail)
  obtain ⟨v17, hv17⟩ : ∃ v, v = u16.setCell ⟨F, 10, none⟩ (.int .i64 n8) := ⟨_, rfl⟩
  have X18 := Lib.hid (show Sx F B w v17 ⟨3, n1, n3, n4, n5, 0, 0, 0, n6, n7, n8, ⟨#[]⟩⟩ t8 by rw [hv17]; exact X17.out.put 10 _ _ rfl)
  rw [← hv17]
  clear hv17 zf X17 c0 c1 c2 c3 c4 c5 c6 c7 c8 c9 c10 c11
  obtain ⟨c0, c1, c2, c3, c4, c5, c6, c7, c8, c9, c10, c11⟩ := twelve_cells X18.out.f
  go_wp2_with fail
  refine (rTextR_any B _ 127 _ (by decide) X18.out.rd).mono ?_
  rw [G9.out]
  rintro e18 u18 ⟨rfl, hr, fr⟩
  have X19 := Lib.hid (X18.out.read hr fr)
  clear hr fr X18 c0 c1 c2 c3 c4 c5 c6 c7 c8 c9 c10 c11
  obtain ⟨c0, c1, c2, c3, c4, c5, c6, c7, c8, c9, c10, c11⟩ := twelve_cells X19.out.f
  have zf : u18.frozen? ⟨F, 11, none⟩ = false := by simp [World.frozen?, X19.out.f]
  go_upto_region 23 with (fail)
  obtain ⟨v19, hv19⟩ : ∃ v, v = u18.setCell ⟨F, 11, none⟩ (.string d9) := ⟨_, rfl⟩
  have X20 := Lib.hid (show Sx F B w v19 ⟨3, n1, n3, n4, n5, 0, 0, 0, n6, n7, n8, d9⟩ t9 by rw [hv19]; exact X19.out.put 11 _ _ rfl)
  rw [← hv19]
  clear hv19 zf X19 c0 c1 c2 c3 c4 c5 c6 c7 c8 c9 c10 c11
  obtain ⟨c0, c1, c2, c3, c4, c5, c6, c7, c8, c9, c10, c11⟩ := twelve_cells X20.out.f
  go_wp2_with fail
  refine (rCloseR_any B _ _ X20.out.rd).mono ?_
  rintro e30 w30 ⟨rfl, f30⟩
  have HF30 := Lib.hid (ge_nop (X20.out.fr.trans f30 (fun _ _ hh => hh.elim)))
  have HZ30 := Lib.hid (f30.blk X20.out.z (fun h => h))
  have HY30 := Lib.hid (f30.blk X20.out.f (fun h => h))
  clear f30 X20 c0 c1 c2 c3 c4 c5 c6 c7 c8 c9 c10 c11
  generalize rClose t9 = c at *
  rcases HK.out with ⟨k5, rfl, rfl⟩ | ⟨k5, k6, rfl, rfl⟩ | ⟨k5, k6, rfl, rfl⟩
  · have kb : (c != 0) = true := by simp [k5]
    obtain ⟨z0, z1, z2, z3, z4, z5, z6, z7, z8, z9, z10, z11⟩ := twelve_cells HZ30.out
    have zf := fun i => (show w30.frozen? ⟨w.heap.size, i, none⟩ = false by simp [World.frozen?, HZ30.out])
    clear HK k5 HV
    go_wp2_with fail
    refine bodyPost_ret (v := .tuple #[.agg #[.int .i64 0, .int .i64 0, .int .i64 0, .int .i64 0, .int .i64 0, .int .i64 0, .int .i64 0, .int .i64 0, .int .i64 0, .int .i64 0, .int .i64 0, .string ⟨#[]⟩], .int .i64 10]) (by simp [results, Try.results21, go_sem, z0, z1, z2, z3, z4, z5, z6, z7, z8, z9, z10, z11]) rfl ?_
    exact ⟨rfl, fr12 HF30.out (Nat.le_refl _) _ _ _ _ _ _ _ _ _ _ _ _⟩
  · subst k5
    rw [k6] at HV
    clear HK k6
    obtain ⟨y0, y1, y2, y3, y4, y5, y6, y7, y8, y9, y10, y11⟩ := twelve_cells HY30.out
    simp only [frA] at HV
    go_wp2_with fail
    refine (HV.out _).mono ?_
    rintro e31 w31 ⟨rfl, f31⟩
    have HF31 := Lib.hid (HF30.out.noTrans f31)
    have HZ31 := Lib.hid (f31.blk HZ30.out (fun h => h))
    have HY31 := Lib.hid (f31.blk HY30.out (fun h => h))
    clear f31 y0 y1 y2 y3 y4 y5 y6 y7 y8 y9 y10 y11
    obtain ⟨z0, z1, z2, z3, z4, z5, z6, z7, z8, z9, z10, z11⟩ := twelve_cells HZ31.out
    obtain ⟨y0, y1, y2, y3, y4, y5, y6, y7, y8, y9, y10, y11⟩ := twelve_cells HY31.out
    have zf := fun i => (show w31.frozen? ⟨w.heap.size, i, none⟩ = false by simp [World.frozen?, HZ31.out])
    go_wp2_with fail
    refine bodyPost_ret (v := .tuple #[.agg #[.int .i64 0, .int .i64 0, .int .i64 0, .int .i64 0, .int .i64 0, .int .i64 0, .int .i64 0, .int .i64 0, .int .i64 0, .int .i64 0, .int .i64 0, .string ⟨#[]⟩], .int .i64 10]) (by simp [results, Try.results21, go_sem, z0, z1, z2, z3, z4, z5, z6, z7, z8, z9, z10, z11]) rfl ?_
    exact ⟨rfl, fr12 HF31.out (Nat.le_refl _) _ _ _ _ _ _ _ _ _ _ _ _⟩
  · subst k5
    rw [k6] at HV
    clear HK k6
    obtain ⟨y0, y1, y2, y3, y4, y5, y6, y7, y8, y9, y10, y11⟩ := twelve_cells HY30.out
    simp only [frA] at HV
    go_wp2_with fail
    refine (HV.out _).mono ?_
    rintro e31 w31 ⟨rfl, f31⟩
    have HF31 := Lib.hid (HF30.out.noTrans f31)
    have HZ31 := Lib.hid (f31.blk HZ30.out (fun h => h))
    have HY31 := Lib.hid (f31.blk HY30.out (fun h => h))
    clear f31 y0 y1 y2 y3 y4 y5 y6 y7 y8 y9 y10 y11
    obtain ⟨z0, z1, z2, z3, z4, z5, z6, z7, z8, z9, z10, z11⟩ := twelve_cells HZ31.out
    obtain ⟨y0, y1, y2, y3, y4, y5, y6, y7, y8, y9, y10, y11⟩ := twelve_cells HY31.out
    have zf := fun i => (show w31.frozen? ⟨w.heap.size, i, none⟩ = false by simp [World.frozen?, HZ31.out])
    go_wp2_with fail
    refine bodyPost_ret (v := .tuple #[.agg #[.int .i64 3, .int .i64 n1, .int .i64 n3, .int .i64 n4, .int .i64 n5, .int .i64 0, .int .i64 0, .int .i64 0, .int .i64 n6, .int .i64 n7, .int .i64 n8, .string d9], .int .i64 0]) (by simp [results, Try.results21, go_sem, z0, z1, z2, z3, z4, z5, z6, z7, z8, z9, z10, z11]) rfl ?_
    exact ⟨rfl, fr12 HF31.out (Nat.le_refl _) _ _ _ _ _ _ _ _ _ _ _ _⟩
end Go.Proofs.Ytelpdihaonoedaa
namespace Go.Proofs.Ytelpdihaonoedaa
open Go.RowKit
set_option linter.unusedVariables false
set_option maxRecDepth 20000

set_option maxHeartbeats 8000000 in
theorem dc3f (s : ByteArray) (w : World) (hs : s.size ≤ 127) (hc : chkE s = 0) {st0 : RSt} (hst : rNew (chkV s) = st0) {n1 n4 n5 n6 n7 n8 : Int} {d9 : ByteArray} {t0 t1 t2 t3 t4 t5 t6 t7 t8 : RSt} (h0 : rUnsigned 3 st0 = (3, t0)) (h1 : rUnsigned 5 t0 = (n1, t1)) (h2 : rFlag t1 = (false, t2)) (h3 : rUnsigned 8 t2 = (n4, t3)) (h4 : rUnsigned 8 t3 = (n5, t4)) (h5 : rUnsigned 27 t4 = (n6, t5)) (h6 : rUnsigned 16 t5 = (n7, t6)) (h7 : rUnsigned 16 t6 = (n8, t7)) (h8 : rText 127 t7 = (d9, t8)) (V : Frm) (E : Int)
    (hk : (rClose t8 ≠ 0 ∧ V = zeroF ∧ E = 10) ∨ (rClose t8 = 0 ∧ okF (⟨3, n1, -1, n4, n5, 0, 0, 0, n6, n7, n8, d9⟩ : Frm) = false ∧ V = zeroF ∧ E = 10) ∨ (rClose t8 = 0 ∧ okF (⟨3, n1, -1, n4, n5, 0, 0, 0, n6, n7, n8, d9⟩ : Frm) = true ∧ V = (⟨3, n1, -1, n4, n5, 0, 0, 0, n6, n7, n8, d9⟩ : Frm) ∧ E = 0)) :
    Calls Try.prog 21 #[.string s] w fun e w' => e = .returned (.tuple #[.agg (frA V), .int .i64 E]) ∧ Fr no w w' := by
  have HC := Lib.hid (fun w => checkR_any s w (by omega))
  rw [hc] at HC
  have h127 : ¬ (127 : Int) < (s.size : Int) := by omega
  have HR := Lib.hid (fun w => newReaderR_any (chkV s) w (by have := chkV_small s hs; omega))
  rw [hst] at HR
  have HV := Lib.hid (fun w => ckr_any (⟨3, n1, -1, n4, n5, 0, 0, 0, n6, n7, n8, d9⟩ : Frm) w)
  have HK := Lib.hid hk
  have G0 := Lib.hid h0
  have G1 := Lib.hid h1
  have G2 := Lib.hid h2
  have G3 := Lib.hid h3
  have G4 := Lib.hid h4
  have G5 := Lib.hid h5
  have G6 := Lib.hid h6
  have G7 := Lib.hid h7
  have G8 := Lib.hid h8
  clear hs hc hk hst h0 h1 h2 h3 h4 h5 h6 h7 h8
  obtain ⟨W, hW⟩ : ∃ W, W = w.alloc (.cells zA 23 (0, 0)) := ⟨_, rfl⟩
  have HW := Lib.hid hW
  have HFW := Lib.hid (show Fr no w W by rw [hW]; exact (Fr.refl no w).alloc _)
  have HB := Lib.hid (show W.heap[w.heap.size]? = some (.cells zA 23 (0, 0)) by rw [hW]; exact heap_alloc_new w _)
  clear hW
  simp only [zA] at HW
  go_enter Try.func21, Try.ntmps21
  go_wp2_with fail
  rw [← HW.out]
  go_wp2_with fail
  refine (HC.out _).mono ?_
  rintro e1 w1 ⟨rfl, f1⟩
  have HF1 := Lib.hid (HFW.out.noTrans f1)
  have HB1 := Lib.hid (f1.blk HB.out (fun h => h))
  clear f1 HB
  go_wp2_with fail
  refine (HR.out _).mono ?_
  rintro e2 w2 ⟨rfl, hr, f2⟩
  have HF2 := Lib.hid (fr_nop f2 (fun _ h => h))
  have HR2 := Lib.hid hr
  clear f2 hr
  go_wp2_with fail
  refine (rUnsignedR_any w1.heap.size _ 3 _ HR2.out).mono ?_
  rw [G0.out]
  rintro e3 w3 ⟨rfl, hr, f3⟩
  have HR3 := Lib.hid hr
  have HF3 := Lib.hid f3
  clear hr f3
  go_wp2_with fail
  refine (rUnsignedR_any w1.heap.size _ 5 _ HR3.out).mono ?_
  rw [G1.out]
  rintro e4 w4 ⟨rfl, hr, f4⟩
  have X4 := Lib.hid (show Sx w4.heap.size w1.heap.size w (w4.alloc (.cells (frA ⟨3, n1, -1, 0, 0, 0, 0, 0, 0, 0, 0, ⟨#[]⟩⟩) 23 (0, 0))) ⟨3, n1, -1, 0, 0, 0, 0, 0, 0, 0, 0, ⟨#[]⟩⟩ t1 by
    have z1 := lt_of_blk HB1.out
    have z2 := HF2.out.size
    have z3 := HF3.out.size
    have z4 := f4.size
    have z5 := lt_of_blk hr.blk
    have b2 := HF2.out.blk HB1.out (fun h => h)
    have b3 := HF3.out.blk b2 (by simp only [only]; omega)
    have b4 := f4.blk b3 (by simp only [only]; omega)
    refine ⟨hr.alloc _, heap_alloc_new w4 _, alloc_keeps b4 _, by omega, by omega, by omega, ?_⟩
    have q : Fr (fun k => w.heap.size ≤ k) w w2 := (HF1.out.noTrans HF2.out).mono (fun _ _ hh => hh.elim)
    exact ((q.trans (HF3.out.mono (S' := fun k => w.heap.size ≤ k) (fun i _ hi => by rw [show i = w1.heap.size from hi]; omega)) (fun _ _ hh => hh)).trans (f4.mono (S' := fun k => w.heap.size ≤ k) (fun i _ hi => by rw [show i = w1.heap.size from hi]; omega)) (fun _ _ hh => hh)).alloc _)
  clear hr f4 HR2 HR3 HF1 HF2 HF3 HB1
  go_wp2_with fail
  obtain ⟨v4, hv4⟩ : ∃ v4, v4 = w4.alloc (.cells #[.int .i64 3, .int .i64 n1, .int .i64 (-1), .int .i64 0, .int .i64 0, .int .i64 0, .int .i64 0, .int .i64 0, .int .i64 0, .int .i64 0, .int .i64 0, .string ⟨#[]⟩] 23 (0, 0)) := ⟨_, rfl⟩
  have X5 := Lib.hid (show Sx w4.heap.size w1.heap.size w v4 ⟨3, n1, -1, 0, 0, 0, 0, 0, 0, 0, 0, ⟨#[]⟩⟩ t1 by rw [hv4]; exact X4.out)
  rw [← hv4]
  clear hv4 X4
  generalize w4.heap.size = F at *
  generalize w1.heap.size = B at *
  clear HFW HW
  obtain ⟨c0, c1, c2, c3, c4, c5, c6, c7, c8, c9, c10, c11⟩ := twelve_cells X5.out.f
  go_wp2_with fail
  refine (rFlagR_any B _ _ X5.out.rd).mono ?_
  rw [G2.out]
  rintro e5 u5 ⟨rfl, hr, fr⟩
  have X6 := Lib.hid (X5.out.read hr fr)
  clear hr fr X5 c0 c1 c2 c3 c4 c5 c6 c7 c8 c9 c10 c11
  obtain ⟨c0, c1, c2, c3, c4, c5, c6, c7, c8, c9, c10, c11⟩ := twelve_cells X6.out.f
  go_wp2_with fail
  refine (rUnsignedR_any B _ 8 _ X6.out.rd).mono ?_
  rw [G3.out]
  rintro e6 u6 ⟨rfl, hr, fr⟩
  have X7 := Lib.hid (X6.out.read hr fr)
  clear hr fr X6 c0 c1 c2 c3 c4 c5 c6 c7 c8 c9 c10 c11
  obtain ⟨c0, c1, c2, c3, c4, c5, c6, c7, c8, c9, c10, c11⟩ := twelve_cells X7.out.f
  have zf : u6.frozen? ⟨F, 3, none⟩ = false := by simp [World.frozen?, X7.out.f]
  go_upto_region 11 with (fail)
  obtain ⟨v7, hv7⟩ : ∃ v, v = u6.setCell ⟨F, 3, none⟩ (.int .i64 n4) := ⟨_, rfl⟩
  have X8 := Lib.hid (show Sx F B w v7 ⟨3, n1, -1, n4, 0, 0, 0, 0, 0, 0, 0, ⟨#[]⟩⟩ t3 by rw [hv7]; exact X7.out.put 3 _ _ rfl)
  rw [← hv7]
  clear hv7 zf X7 c0 c1 c2 c3 c4 c5 c6 c7 c8 c9 c10 c11
  obtain ⟨c0, c1, c2, c3, c4, c5, c6, c7, c8, c9, c10, c11⟩ := twelve_cells X8.out.f
  go_wp2_with fail
  refine (rUnsignedR_any B _ 8 _ X8.out.rd).mono ?_
  rw [G4.out]
  rintro e8 u8 ⟨rfl, hr, fr⟩
  have X9 := Lib.hid (X8.out.read hr fr)
  clear hr fr X8 c0 c1 c2 c3 c4 c5 c6 c7 c8 c9 c10 c11
  obtain ⟨c0, c1, c2, c3, c4, c5, c6, c7, c8, c9, c10, c11⟩ := twelve_cells X9.out.f
  have zf : u8.frozen? ⟨F, 4, none⟩ = false := by simp [World.frozen?, X9.out.f]
  go_upto_region 12 with (fail)
  obtain ⟨v9, hv9⟩ : ∃ v, v = u8.setCell ⟨F, 4, none⟩ (.int .i64 n5) := ⟨_, rfl⟩
  have X10 := Lib.hid (show Sx F B w v9 ⟨3, n1, -1, n4, n5, 0, 0, 0, 0, 0, 0, ⟨#[]⟩⟩ t4 by rw [hv9]; exact X9.out.put 4 _ _ rfl)
  rw [← hv9]
  clear hv9 zf X9 c0 c1 c2 c3 c4 c5 c6 c7 c8 c9 c10 c11
  obtain ⟨c0, c1, c2, c3, c4, c5, c6, c7, c8, c9, c10, c11⟩ := twelve_cells X10.out.f
  go_wp2_with fail
  refine (rUnsignedR_any B _ 27 _ X10.out.rd).mono ?_
  rw [G5.out]
  rintro e10 u10 ⟨rfl, hr, fr⟩
  have X11 := Lib.hid (X10.out.read hr fr)
  clear hr fr X10 c0 c1 c2 c3 c4 c5 c6 c7 c8 c9 c10 c11
  obtain ⟨c0, c1, c2, c3, c4, c5, c6, c7, c8, c9, c10, c11⟩ := twelve_cells X11.out.f
  have zf : u10.frozen? ⟨F, 8, none⟩ = false := by simp [World.frozen?, X11.out.f]
  go_upto_region 19 with (fail)
  obtain ⟨v11, hv11⟩ : ∃ v, v = u10.setCell ⟨F, 8, none⟩ (.int .i64 n6) := ⟨_, rfl⟩
  have X12 := Lib.hid (show Sx F B w v11 ⟨3, n1, -1, n4, n5, 0, 0, 0, n6, 0, 0, ⟨#[]⟩⟩ t5 by rw [hv11]; exact X11.out.put 8 _ _ rfl)
  rw [← hv11]
  clear hv11 zf X11 c0 c1 c2 c3 c4 c5 c6 c7 c8 c9 c10 c11
  obtain ⟨c0, c1, c2, c3, c4, c5, c6, c7, c8, c9, c10, c11⟩ := twelve_cells X12.out.f
  go_wp2_with fail
  refine (rUnsignedR_any B _ 16 _ X12.out.rd).mono ?_
  rw [G6.out]
  rintro e12 u12 ⟨rfl, hr, fr⟩
  have X13 := Lib.hid (X12.out.read hr fr)
  clear hr fr X12 c0 c1 c2 c3 c4 c5 c6 c7 c8 c9 c10 c11
  obtain ⟨c0, c1, c2, c3, c4, c5, c6, c7, c8, c9, c10, c11⟩ := twelve_cells X13.out.f
  have zf : u12.frozen? ⟨F, 9, none⟩ = false := by simp [World.frozen?, X13.out.f]
  go_upto_region 20 with (fail)
  obtain ⟨v13, hv13⟩ : ∃ v, v = u12.setCell ⟨F, 9, none⟩ (.int .i64 n7) := ⟨_, rfl⟩
  have X14 := Lib.hid (show Sx F B w v13 ⟨3, n1, -1, n4, n5, 0, 0, 0, n6, n7, 0, ⟨#[]⟩⟩ t6 by rw [hv13]; exact X13.out.put 9 _ _ rfl)
  rw [← hv13]
  clear hv13 zf X13 c0 c1 c2 c3 c4 c5 c6 c7 c8 c9 c10 c11
  obtain ⟨c0, c1, c2, c3, c4, c5, c6, c7, c8, c9, c10, c11⟩ := twelve_cells X14.out.f
  go_wp2_with fail
  refine (rUnsignedR_any B _ 16 _ X14.out.rd).mono ?_
  rw [G7.out]
  rintro e14 u14 ⟨rfl, hr, fr⟩
  have X15 := Lib.hid (X14.out.read hr fr)
  clear hr fr X14 c0 c1 c2 c3 c4 c5 c6 c7 c8 c9 c10 c11
  obtain ⟨c0, c1, c2, c3, c4, c5, c6, c7, c8, c9, c10, c11⟩ := twelve_cells X15.out.f
  have zf : u14.frozen? ⟨F, 10, none⟩ = false := by simp [World.frozen?, X15.out.f]
  go_upto_region 21 with (fail)
  obtain ⟨v15, hv15⟩ : ∃ v, v = u14.setCell ⟨F, 10, none⟩ (.int .i64 n8) := ⟨_, rfl⟩
  have X16 := Lib.hid (show Sx F B w v15 ⟨3, n1, -1, n4, n5, 0, 0, 0, n6, n7, n8, ⟨#[]⟩⟩ t7 by rw [hv15]; exact X15.out.put 10 _ _ rfl)
  rw [← hv15]
  clear hv15 zf X15 c0 c1 c2 c3 c4 c5 c6 c7 c8 c9 c10 c11
  obtain ⟨c0, c1, c2, c3, c4, c5, c6, c7, c8, c9, c10, c11⟩ := twelve_cells X16.out.f
  go_wp2_with fail
  refine (rTextR_any B _ 127 _ (by decide) X16.out.rd).mono ?_
  rw [G8.out]
  rintro e16 u16 ⟨rfl, hr, fr⟩
  have X17 := Lib.hid (X16.out.read hr fr)
  clear hr fr X16 c0 c1 c2 c3 c4 c5 c6 c7 c8 c9 c10 c11
  obtain ⟨c0, c1, c2, c3, c4, c5, c6, c7, c8, c9, c10, c11⟩ := twelve_cells X17.out.f
  have zf : u16.frozen? ⟨F, 11, none⟩ = false := by simp [World.frozen?, X17.out.f]
  go_upto_region 23 with (fail)
  obtain ⟨v17, hv17⟩ : ∃ v, v = u16.setCell ⟨F, 11, none⟩ (.string d9) := ⟨_, rfl⟩
  have X18 := Lib.hid (show Sx F B w v17 ⟨3, n1, -1, n4, n5, 0, 0, 0, n6, n7, n8, d9⟩ t8 by rw [hv17]; exact X17.out.put 11 _ _ rfl)
  rw [← hv17]
  clear hv17 zf X17 c0 c1 c2 c3 c4 c5 c6 c7 c8 c9 c10 c11
  obtain ⟨c0, c1, c2, c3, c4, c5, c6, c7, c8, c9, c10, c11⟩ := twelve_cells X18.out.f
  go_wp2_with fail
  refine (rCloseR_any B _ _ X18.out.rd).mono ?_
  rintro e30 w30 ⟨rfl, f30⟩
  have HF30 := Lib.hid (ge_nop (X18.out.fr.trans f30 (fun _ _ hh => hh.elim)))
  have HZ30 := Lib.hid (f30.blk X18.out.z (fun h => h))
  have HY30 := Lib.hid (f30.blk X18.out.f (fun h => h))
  clear f30 X18 c0 c1 c2 c3 c4 c5 c6 c7 c8 c9 c10 c11
  generalize rClose t8 = c at *
  rcases HK.out with ⟨k5, rfl, rfl⟩ | ⟨k5, k6, rfl, rfl⟩ | ⟨k5, k6, rfl, rfl⟩
  · have kb : (c != 0) = true := by simp [k5]
    obtain ⟨z0, z1, z2, z3, z4, z5, z6, z7, z8, z9, z10, z11⟩ := twelve_cells HZ30.out
    have zf := fun i => (show w30.frozen? ⟨w.heap.size, i, none⟩ = false by simp [World.frozen?, HZ30.out])
    clear HK k5 HV
    go_wp2_with fail
    refine bodyPost_ret (v := .tuple #[.agg #[.int .i64 0, .int .i64 0, .int .i64 0, .int .i64 0, .int .i64 0, .int .i64 0, .int .i64 0, .int .i64 0, .int .i64 0, .int .i64 0, .int .i64 0, .string ⟨#[]⟩], .int .i64 10]) (by simp [results, Try.results21, go_sem, z0, z1, z2, z3, z4, z5, z6, z7, z8, z9, z10, z11]) rfl ?_
    exact ⟨rfl, fr12 HF30.out (Nat.le_refl _) _ _ _ _ _ _ _ _ _ _ _ _⟩
  · subst k5
    rw [k6] at HV
    clear HK k6
    obtain ⟨y0, y1, y2, y3, y4, y5, y6, y7, y8, y9, y10, y11⟩ := twelve_cells HY30.out
    simp only [frA] at HV
    go_wp2_with fail
    refine (HV.out _).mono ?_
    rintro e31 w31 ⟨rfl, f31⟩
    have HF31 := Lib.hid (HF30.out.noTrans f31)
    have HZ31 := Lib.hid (f31.blk HZ30.out (fun h => h))
    have HY31 := Lib.hid (f31.blk HY30.out (fun h => h))
    clear f31 y0 y1 y2 y3 y4 y5 y6 y7 y8 y9 y10 y11
    obtain ⟨z0, z1, z2, z3, z4, z5, z6, z7, z8, z9, z10, z11⟩ := twelve_cells HZ31.out
    obtain ⟨y0, y1, y2, y3, y4, y5, y6, y7, y8, y9, y10, y11⟩ := twelve_cells HY31.out
    have zf := fun i => (show w31.frozen? ⟨w.heap.size, i, none⟩ = false by simp [World.frozen?, HZ31.out])
    go_wp2_with fail
    refine bodyPost_ret (v := .tuple #[.agg #[.int .i64 0, .int .i64 0, .int .i64 0, .int .i64 0, .int .i64 0, .int .i64 0, .int .i64 0, .int .i64 0, .int .i64 0, .int .i64 0, .int .i64 0, .string ⟨#[]⟩], .int .i64 10]) (by simp [results, Try.results21, go_sem, z0, z1, z2, z3, z4, z5, z6, z7, z8, z9, z10, z11]) rfl ?_
    exact ⟨rfl, fr12 HF31.out (Nat.le_refl _) _ _ _ _ _ _ _ _ _ _ _ _⟩
  · subst k5
    rw [k6] at HV
    clear HK k6
    obtain ⟨y0, y1, y2, y3, y4, y5, y6, y7, y8, y9, y10, y11⟩ := twelve_cells HY30.out
    simp only [frA] at HV
    go_wp2_with fail
    refine (HV.out _).mono ?_
    rintro e31 w31 ⟨rfl, f31⟩
    have HF31 := Lib.hid (HF30.out.noTrans f31)
    have HZ31 := Lib.hid (f31.blk HZ30.out (fun h => h))
    have HY31 := Lib.hid (f31.blk HY30.out (fun h => h))
    clear f31 y0 y1 y2 y3 y4 y5 y6 y7 y8 y9 y10 y11
    obtain ⟨z0, z1, z2, z3, z4, z5, z6, z7, z8, z9, z10, z11⟩ := twelve_cells HZ31.out
    obtain ⟨y0, y1, y2, y3, y4, y5, y6, y7, y8, y9, y10, y11⟩ := twelve_cells HY31.out
    have zf := fun i => (show w31.frozen? ⟨w.heap.size, i, none⟩ = false by simp [World.frozen?, HZ31.out])
    go_wp2_with fail
    refine bodyPost_ret (v := .tuple #[.agg #[.int .i64 3, .int .i64 n1, .int .i64 (-1), .int .i64 n4, .int .i64 n5, .int .i64 0, .int .i64 0, .int .i64 0, .int .i64 n6, .int .i64 n7, .int .i64 n8, .string d9], .int .i64 0]) (by simp [results, Try.results21, go_sem, z0, z1, z2, z3, z4, z5, z6, z7, z8, z9, z10, z11]) rfl ?_
    exact ⟨rfl, fr12 HF31.out (Nat.le_refl _) _ _ _ _ _ _ _ _ _ _ _ _⟩
end Go.Proofs.Ytelpdihaonoedaa
namespace Go.Proofs.Ytelpdihaonoedaa
open Go.RowKit
set_option linter.unusedVariables false
set_option maxRecDepth 20000

set_option maxHeartbeats 8000000 in
theorem dc4t (s : ByteArray) (w : World) (hs : s.size ≤ 127) (hc : chkE s = 0) {st0 : RSt} (hst : rNew (chkV s) = st0) {n0 n1 n3 n4 n5 : Int} {d6 : ByteArray} {t0 t1 t2 t3 t4 t5 t6 : RSt} (h0 : rUnsigned 3 st0 = (n0, t0)) (h1 : rUnsigned 5 t0 = (n1, t1)) (h2 : rFlag t1 = (true, t2)) (h3 : rUnsigned 5 t2 = (n3, t3)) (h4 : rUnsigned 8 t3 = (n4, t4)) (h5 : rUnsigned 8 t4 = (n5, t5)) (h6 : rText 127 t5 = (d6, t6)) (k1 : (n0 == 1) = false) (k2 : (n0 == 2) = false) (k3 : (n0 == 3) = false) (k2n : (n0 != 2) = true) (V : Frm) (E : Int)
    (hk : (rClose t6 ≠ 0 ∧ V = zeroF ∧ E = 10) ∨ (rClose t6 = 0 ∧ okF (⟨n0, n1, n3, n4, n5, 0, 0, 0, 0, 0, 0, d6⟩ : Frm) = false ∧ V = zeroF ∧ E = 10) ∨ (rClose t6 = 0 ∧ okF (⟨n0, n1, n3, n4, n5, 0, 0, 0, 0, 0, 0, d6⟩ : Frm) = true ∧ V = (⟨n0, n1, n3, n4, n5, 0, 0, 0, 0, 0, 0, d6⟩ : Frm) ∧ E = 0)) :
    Calls Try.prog 21 #[.string s] w fun e w' => e = .returned (.tuple #[.agg (frA V), .int .i64 E]) ∧ Fr no w w' := by
  have HC := Lib.hid (fun w => checkR_any s w (by omega))
  rw [hc] at HC
  have h127 : ¬ (127 : Int) < (s.size : Int) := by omega
  have HR := Lib.hid (fun w => newReaderR_any (chkV s) w (by have := chkV_small s hs; omega))
  rw [hst] at HR
  have HV := Lib.hid (fun w => ckr_any (⟨n0, n1, n3, n4, n5, 0, 0, 0, 0, 0, 0, d6⟩ : Frm) w)
  have HK := Lib.hid hk
  have G0 := Lib.hid h0
  have G1 := Lib.hid h1
  have G2 := Lib.hid h2
  have G3 := Lib.hid h3
  have G4 := Lib.hid h4
  have G5 := Lib.hid h5
  have G6 := Lib.hid h6
  clear hs hc hk hst h0 h1 h2 h3 h4 h5 h6
  obtain ⟨W, hW⟩ : ∃ W, W = w.alloc (.cells zA 23 (0, 0)) := ⟨_, rfl⟩
  have HW := Lib.hid hW
  have HFW := Lib.hid (show Fr no w W by rw [hW]; exact (Fr.refl no w).alloc _)
  have HB := Lib.hid (show W.heap[w.heap.size]? = some (.cells zA 23 (0, 0)) by rw [hW]; exact heap_alloc_new w _)
  clear hW
  simp only [zA] at HW
  go_enter Try.func21, Try.ntmps21
  go_wp2_with fail
  rw [← HW.out]
  go_wp2_with fail
  refine (HC.out _).mono ?_
  rintro e1 w1 ⟨rfl, f1⟩
  have HF1 := Lib.hid (HFW.out.noTrans f1)
  have HB1 := Lib.hid (f1.blk HB.out (fun h => h))
  clear f1 HB
  go_wp2_with fail
  refine (HR.out _).mono ?_
  rintro e2 w2 ⟨rfl, hr, f2⟩
  have HF2 := Lib.hid (fr_nop f2 (fun _ h => h))
  have HR2 := Lib.hid hr
  clear f2 hr
  go_wp2_with fail
  refine (rUnsignedR_any w1.heap.size _ 3 _ HR2.out).mono ?_
  rw [G0.out]
  rintro e3 w3 ⟨rfl, hr, f3⟩
  have HR3 := Lib.hid hr
  have HF3 := Lib.hid f3
  clear hr f3
  go_wp2_with fail
  refine (rUnsignedR_any w1.heap.size _ 5 _ HR3.out).mono ?_
  rw [G1.out]
  rintro e4 w4 ⟨rfl, hr, f4⟩
  have X4 := Lib.hid (show Sx w4.heap.size w1.heap.size w (w4.alloc (.cells (frA ⟨n0, n1, -1, 0, 0, 0, 0, 0, 0, 0, 0, ⟨#[]⟩⟩) 23 (0, 0))) ⟨n0, n1, -1, 0, 0, 0, 0, 0, 0, 0, 0, ⟨#[]⟩⟩ t1 by
    have z1 := lt_of_blk HB1.out
    have z2 := HF2.out.size
    have z3 := HF3.out.size
    have z4 := f4.size
    have z5 := lt_of_blk hr.blk
    have b2 := HF2.out.blk HB1.out (fun h => h)
    have b3 := HF3.out.blk b2 (by simp only [only]; omega)
    have b4 := f4.blk b3 (by simp only [only]; omega)
    refine ⟨hr.alloc _, heap_alloc_new w4 _, alloc_keeps b4 _, by omega, by omega, by omega, ?_⟩
    have q : Fr (fun k => w.heap.size ≤ k) w w2 := (HF1.out.noTrans HF2.out).mono (fun _ _ hh => hh.elim)
    exact ((q.trans (HF3.out.mono (S' := fun k => w.heap.size ≤ k) (fun i _ hi => by rw [show i = w1.heap.size from hi]; omega)) (fun _ _ hh => hh)).trans (f4.mono (S' := fun k => w.heap.size ≤ k) (fun i _ hi => by rw [show i = w1.heap.size from hi]; omega)) (fun _ _ hh => hh)).alloc _)
  clear hr f4 HR2 HR3 HF1 HF2 HF3 HB1
  go_wp2_with fail
  obtain ⟨v4, hv4⟩ : ∃ v4, v4 = w4.alloc (.cells #[.int .i64 n0, .int .i64 n1, .int .i64 (-1), .int .i64 0, .int .i64 0, .int .i64 0, .int .i64 0, .int .i64 0, .int .i64 0, .int .i64 0, .int .i64 0, .string ⟨#[]⟩] 23 (0, 0)) := ⟨_, rfl⟩
  have X5 := Lib.hid (show Sx w4.heap.size w1.heap.size w v4 ⟨n0, n1, -1, 0, 0, 0, 0, 0, 0, 0, 0, ⟨#[]⟩⟩ t1 by rw [hv4]; exact X4.out)
  rw [← hv4]
  clear hv4 X4
  generalize w4.heap.size = F at *
  generalize w1.heap.size = B at *
  clear HFW HW
  obtain ⟨c0, c1, c2, c3, c4, c5, c6, c7, c8, c9, c10, c11⟩ := twelve_cells X5.out.f
  go_wp2_with fail
  refine (rFlagR_any B _ _ X5.out.rd).mono ?_
  rw [G2.out]
  rintro e5 u5 ⟨rfl, hr, fr⟩
  have X6 := Lib.hid (X5.out.read hr fr)
  clear hr fr X5 c0 c1 c2 c3 c4 c5 c6 c7 c8 c9 c10 c11
  obtain ⟨c0, c1, c2, c3, c4, c5, c6, c7, c8, c9, c10, c11⟩ := twelve_cells X6.out.f
  go_wp2_with fail
  refine (rUnsignedR_any B _ 5 _ X6.out.rd).mono ?_
  rw [G3.out]
  rintro e6 u6 ⟨rfl, hr, fr⟩
  have X7 := Lib.hid (X6.out.read hr fr)
  clear hr fr X6 c0 c1 c2 c3 c4 c5 c6 c7 c8 c9 c10 c11
  obtain ⟨c0, c1, c2, c3, c4, c5, c6, c7, c8, c9, c10, c11⟩ := twelve_cells X7.out.f
  have zf : u6.frozen? ⟨F, 2, none⟩ = false := by simp [World.frozen?, X7.out.f]
  go_upto_region 10 with (fail)
  obtain ⟨v7, hv7⟩ : ∃ v, v = u6.setCell ⟨F, 2, none⟩ (.int .i64 n3) := ⟨_, rfl⟩
  have X8 := Lib.hid (show Sx F B w v7 ⟨n0, n1, n3, 0, 0, 0, 0, 0, 0, 0, 0, ⟨#[]⟩⟩ t3 by rw [hv7]; exact X7.out.put 2 _ _ rfl)
  rw [← hv7]
  clear hv7 zf X7 c0 c1 c2 c3 c4 c5 c6 c7 c8 c9 c10 c11
  obtain ⟨c0, c1, c2, c3, c4, c5, c6, c7, c8, c9, c10, c11⟩ := twelve_cells X8.out.f
  go_wp2_with fail
  refine (rUnsignedR_any B _ 8 _ X8.out.rd).mono ?_
  rw [G4.out]
  rintro e8 u8 ⟨rfl, hr, fr⟩
  have X9 := Lib.hid (X8.out.read hr fr)
  clear hr fr X8 c0 c1 c2 c3 c4 c5 c6 c7 c8 c9 c10 c11
  obtain ⟨c0, c1, c2, c3, c4, c5, c6, c7, c8, c9, c10, c11⟩ := twelve_cells X9.out.f
  have zf : u8.frozen? ⟨F, 3, none⟩ = false := by simp [World.frozen?, X9.out.f]
  go_upto_region 11 with (fail)
  obtain ⟨v9, hv9⟩ : ∃ v, v = u8.setCell ⟨F, 3, none⟩ (.int .i64 n4) := ⟨_, rfl⟩
  have X10 := Lib.hid (show Sx F B w v9 ⟨n0, n1, n3, n4, 0, 0, 0, 0, 0, 0, 0, ⟨#[]⟩⟩ t4 by rw [hv9]; exact X9.out.put 3 _ _ rfl)
  rw [← hv9]
  clear hv9 zf X9 c0 c1 c2 c3 c4 c5 c6 c7 c8 c9 c10 c11
  obtain ⟨c0, c1, c2, c3, c4, c5, c6, c7, c8, c9, c10, c11⟩ := twelve_cells X10.out.f
  go_wp2_with fail
  refine (rUnsignedR_any B _ 8 _ X10.out.rd).mono ?_
  rw [G5.out]
  rintro e10 u10 ⟨rfl, hr, fr⟩
  have X11 := Lib.hid (X10.out.read hr fr)
  clear hr fr X10 c0 c1 c2 c3 c4 c5 c6 c7 c8 c9 c10 c11
  obtain ⟨c0, c1, c2, c3, c4, c5, c6, c7, c8, c9, c10, c11⟩ := twelve_cells X11.out.f
  have zf : u10.frozen? ⟨F, 4, none⟩ = false := by simp [World.frozen?, X11.out.f]
  go_upto_region 12 with (fail)
  obtain ⟨v11, hv11⟩ : ∃ v, v = u10.setCell ⟨F, 4, none⟩ (.int .i64 n5) := ⟨_, rfl⟩
  have X12 := Lib.hid (show Sx F B w v11 ⟨n0, n1, n3, n4, n5, 0, 0, 0, 0, 0, 0, ⟨#[]⟩⟩ t5 by rw [hv11]; exact X11.out.put 4 _ _ rfl)
  rw [← hv11]
  clear hv11 zf X11 c0 c1 c2 c3 c4 c5 c6 c7 c8 c9 c10 c11
  obtain ⟨c0, c1, c2, c3, c4, c5, c6, c7, c8, c9, c10, c11⟩ := twelve_cells X12.out.f
  go_wp2_with fail
  refine (rTextR_any B _ 127 _ (by decide) X12.out.rd).mono ?_
  rw [G6.out]
  rintro e12 u12 ⟨rfl, hr, fr⟩
  have X13 := Lib.hid (X12.out.read hr fr)
  clear hr fr X12 c0 c1 c2 c3 c4 c5 c6 c7 c8 c9 c10 c11
  obtain ⟨c0, c1, c2, c3, c4, c5, c6, c7, c8, c9, c10, c11⟩ := twelve_cells X13.out.f
  have zf : u12.frozen? ⟨F, 11, none⟩ = false := by simp [World.frozen?, X13.out.f]
  go_upto_region 23 with (fail)
  obtain ⟨v13, hv13⟩ : ∃ v, v = u12.setCell ⟨F, 11, none⟩ (.string d6) := ⟨_, rfl⟩
  have X14 := Lib.hid (show Sx F B w v13 ⟨n0, n1, n3, n4, n5, 0, 0, 0, 0, 0, 0, d6⟩ t6 by rw [hv13]; exact X13.out.put 11 _ _ rfl)
  rw [← hv13]
  clear hv13 zf X13 c0 c1 c2 c3 c4 c5 c6 c7 c8 c9 c10 c11
  obtain ⟨c0, c1, c2, c3, c4, c5, c6, c7, c8, c9, c10, c11⟩ := twelve_cells X14.out.f
  go_wp2_with fail
  refine (rCloseR_any B _ _ X14.out.rd).mono ?_
  rintro e30 w30 ⟨rfl, f30⟩
  have HF30 := Lib.hid (ge_nop (X14.out.fr.trans f30 (fun _ _ hh => hh.elim)))
  have HZ30 := Lib.hid (f30.blk X14.out.z (fun h => h))
  have HY30 := Lib.hid (f30.blk X14.out.f (fun h => h))
  clear f30 X14 c0 c1 c2 c3 c4 c5 c6 c7 c8 c9 c10 c11
  generalize rClose t6 = c at *
  rcases HK.out with ⟨k5, rfl, rfl⟩ | ⟨k5, k6, rfl, rfl⟩ | ⟨k5, k6, rfl, rfl⟩
  · have kb : (c != 0) = true := by simp [k5]
    obtain ⟨z0, z1, z2, z3, z4, z5, z6, z7, z8, z9, z10, z11⟩ := twelve_cells HZ30.out
    have zf := fun i => (show w30.frozen? ⟨w.heap.size, i, none⟩ = false by simp [World.frozen?, HZ30.out])
    clear HK k5 HV
    go_wp2_with fail
    refine bodyPost_ret (v := .tuple #[.agg #[.int .i64 0, .int .i64 0, .int .i64 0, .int .i64 0, .int .i64 0, .int .i64 0, .int .i64 0, .int .i64 0, .int .i64 0, .int .i64 0, .int .i64 0, .string ⟨#[]⟩], .int .i64 10]) (by simp [results, Try.results21, go_sem, z0, z1, z2, z3, z4, z5, z6, z7, z8, z9, z10, z11]) rfl ?_
    exact ⟨rfl, fr12 HF30.out (Nat.le_refl _) _ _ _ _ _ _ _ _ _ _ _ _⟩
  · subst k5
    rw [k6] at HV
    clear HK k6
    obtain ⟨y0, y1, y2, y3, y4, y5, y6, y7, y8, y9, y10, y11⟩ := twelve_cells HY30.out
    simp only [frA] at HV
    go_wp2_with fail
    refine (HV.out _).mono ?_
    rintro e31 w31 ⟨rfl, f31⟩
    have HF31 := Lib.hid (HF30.out.noTrans f31)
    have HZ31 := Lib.hid (f31.blk HZ30.out (fun h => h))
    have HY31 := Lib.hid (f31.blk HY30.out (fun h => h))
    clear f31 y0 y1 y2 y3 y4 y5 y6 y7 y8 y9 y10 y11
    obtain ⟨z0, z1, z2, z3, z4, z5, z6, z7, z8, z9, z10, z11⟩ := twelve_cells HZ31.out
    obtain ⟨y0, y1, y2, y3, y4, y5, y6, y7, y8, y9, y10, y11⟩ := twelve_cells HY31.out
    have zf := fun i => (show w31.frozen? ⟨w.heap.size, i, none⟩ = false by simp [World.frozen?, HZ31.out])
    go_wp2_with fail
    refine bodyPost_ret (v := .tuple #[.agg #[.int .i64 0, .int .i64 0, .int .i64 0, .int .i64 0, .int .i64 0, .int .i64 0, .int .i64 0, .int .i64 0, .int .i64 0, .int .i64 0, .int .i64 0, .string ⟨#[]⟩], .int .i64 10]) (by simp [results, Try.results21, go_sem, z0, z1, z2, z3, z4, z5, z6, z7, z8, z9, z10, z11]) rfl ?_
    exact ⟨rfl, fr12 HF31.out (Nat.le_refl _) _ _ _ _ _ _ _ _ _ _ _ _⟩
  · subst k5
    rw [k6] at HV
    clear HK k6
    obtain ⟨y0, y1, y2, y3, y4, y5, y6, y7, y8, y9, y10, y11⟩ := twelve_cells HY30.out
    simp only [frA] at HV
    go_wp2_with fail
    refine (HV.out _).mono ?_
    rintro e31 w31 ⟨rfl, f31⟩
    have HF31 := Lib.hid (HF30.out.noTrans f31)
    have HZ31 := Lib.hid (f31.blk HZ30.out (fun h => h))
    have HY31 := Lib.hid (f31.blk HY30.out (fun h => h))
    clear f31 y0 y1 y2 y3 y4 y5 y6 y7 y8 y9 y10 y11
    obtain ⟨z0, z1, z2, z3, z4, z5, z6, z7, z8, z9, z10, z11⟩ := twelve_cells HZ31.out
    obtain ⟨y0, y1, y2, y3, y4, y5, y6, y7, y8, y9, y10, y11⟩ := twelve_cells HY31.out
    have zf := fun i => (show w31.frozen? ⟨w.heap.size, i, none⟩ = false by simp [World.frozen?, HZ31.out])
    go_wp2_with fail
    refine bodyPost_ret (v := .tuple #[.agg #[.int .i64 n0, .int .i64 n1, .int .i64 n3, .int .i64 n4, .int .i64 n5, .int .i64 0, .int .i64 0, .int .i64 0, .int .i64 0, .int .i64 0, .int .i64 0, .string d6], .int .i64 0]) (by simp [results, Try.results21, go_sem, z0, z1, z2, z3, z4, z5, z6, z7, z8, z9, z10, z11]) rfl ?_
    exact ⟨rfl, fr12 HF31.out (Nat.le_refl _) _ _ _ _ _ _ _ _ _ _ _ _⟩
end Go.Proofs.Ytelpdihaonoedaa
namespace Go.Proofs.Ytelpdihaonoedaa
open Go.RowKit
set_option linter.unusedVariables false
set_option maxRecDepth 20000

set_option maxHeartbeats 8000000 in
theorem dc4f (s : ByteArray) (w : World) (hs : s.size ≤ 127) (hc : chkE s = 0) {st0 : RSt} (hst : rNew (chkV s) = st0) {n0 n1 n4 n5 : Int} {d6 : ByteArray} {t0 t1 t2 t3 t4 t5 : RSt} (h0 : rUnsigned 3 st0 = (n0, t0)) (h1 : rUnsigned 5 t0 = (n1, t1)) (h2 : rFlag t1 = (false, t2)) (h3 : rUnsigned 8 t2 = (n4, t3)) (h4 : rUnsigned 8 t3 = (n5, t4)) (h5 : rText 127 t4 = (d6, t5)) (k1 : (n0 == 1) = false) (k2 : (n0 == 2) = false) (k3 : (n0 == 3) = false) (k2n : (n0 != 2) = true) (V : Frm) (E : Int)
    (hk : (rClose t5 ≠ 0 ∧ V = zeroF ∧ E = 10) ∨ (rClose t5 = 0 ∧ okF (⟨n0, n1, -1, n4, n5, 0, 0, 0, 0, 0, 0, d6⟩ : Frm) = false ∧ V = zeroF ∧ E = 10) ∨ (rClose t5 = 0 ∧ okF (⟨n0, n1, -1, n4, n5, 0, 0, 0, 0, 0, 0, d6⟩ : Frm) = true ∧ V = (⟨n0, n1, -1, n4, n5, 0, 0, 0, 0, 0, 0, d6⟩ : Frm) ∧ E = 0)) :
    Calls Try.prog 21 #[.string s] w fun e w' => e = .returned (.tuple #[.agg (frA V), .int .i64 E]) ∧ Fr no w w' := by
  have HC := Lib.hid (fun w => checkR_any s w (by omega))
  rw [hc] at HC
  have h127 : ¬ (127 : Int) < (s.size : Int) := by omega
  have HR := Lib.hid (fun w => newReaderR_any (chkV s) w (by have := chkV_small s hs; omega))
  rw [hst] at HR
  have HV := Lib.hid (fun w => ckr_any (⟨n0, n1, -1, n4, n5, 0, 0, 0, 0, 0, 0, d6⟩ : Frm) w)
  have HK := Lib.hid hk
  have G0 := Lib.hid h0
  have G1 := Lib.hid h1
  have G2 := Lib.hid h2
  have G3 := Lib.hid h3
  have G4 := Lib.hid h4
  have G5 := Lib.hid h5
  clear hs hc hk hst h0 h1 h2 h3 h4 h5
  obtain ⟨W, hW⟩ : ∃ W, W = w.alloc (.cells zA 23 (0, 0)) := ⟨_, rfl⟩
  have HW := Lib.hid hW
  have HFW := Lib.hid (show Fr no w W by rw [hW]; exact (Fr.refl no w).alloc _)
  have HB := Lib.hid (show W.heap[w.heap.size]? = some (.cells zA 23 (0, 0)) by rw [hW]; exact heap_alloc_new w _)
  clear hW
  simp only [zA] at HW
  go_enter Try.func21, Try.ntmps21
  go_wp2_with fail
  rw [← HW.out]
  go_wp2_with fail
  refine (HC.out _).mono ?_
  rintro e1 w1 ⟨rfl, f1⟩
  have HF1 := Lib.hid (HFW.out.noTrans f1)
  have HB1 := Lib.hid (f1.blk HB.out (fun h => h))
  clear f1 HB
  go_wp2_with fail
  refine (HR.out _).mono ?_
  rintro e2 w2 ⟨rfl, hr, f2⟩
  have HF2 := Lib.hid (fr_nop f2 (fun _ h => h))
  have HR2 := Lib.hid hr
  clear f2 hr
  go_wp2_with fail
  refine (rUnsignedR_any w1.heap.size _ 3 _ HR2.out).mono ?_
  rw [G0.out]
  rintro e3 w3 ⟨rfl, hr, f3⟩
  have HR3 := Lib.hid hr
  have HF3 := Lib.hid f3
  clear hr f3
  go_wp2_with fail
  refine (rUnsignedR_any w1.heap.size _ 5 _ HR3.out).mono ?_
  rw [G1.out]
  rintro e4 w4 ⟨rfl, hr, f4⟩
  have X4 := Lib.hid (show Sx w4.heap.size w1.heap.size w (w4.alloc (.cells (frA ⟨n0, n1, -1, 0, 0, 0, 0, 0, 0, 0, 0, ⟨#[]⟩⟩) 23 (0, 0))) ⟨n0, n1, -1, 0, 0, 0, 0, 0, 0, 0, 0, ⟨#[]⟩⟩ t1 by
    have z1 := lt_of_blk HB1.out
    have z2 := HF2.out.size
    have z3 := HF3.out.size
    have z4 := f4.size
    have z5 := lt_of_blk hr.blk
    have b2 := HF2.out.blk HB1.out (fun h => h)
    have b3 := HF3.out.blk b2 (by simp only [only]; omega)
    have b4 := f4.blk b3 (by simp only [only]; omega)
    refine ⟨hr.alloc _, heap_alloc_new w4 _, alloc_keeps b4 _, by omega, by omega, by omega, ?_⟩
    have q : Fr (fun k => w.heap.size ≤ k) w w2 := (HF1.out.noTrans HF2.out).mono (fun _ _ hh => hh.elim)
    exact ((q.trans (HF3.out.mono (S' := fun k => w.heap.size ≤ k) (fun i _ hi => by rw [show i = w1.heap.size from hi]; omega)) (fun _ _ hh => hh)).trans (f4.mono (S' := fun k => w.heap.size ≤ k) (fun i _ hi => by rw [show i = w1.heap.size from hi]; omega)) (fun _ _ hh => hh)).alloc _)
  clear hr f4 HR2 HR3 HF1 HF2 HF3 HB1
  go_wp2_with fail
  obtain ⟨v4, hv4⟩ : ∃ v4, v4 = w4.alloc (.cells #[.int .i64 n0, .int .i64 n1, .int .i64 (-1), .int .i64 0, .int .i64 0, .int .i64 0, .int .i64 0, .int .i64 0, .int .i64 0, .int .i64 0, .int .i64 0, .string ⟨#[]⟩] 23 (0, 0)) := ⟨_, rfl⟩
  have X5 := Lib.hid (show Sx w4.heap.size w1.heap.size w v4 ⟨n0, n1, -1, 0, 0, 0, 0, 0, 0, 0, 0, ⟨#[]⟩⟩ t1 by rw [hv4]; exact X4.out)
  rw [← hv4]
  clear hv4 X4
  generalize w4.heap.size = F at *
  generalize w1.heap.size = B at *
  clear HFW HW
  obtain ⟨c0, c1, c2, c3, c4, c5, c6, c7, c8, c9, c10, c11⟩ := twelve_cells X5.out.f
  go_wp2_with fail
  refine (rFlagR_any B _ _ X5.out.rd).mono ?_
  rw [G2.out]
  rintro e5 u5 ⟨rfl, hr, fr⟩
  have X6 := Lib.hid (X5.out.read hr fr)
  clear hr fr X5 c0 c1 c2 c3 c4 c5 c6 c7 c8 c9 c10 c11
  obtain ⟨c0, c1, c2, c3, c4, c5, c6, c7, c8, c9, c10, c11⟩ := twelve_cells X6.out.f
  go_wp2_with fail
  refine (rUnsignedR_any B _ 8 _ X6.out.rd).mono ?_
  rw [G3.out]
  rintro e6 u6 ⟨rfl, hr, fr⟩
  have X7 := Lib.hid (X6.out.read hr fr)
  clear hr fr X6 c0 c1 c2 c3 c4 c5 c6 c7 c8 c9 c10 c11
  obtain ⟨c0, c1, c2, c3, c4, c5, c6, c7, c8, c9, c10, c11⟩ := twelve_cells X7.out.f
  have zf : u6.frozen? ⟨F, 3, none⟩ = false := by simp [World.frozen?, X7.out.f]
  go_upto_region 11 with (fail)
  obtain ⟨v7, hv7⟩ : ∃ v, v = u6.setCell ⟨F, 3, none⟩ (.int .i64 n4) := ⟨_, rfl⟩
  have X8 := Lib.hid (show Sx F B w v7 ⟨n0, n1, -1, n4, 0, 0, 0, 0, 0, 0, 0, ⟨#[]⟩⟩ t3 by rw [hv7]; exact X7.out.put 3 _ _ rfl)
  rw [← hv7]
  clear hv7 zf X7 c0 c1 c2 c3 c4 c5 c6 c7 c8 c9 c10 c11
  obtain ⟨c0, c1, c2, c3, c4, c5, c6, c7, c8, c9, c10, c11⟩ := twelve_cells X8.out.f
  go_wp2_with fail
  refine (rUnsignedR_any B _ 8 _ X8.out.rd).mono ?_
  rw [G4.out]
  rintro e8 u8 ⟨rfl, hr, fr⟩
  have X9 := Lib.hid (X8.out.read hr fr)
  clear hr fr X8 c0 c1 c2 c3 c4 c5 c6 c7 c8 c9 c10 c11
  obtain ⟨c0, c1, c2, c3, c4, c5, c6, c7, c8, c9, c10, c11⟩ := twelve_cells X9.out.f
  have zf : u8.frozen? ⟨F, 4, none⟩ = false := by simp [World.frozen?, X9.out.f]
  go_upto_region 12 with (fail)
  obtain ⟨v9, hv9⟩ : ∃ v, v = u8.setCell ⟨F, 4, none⟩ (.int .i64 n5) := ⟨_, rfl⟩
  have X10 := Lib.hid (show Sx F B w v9 ⟨n0, n1, -1, n4, n5, 0, 0, 0, 0, 0, 0, ⟨#[]⟩⟩ t4 by rw [hv9]; exact X9.out.put 4 _ _ rfl)
  rw [← hv9]
  clear hv9 zf X9 c0 c1 c2 c3 c4 c5 c6 c7 c8 c9 c10 c11
  obtain ⟨c0, c1, c2, c3, c4, c5, c6, c7, c8, c9, c10, c11⟩ := twelve_cells X10.out.f
  go_wp2_with fail
  refine (rTextR_any B _ 127 _ (by decide) X10.out.rd).mono ?_
  rw [G5.out]
  rintro e10 u10 ⟨rfl, hr, fr⟩
  have X11 := Lib.hid (X10.out.read hr fr)
  clear hr fr X10 c0 c1 c2 c3 c4 c5 c6 c7 c8 c9 c10 c11
  obtain ⟨c0, c1, c2, c3, c4, c5, c6, c7, c8, c9, c10, c11⟩ := twelve_cells X11.out.f
  have zf : u10.frozen? ⟨F, 11, none⟩ = false := by simp [World.frozen?, X11.out.f]
  go_upto_region 23 with (fail)
  obtain ⟨v11, hv11⟩ : ∃ v, v = u10.setCell ⟨F, 11, none⟩ (.string d6) := ⟨_, rfl⟩
  have X12 := Lib.hid (show Sx F B w v11 ⟨n0, n1, -1, n4, n5, 0, 0, 0, 0, 0, 0, d6⟩ t5 by rw [hv11]; exact X11.out.put 11 _ _ rfl)
  rw [← hv11]
  clear hv11 zf X11 c0 c1 c2 c3 c4 c5 c6 c7 c8 c9 c10 c11
  obtain ⟨c0, c1, c2, c3, c4, c5, c6, c7, c8, c9, c10, c11⟩ := twelve_cells X12.out.f
  go_wp2_with fail
  refine (rCloseR_any B _ _ X12.out.rd).mono ?_
  rintro e30 w30 ⟨rfl, f30⟩
  have HF30 := Lib.hid (ge_nop (X12.out.fr.trans f30 (fun _ _ hh => hh.elim)))
  have HZ30 := Lib.hid (f30.blk X12.out.z (fun h => h))
  have HY30 := Lib.hid (f30.blk X12.out.f (fun h => h))
  clear f30 X12 c0 c1 c2 c3 c4 c5 c6 c7 c8 c9 c10 c11
  generalize rClose t5 = c at *
  rcases HK.out with ⟨k5, rfl, rfl⟩ | ⟨k5, k6, rfl, rfl⟩ | ⟨k5, k6, rfl, rfl⟩
  · have kb : (c != 0) = true := by simp [k5]
    obtain ⟨z0, z1, z2, z3, z4, z5, z6, z7, z8, z9, z10, z11⟩ := twelve_cells HZ30.out
    have zf := fun i => (show w30.frozen? ⟨w.heap.size, i, none⟩ = false by simp [World.frozen?, HZ30.out])
    clear HK k5 HV
    go_wp2_with fail
    refine bodyPost_ret (v := .tuple #[.agg #[.int .i64 0, .int .i64 0, .int .i64 0, .int .i64 0, .int .i64 0, .int .i64 0, .int .i64 0, .int .i64 0, .int .i64 0, .int .i64 0, .int .i64 0, .string ⟨#[]⟩], .int .i64 10]) (by simp [results, Try.results21, go_sem, z0, z1, z2, z3, z4, z5, z6, z7, z8, z9, z10, z11]) rfl ?_
    exact ⟨rfl, fr12 HF30.out (Nat.le_refl _) _ _ _ _ _ _ _ _ _ _ _ _⟩
  · subst k5
    rw [k6] at HV
    clear HK k6
    obtain ⟨y0, y1, y2, y3, y4, y5, y6, y7, y8, y9, y10, y11⟩ := twelve_cells HY30.out
    simp only [frA] at HV
    go_wp2_with fail
    refine (HV.out _).mono ?_
    rintro e31 w31 ⟨rfl, f31⟩
    have HF31 := Lib.hid (HF30.out.noTrans f31)
    have HZ31 := Lib.hid (f31.blk HZ30.out (fun h => h))
    have HY31 := Lib.hid (f31.blk HY30.out (fun h => h))
    clear f31 y0 y1 y2 y3 y4 y5 y6 y7 y8 y9 y10 y11
    obtain ⟨z0, z1, z2, z3, z4, z5, z6, z7, z8, z9, z10, z11⟩ := twelve_cells HZ31.out
    obtain ⟨y0, y1, y2, y3, y4, y5, y6, y7, y8, y9, y10, y11⟩ := twelve_cells HY31.out
    have zf := fun i => (show w31.frozen? ⟨w.heap.size, i, none⟩ = false by simp [World.frozen?, HZ31.out])
    go_wp2_with fail
    refine bodyPost_ret (v := .tuple #[.agg #[.int .i64 0, .int .i64 0, .int .i64 0, .int .i64 0, .int .i64 0, .int .i64 0, .int .i64 0, .int .i64 0, .int .i64 0, .int .i64 0, .int .i64 0, .string ⟨#[]⟩], .int .i64 10]) (by simp [results, Try.results21, go_sem, z0, z1, z2, z3, z4, z5, z6, z7, z8, z9, z10, z11]) rfl ?_
    exact ⟨rfl, fr12 HF31.out (Nat.le_refl _) _ _ _ _ _ _ _ _ _ _ _ _⟩
  · subst k5
    rw [k6] at HV
    clear HK k6
    obtain ⟨y0, y1, y2, y3, y4, y5, y6, y7, y8, y9, y10, y11⟩ := twelve_cells HY30.out
    simp only [frA] at HV
    go_wp2_with fail
    refine (HV.out _).mono ?_
    rintro e31 w31 ⟨rfl, f31⟩
    have HF31 := Lib.hid (HF30.out.noTrans f31)
    have HZ31 := Lib.hid (f31.blk HZ30.out (fun h => h))
    have HY31 := Lib.hid (f31.blk HY30.out (fun h => h))
    clear f31 y0 y1 y2 y3 y4 y5 y6 y7 y8 y9 y10 y11
    obtain ⟨z0, z1, z2, z3, z4, z5, z6, z7, z8, z9, z10, z11⟩ := twelve_cells HZ31.out
    obtain ⟨y0, y1, y2, y3, y4, y5, y6, y7, y8, y9, y10, y11⟩ := twelve_cells HY31.out
    have zf := fun i => (show w31.frozen? ⟨w.heap.size, i, none⟩ = false by simp [World.frozen?, HZ31.out])
    go_wp2_with fail
    refine bodyPost_ret (v := .tuple #[.agg #[.int .i64 n0, .int .i64 n1, .int .i64 (-1), .int .i64 n4, .int .i64 n5, .int .i64 0, .int .i64 0, .int .i64 0, .int .i64 0, .int .i64 0, .int .i64 0, .string d6], .int .i64 0]) (by simp [results, Try.results21, go_sem, z0, z1, z2, z3, z4, z5, z6, z7, z8, z9, z10, z11]) rfl ?_
    exact ⟨rfl, fr12 HF31.out (Nat.le_refl _) _ _ _ _ _ _ _ _ _ _ _ _⟩
end Go.Proofs.Ytelpdihaonoedaa
namespace Go.Proofs.Ytelpdihaonoedaa
open Go.RowKit
set_option linter.unusedVariables false
set_option maxRecDepth 20000

theorem decR_long (s : ByteArray) (w : World) (hs : 127 < s.size) : Calls Try.prog 21 #[.string s] w fun e w' => e = .returned (.tuple #[.agg (frA zeroF), .int .i64 8]) ∧ Fr no w w' := by
  have HF := Lib.hid (Fr.refl no w)
  have h1 : (127 : Int) < (s.size : Int) := by omega
  clear hs
  have hz : frA zeroF = #[.int .i64 0, .int .i64 0, .int .i64 0, .int .i64 0, .int .i64 0, .int .i64 0, .int .i64 0, .int .i64 0, .int .i64 0, .int .i64 0, .int .i64 0, .string ⟨#[]⟩] := rfl
  rw [hz]
  clear hz
  go_enter Try.func21, Try.ntmps21
  go_wp2_with fail
  refine bodyPost_ret (v := .tuple #[.agg #[.int .i64 0, .int .i64 0, .int .i64 0, .int .i64 0, .int .i64 0, .int .i64 0, .int .i64 0, .int .i64 0, .int .i64 0, .int .i64 0, .int .i64 0, .string ⟨#[]⟩], .int .i64 8]) (by simp [results, Try.results21, go_sem]) rfl ⟨rfl, HF.out.alloc _⟩
theorem decR_sum (s : ByteArray) (w : World) (hs : s.size ≤ 127) (hc : chkE s ≠ 0) : Calls Try.prog 21 #[.string s] w fun e w' => e = .returned (.tuple #[.agg zA, .int .i64 (chkE s)]) ∧ Fr no w w' := by
  have HC := Lib.hid (fun w => checkR_any s w (by omega))
  have h1 : ¬ (127 : Int) < (s.size : Int) := by omega
  have h2 : (chkE s != 0) = true := by simp [hc]
  clear hs hc
  generalize chkE s = E at *
  obtain ⟨W, hW⟩ : ∃ W, W = w.alloc (.cells zA 23 (0, 0)) := ⟨_, rfl⟩
  have hB : W.heap[w.heap.size]? = some (.cells zA 23 (0, 0)) := by rw [hW]; exact heap_alloc_new w _
  have HW := Lib.hid hW
  have HFW := Lib.hid (show Fr no w W by rw [hW]; exact (Fr.refl no w).alloc _)
  have HB := Lib.hid hB
  clear hW hB
  simp only [zA] at HW ⊢
  go_enter Try.func21, Try.ntmps21
  go_wp2_with fail
  rw [← HW.out]
  go_wp2_with fail
  refine (HC.out _).mono ?_
  rintro e1 w1 ⟨rfl, f1⟩
  have HF1 := Lib.hid (HFW.out.noTrans f1)
  have HZ := f1.blk HB.out (fun h => h)
  obtain ⟨z0, z1, z2, z3, z4, z5, z6, z7, z8, z9, z10, z11⟩ := twelve_cells HZ
  have zf := fun i => (show w1.frozen? ⟨w.heap.size, i, none⟩ = false by simp [World.frozen?, HZ])
  clear f1 HZ
  go_wp2_with fail
  refine bodyPost_ret (v := .tuple #[.agg #[.int .i64 0, .int .i64 0, .int .i64 0, .int .i64 0, .int .i64 0, .int .i64 0, .int .i64 0, .int .i64 0, .int .i64 0, .int .i64 0, .int .i64 0, .string ⟨#[]⟩], .int .i64 E]) (by simp [results, Try.results21, go_sem, z0, z1, z2, z3, z4, z5, z6, z7, z8, z9, z10, z11]) rfl ?_
  exact ⟨rfl, fr12 HF1.out (Nat.le_refl _) _ _ _ _ _ _ _ _ _ _ _ _⟩
theorem ends {st : RSt} {x : Frm} {V : Frm} {E : Int} (hV : V = if rClose st = 0 then (if okF x then x else zeroF) else zeroF) (hE : E = if rClose st = 0 then (if okF x then 0 else 10) else 10) :
    (rClose st ≠ 0 ∧ V = zeroF ∧ E = 10) ∨ (rClose st = 0 ∧ okF x = false ∧ V = zeroF ∧ E = 10) ∨ (rClose st = 0 ∧ okF x = true ∧ V = x ∧ E = 0) := by
  by_cases h1 : rClose st = 0
  · cases h2 : okF x
    · exact .inr (.inl ⟨h1, rfl, by rw [hV, if_pos h1, h2]; rfl, by rw [hE, if_pos h1, h2]; rfl⟩)
    · exact .inr (.inr ⟨h1, rfl, by rw [hV, if_pos h1, h2]; rfl, by rw [hE, if_pos h1, h2]; rfl⟩)
  · exact .inl ⟨h1, by rw [hV, if_neg h1], by rw [hE, if_neg h1]⟩
/-- A kind that is none: whatever is read. -/
theorem ends_other {st st' : RSt} {x y : Frm} {V : Frm} {E : Int} (hx : okF x = false) (hy : okF y = false) (hV : V = if rClose st = 0 then (if okF x then x else zeroF) else zeroF) (hE : E = if rClose st = 0 then (if okF x then 0 else 10) else 10) :
    (rClose st' ≠ 0 ∧ V = zeroF ∧ E = 10) ∨ (rClose st' = 0 ∧ okF y = false ∧ V = zeroF ∧ E = 10) ∨ (rClose st' = 0 ∧ okF y = true ∧ V = y ∧ E = 0) := by
  have hV2 : V = zeroF := by rw [hV, hx]; split <;> rfl
  have hE2 : E = 10 := by rw [hE, hx]; split <;> rfl
  by_cases h1 : rClose st' = 0
  · exact .inr (.inl ⟨h1, hy, hV2, hE2⟩)
  · exact .inl ⟨h1, hV2, hE2⟩
theorem ok_kind {x : Frm} (h : ¬ (1 ≤ x.k ∧ x.k ≤ 4)) : okF x = false := by
  rw [Bool.eq_false_iff]
  intro hh
  exact h (okF_parts hh).1
theorem decR_rest (s : ByteArray) (w : World) (hs : s.size ≤ 127) (hc : chkE s = 0) : Calls Try.prog 21 #[.string s] w fun e w' => e = .returned (.tuple #[.agg (frA (deV s)), .int .i64 (deE s)]) ∧ Fr no w w' := by
  have hv : deV s = if rClose (deA s).2 = 0 then (if okF (deA s).1 then (deA s).1 else zeroF) else zeroF := by unfold deV; rw [if_pos hs, if_pos hc]
  have he : deE s = if rClose (deA s).2 = 0 then (if okF (deA s).1 then 0 else 10) else 10 := by unfold deE; rw [if_pos hs, if_pos hc]
  have hA : deA s = allF (macR 0 0 0) (zeroF, rNew (chkV s)) := rfl
  generalize deV s = V at *
  generalize deE s = E at *
  obtain ⟨st0, hst⟩ : ∃ t, rNew (chkV s) = t := ⟨_, rfl⟩
  rw [hst] at hA
  rw [hA] at hv he
  clear hA
  obtain ⟨n0, t0, h0⟩ : ∃ n t, rUnsigned 3 st0 = (n, t) := ⟨_, _, rfl⟩
  obtain ⟨n1, t1, h1⟩ : ∃ n t, rUnsigned 5 t0 = (n, t) := ⟨_, _, rfl⟩
  obtain ⟨g, t2, h2⟩ : ∃ n t, rFlag t1 = (n, t) := ⟨_, _, rfl⟩
  cases g
  · obtain ⟨n4, t3, h3⟩ : ∃ n t, rUnsigned 8 t2 = (n, t) := ⟨_, _, rfl⟩
    obtain ⟨n5, t4, h4⟩ : ∃ n t, rUnsigned 8 t3 = (n, t) := ⟨_, _, rfl⟩
    by_cases k1 : n0 = 1
    · subst k1
      obtain ⟨n6, t5, h5⟩ : ∃ n t, rUnsigned 8 t4 = (n, t) := ⟨_, _, rfl⟩
      obtain ⟨n7, t6, h6⟩ : ∃ n t, rUnsigned 16 t5 = (n, t) := ⟨_, _, rfl⟩
      obtain ⟨d8, t7, h7⟩ : ∃ n t, rText 127 t6 = (n, t) := ⟨_, _, rfl⟩
      rw [dA1f h0 h1 h2 h3 h4 h5 h6 h7 rfl] at hv he
      exact dc1f s w hs hc hst h0 h1 h2 h3 h4 h5 h6 h7 V E (ends hv he)
    by_cases k2 : n0 = 2
    · subst k2
      obtain ⟨n6, t5, h5⟩ : ∃ n t, rSigned 16 t4 = (n, t) := ⟨_, _, rfl⟩
      rw [dA2f h0 h1 h2 h3 h4 h5 rfl] at hv he
      exact dc2f s w hs hc hst h0 h1 h2 h3 h4 h5 V E (ends hv he)
    by_cases k3 : n0 = 3
    · subst k3
      obtain ⟨n6, t5, h5⟩ : ∃ n t, rUnsigned 27 t4 = (n, t) := ⟨_, _, rfl⟩
      obtain ⟨n7, t6, h6⟩ : ∃ n t, rUnsigned 16 t5 = (n, t) := ⟨_, _, rfl⟩
      obtain ⟨n8, t7, h7⟩ : ∃ n t, rUnsigned 16 t6 = (n, t) := ⟨_, _, rfl⟩
      obtain ⟨d9, t8, h8⟩ : ∃ n t, rText 127 t7 = (n, t) := ⟨_, _, rfl⟩
      rw [dA3f h0 h1 h2 h3 h4 h5 h6 h7 h8 rfl] at hv he
      exact dc3f s w hs hc hst h0 h1 h2 h3 h4 h5 h6 h7 h8 V E (ends hv he)
    by_cases k4 : n0 = 4
    · subst k4
      obtain ⟨d6, t5, h5⟩ : ∃ n t, rText 127 t4 = (n, t) := ⟨_, _, rfl⟩
      rw [dA4f h0 h1 h2 h3 h4 h5 rfl] at hv he
      exact dc4f s w hs hc hst h0 h1 h2 h3 h4 h5 (by decide) (by decide) (by decide) (by decide) V E (ends hv he)
    obtain ⟨d6, t5, h5⟩ : ∃ n t, rText 127 t4 = (n, t) := ⟨_, _, rfl⟩
    have hp : allF (macR 0 0 0) (zeroF, st0) = (⟨n0, n1, -1, n4, n5, 0, 0, 0, 0, 0, 0, ⟨#[]⟩⟩, t4) := by
      have hh : hdF (macR 0 0 0) (zeroF, st0) = (⟨n0, n1, -1, n4, n5, 0, 0, 0, 0, 0, 0, ⟨#[]⟩⟩, t4) := by
        unfold hdF
        rw [intR 0 h0, intR 1 h1, tgtR0 h2, intR 3 h3, intR 4 h4]
        rfl
      unfold allF
      rw [hh]
      simp [kndF, k1, k2, k3, k4]
    rw [hp] at hv he
    have hn0 : 0 ≤ n0 := by have := rU_nonneg 3 st0; rw [h0] at this; exact this
    have hk : ¬ (1 ≤ n0 ∧ n0 ≤ 4) := by omega
    exact dc4f s w hs hc hst h0 h1 h2 h3 h4 h5 (by simpa using k1) (by simpa using k2) (by simpa using k3) (by simpa using k2) V E (ends_other (ok_kind hk) (ok_kind hk) hv he)
  · obtain ⟨n3, t3, h3⟩ : ∃ n t, rUnsigned 5 t2 = (n, t) := ⟨_, _, rfl⟩
    obtain ⟨n4, t4, h4⟩ : ∃ n t, rUnsigned 8 t3 = (n, t) := ⟨_, _, rfl⟩
    obtain ⟨n5, t5, h5⟩ : ∃ n t, rUnsigned 8 t4 = (n, t) := ⟨_, _, rfl⟩
    by_cases k1 : n0 = 1
    · subst k1
      obtain ⟨n6, t6, h6⟩ : ∃ n t, rUnsigned 8 t5 = (n, t) := ⟨_, _, rfl⟩
      obtain ⟨n7, t7, h7⟩ : ∃ n t, rUnsigned 16 t6 = (n, t) := ⟨_, _, rfl⟩
      obtain ⟨d8, t8, h8⟩ : ∃ n t, rText 127 t7 = (n, t) := ⟨_, _, rfl⟩
      rw [dA1t h0 h1 h2 h3 h4 h5 h6 h7 h8 rfl] at hv he
      exact dc1t s w hs hc hst h0 h1 h2 h3 h4 h5 h6 h7 h8 V E (ends hv he)
    by_cases k2 : n0 = 2
    · subst k2
      obtain ⟨n6, t6, h6⟩ : ∃ n t, rSigned 16 t5 = (n, t) := ⟨_, _, rfl⟩
      rw [dA2t h0 h1 h2 h3 h4 h5 h6 rfl] at hv he
      exact dc2t s w hs hc hst h0 h1 h2 h3 h4 h5 h6 V E (ends hv he)
    by_cases k3 : n0 = 3
    · subst k3
      obtain ⟨n6, t6, h6⟩ : ∃ n t, rUnsigned 27 t5 = (n, t) := ⟨_, _, rfl⟩
      obtain ⟨n7, t7, h7⟩ : ∃ n t, rUnsigned 16 t6 = (n, t) := ⟨_, _, rfl⟩
      obtain ⟨n8, t8, h8⟩ : ∃ n t, rUnsigned 16 t7 = (n, t) := ⟨_, _, rfl⟩
      obtain ⟨d9, t9, h9⟩ : ∃ n t, rText 127 t8 = (n, t) := ⟨_, _, rfl⟩
      rw [dA3t h0 h1 h2 h3 h4 h5 h6 h7 h8 h9 rfl] at hv he
      exact dc3t s w hs hc hst h0 h1 h2 h3 h4 h5 h6 h7 h8 h9 V E (ends hv he)
    by_cases k4 : n0 = 4
    · subst k4
      obtain ⟨d6, t6, h6⟩ : ∃ n t, rText 127 t5 = (n, t) := ⟨_, _, rfl⟩
      rw [dA4t h0 h1 h2 h3 h4 h5 h6 rfl] at hv he
      exact dc4t s w hs hc hst h0 h1 h2 h3 h4 h5 h6 (by decide) (by decide) (by decide) (by decide) V E (ends hv he)
    obtain ⟨d6, t6, h6⟩ : ∃ n t, rText 127 t5 = (n, t) := ⟨_, _, rfl⟩
    have hp : allF (macR 0 0 0) (zeroF, st0) = (⟨n0, n1, n3, n4, n5, 0, 0, 0, 0, 0, 0, ⟨#[]⟩⟩, t5) := by
      have hh : hdF (macR 0 0 0) (zeroF, st0) = (⟨n0, n1, n3, n4, n5, 0, 0, 0, 0, 0, 0, ⟨#[]⟩⟩, t5) := by
        unfold hdF
        rw [intR 0 h0, intR 1 h1, tgtR1 h2 h3, intR 3 h4, intR 4 h5]
        rfl
      unfold allF
      rw [hh]
      simp [kndF, k1, k2, k3, k4]
    rw [hp] at hv he
    have hn0 : 0 ≤ n0 := by have := rU_nonneg 3 st0; rw [h0] at this; exact this
    have hk : ¬ (1 ≤ n0 ∧ n0 ≤ 4) := by omega
    exact dc4t s w hs hc hst h0 h1 h2 h3 h4 h5 h6 (by simpa using k1) (by simpa using k2) (by simpa using k3) (by simpa using k2) V E (ends_other (ok_kind hk) (ok_kind hk) hv he)
theorem decodeR_any (s : ByteArray) (w : World) : Calls Try.prog 21 #[.string s] w fun e w' => e = .returned (.tuple #[.agg (frA (deV s)), .int .i64 (deE s)]) ∧ Fr no w w' := by
  by_cases hs : s.size ≤ 127
  · by_cases hc : chkE s = 0
    · exact decR_rest s w hs hc
    · have hv : deV s = zeroF := by unfold deV; rw [if_pos hs, if_neg hc]
      have he : deE s = chkE s := by unfold deE; rw [if_pos hs, if_neg hc]
      rw [hv, he]
      exact decR_sum s w hs hc
  · have hv : deV s = zeroF := by unfold deV; rw [if_neg hs]
    have he : deE s = 8 := by unfold deE; rw [if_neg hs]
    rw [hv, he]
    exact decR_long s w (by omega)
end Go.Proofs.Ytelpdihaonoedaa
