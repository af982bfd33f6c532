/- The law begins with the chapter examples. -/
import Derived.Test.YtpaoacdgmfaolaaWit
import Derived.Test.YtpaoacdgmfaolaaMet
import Derived.Test.YtpaoacdgmfaolaaNwr
namespace Go.Proofs.Ytpaoacdgmfaolaa
set_option linter.unusedVariables false
open Go.RowKit


theorem ex1 : chV 0 0 100 [11, 12, 15] 4 1 = 15 ∧ useL 0 0 100 [11, 12, 15] 4 [1] = 0 ∧ chV 0 0 100 [11, 12, 15] 5 1 = 11 ∧ useL 0 0 100 [11, 12, 15] 5 [1] = 0 := by decide +kernel
theorem ex2 : chB [11, 12, 15, 3] = true ∧ bkB [12, 15] = true ∧ inR 3 1 4 = true ∧ wiL [11, 12, 15, 3] [12, 15] 3 = [11, 12, 3] := by decide +kernel
theorem ex3 : nwB 3 250 = true ∧ nwB 250 3 = false ∧ eqZ [11, 12, 3] [11, 12, 3] = true := by decide +kernel
set_option maxHeartbeats 4000000 in
theorem awake_any (w : World) : Calls Try.prog 11 #[] w fun e w' => e = .returned (.bool true) ∧ Fr no w w' := by
  obtain ⟨W, hW⟩ : ∃ W, W = (w.alloc (.cells #[.int .i64 11, .int .i64 12, .int .i64 15] 3 (0, 0))).alloc (.cells #[.int .i64 0, .int .i64 0, .int .i64 100, .slice (some ⟨w.heap.size, 0, none⟩) 3 3] 24 (0, 0)) := ⟨_, rfl⟩
  have hF : Fr no w W := by rw [hW]; exact ((Fr.refl no w).alloc _).alloc _
  have h1 : W.heap[w.heap.size + 1]? = some (.cells #[.int .i64 0, .int .i64 0, .int .i64 100, .slice (some ⟨w.heap.size, 0, none⟩) 3 3] 24 (0, 0)) := by rw [hW]; simpa using heap_alloc_new (w.alloc (.cells #[.int .i64 11, .int .i64 12, .int .i64 15] 3 (0, 0))) (.cells #[.int .i64 0, .int .i64 0, .int .i64 100, .slice (some ⟨w.heap.size, 0, none⟩) 3 3] 24 (0, 0))
  have hz : IntsIn W (some ⟨w.heap.size, 0, none⟩) 3 [11, 12, 15] := by rw [hW]; exact (ints_new w [11, 12, 15] 3).kept ((Fr.refl no _).alloc _)
  have HF := Lib.hid hF
  have HW := Lib.hid hW
  have H1 := Lib.hid h1
  have HZ := Lib.hid hz
  have K1 := Lib.hid (fun x hx => show Calls Try.prog 12 #[.agg #[.int .i64 0, .int .i64 0, .int .i64 100, .slice (some ⟨w.heap.size, 0, none⟩) 3 3], .int .i64 4, .int .i64 1] x (fun e w' => e = .returned (.tuple #[.int .i64 15, .int .i64 0]) ∧ Fr no x w') by
    have := channel_any 0 0 100 (some ⟨w.heap.size, 0, none⟩) 3 [11, 12, 15] 4 1 x hx (by decide)
    rw [ex1.1, ex1.2.1] at this; exact this)
  have K2 := Lib.hid (fun x hx => show Calls Try.prog 12 #[.agg #[.int .i64 0, .int .i64 0, .int .i64 100, .slice (some ⟨w.heap.size, 0, none⟩) 3 3], .int .i64 5, .int .i64 1] x (fun e w' => e = .returned (.tuple #[.int .i64 11, .int .i64 0]) ∧ Fr no x w') by
    have := channel_any 0 0 100 (some ⟨w.heap.size, 0, none⟩) 3 [11, 12, 15] 5 1 x hx (by decide)
    rw [ex1.2.2.1, ex1.2.2.2] at this; exact this)
  clear hF h1 hW hz
  go_enter Try.func11, Try.ntmps11
  go_wp2_with fail
  rw [← HW.out]
  refine (K1.out _ HZ.out).mono ?_
  rintro e w1 ⟨rfl, f1⟩
  obtain ⟨c0, c1, c2, c3⟩ := four_cells (f1.blk H1.out (fun h => h))
  have HF1 := Lib.hid f1
  clear f1
  go_wp2_with fail
  refine (K2.out _ (HZ.out.kept HF1.out)).mono ?_
  rintro e w2 ⟨rfl, f2⟩
  have HF2 := Lib.hid (HF.out.noTrans (HF1.out.noTrans f2))
  clear f2 c0 c1 c2 c3
  go_wp2_with fail
  have hx : IntsIn ((w2.alloc (.cells #[.int .i64 11, .int .i64 12, .int .i64 15, .int .i64 3] 3 (0, 0))).alloc (.cells #[.int .i64 12, .int .i64 15] 3 (0, 0))) (some ⟨w2.heap.size, 0, none⟩) 4 [11, 12, 15, 3] := (ints_new w2 [11, 12, 15, 3] 3).kept ((Fr.refl no _).alloc _)
  have hy : IntsIn ((w2.alloc (.cells #[.int .i64 11, .int .i64 12, .int .i64 15, .int .i64 3] 3 (0, 0))).alloc (.cells #[.int .i64 12, .int .i64 15] 3 (0, 0))) (some ⟨w2.heap.size + 1, 0, none⟩) 2 [12, 15] := by
    rw [show w2.heap.size + 1 = (w2.alloc (.cells #[.int .i64 11, .int .i64 12, .int .i64 15, .int .i64 3] 3 (0, 0))).heap.size by simp]
    exact ints_new _ [12, 15] 3
  have K3 := witho_3 (some ⟨w2.heap.size, 0, none⟩) 4 4 [11, 12, 15, 3] (some ⟨w2.heap.size + 1, 0, none⟩) 2 2 [12, 15] 3 _ hx hy ex2.1 ex2.2.1 ex2.2.2.1
  rw [ex2.2.2.2] at K3
  have HF3 := Lib.hid ((HF2.out.alloc (.cells #[.int .i64 11, .int .i64 12, .int .i64 15, .int .i64 3] 3 (0, 0))).alloc (.cells #[.int .i64 12, .int .i64 15] 3 (0, 0)))
  clear hx hy
  refine K3.mono ?_
  clear K3
  rintro e w3 ⟨v, rfl, hown, f3⟩
  obtain ⟨va, vc, rfl, -, hv⟩ := rowI_ints hown
  have HF4 := Lib.hid (HF3.out.noTrans f3)
  have HV := Lib.hid hv
  clear f3 hown hv HF3
  have KN1 := newer_any 3 250
  have KN2 := newer_any 250 3
  rw [ex3.1] at KN1
  rw [ex3.2.1] at KN2
  go_wp2_with fail
  have hu : IntsIn (w3.alloc (.cells #[.int .i64 11, .int .i64 12, .int .i64 3] 3 (0, 0))) (some ⟨w3.heap.size, 0, none⟩) 3 [11, 12, 3] := ints_new w3 [11, 12, 3] 3
  have KE := equal_any va 3 vc [11, 12, 3] (some ⟨w3.heap.size, 0, none⟩) 3 3 [11, 12, 3] _ (HV.out.kept ((Fr.refl no w3).alloc _)) hu (by decide)
  rw [ex3.2.2] at KE
  clear hu
  refine KE.mono ?_
  clear KE
  rintro e w4 ⟨rfl, f4⟩
  have HF5 := Lib.hid ((HF4.out.alloc _).noTrans f4)
  clear f4
  go_wp2_with fail
  refine (KN1 _).mono ?_
  rintro e w5 ⟨rfl, rfl⟩
  clear KN1
  go_wp2_with fail
  refine (KN2 _).mono ?_
  rintro e w6 ⟨rfl, rfl⟩
  clear KN2
  go_wp2_with fail
  go_ret
  exact ⟨rfl, HF5.out⟩

end Go.Proofs.Ytpaoacdgmfaolaa
