/- Sides of a line. -/
import Derived.Test.YtdenlinehjigaaaShp
namespace Go.Proofs.Ytdenlinehjigaaa
open Go.RowKit

set_option maxHeartbeats 4000000 in
theorem sides_any (ax ay bx by_ px py qx qy : Int) (w : World) (h1 : nr ax) (h2 : nr ay) (h3 : nr bx) (h4 : nr by_) (h5 : nr px) (h6 : nr py) (h7 : nr qx) (h8 : nr qy) :
    Calls Try.prog 124 #[.agg #[.int .i64 ax, .int .i64 ay], .agg #[.int .i64 bx, .int .i64 by_], .agg #[.int .i64 px, .int .i64 py], .agg #[.int .i64 qx, .int .i64 qy]] w fun e w' => e = .returned (.agg #[.int .i64 (tn ax ay bx by_ px py), .int .i64 (tn ax ay bx by_ qx qy)]) ∧ Fr no w w' := by
  have K1 := Lib.hid (fun w => turn_any ax ay bx by_ px py w h1 h2 h3 h4 h5 h6)
  have K2 := Lib.hid (fun w => turn_any ax ay bx by_ qx qy w h1 h2 h3 h4 h7 h8)
  clear h1 h2 h3 h4 h5 h6 h7 h8
  have KS := Lib.hid (show ∀ w0 w' : World, Fr no w0 w' → w0.cell? ⟨w.heap.size, 0, none⟩ = some (.int .i64 ax) → w0.cell? ⟨w.heap.size, 1, none⟩ = some (.int .i64 ay) → w0.cell? ⟨w.heap.size + 1, 0, none⟩ = some (.int .i64 bx) → w0.cell? ⟨w.heap.size + 1, 1, none⟩ = some (.int .i64 by_) → w0.cell? ⟨w.heap.size + 1 + 1, 0, none⟩ = some (.int .i64 px) → w0.cell? ⟨w.heap.size + 1 + 1, 1, none⟩ = some (.int .i64 py) → w0.cell? ⟨w.heap.size + 1 + 1 + 1, 0, none⟩ = some (.int .i64 qx) → w0.cell? ⟨w.heap.size + 1 + 1 + 1, 1, none⟩ = some (.int .i64 qy) → w0.cell? ⟨w.heap.size + 1 + 1 + 1 + 1, 0, none⟩ = some (.int .i64 0) → w0.frozen? ⟨w.heap.size + 1 + 1 + 1 + 1, 0, none⟩ = false → w0.cell? ⟨w.heap.size + 1 + 1 + 1 + 1, 1, none⟩ = some (.int .i64 0) → w0.frozen? ⟨w.heap.size + 1 + 1 + 1 + 1, 1, none⟩ = false → (w'.cell? ⟨w.heap.size, 0, none⟩ = some (.int .i64 ax) ∧ w'.cell? ⟨w.heap.size, 1, none⟩ = some (.int .i64 ay) ∧ w'.cell? ⟨w.heap.size + 1, 0, none⟩ = some (.int .i64 bx) ∧ w'.cell? ⟨w.heap.size + 1, 1, none⟩ = some (.int .i64 by_) ∧ w'.cell? ⟨w.heap.size + 1 + 1, 0, none⟩ = some (.int .i64 px) ∧ w'.cell? ⟨w.heap.size + 1 + 1, 1, none⟩ = some (.int .i64 py) ∧ w'.cell? ⟨w.heap.size + 1 + 1 + 1, 0, none⟩ = some (.int .i64 qx) ∧ w'.cell? ⟨w.heap.size + 1 + 1 + 1, 1, none⟩ = some (.int .i64 qy) ∧ w'.cell? ⟨w.heap.size + 1 + 1 + 1 + 1, 0, none⟩ = some (.int .i64 0) ∧ w'.frozen? ⟨w.heap.size + 1 + 1 + 1 + 1, 0, none⟩ = false ∧ w'.cell? ⟨w.heap.size + 1 + 1 + 1 + 1, 1, none⟩ = some (.int .i64 0) ∧ w'.frozen? ⟨w.heap.size + 1 + 1 + 1 + 1, 1, none⟩ = false) from fun _ _ h a0 a1 a2 a3 a4 a5 a6 a7 a8 a9 a10 a11 => ⟨h.keepc a0, h.keepc a1, h.keepc a2, h.keepc a3, h.keepc a4, h.keepc a5, h.keepc a6, h.keepc a7, h.keepc a8, h.keepf a8 a9, h.keepc a10, h.keepf a10 a11⟩)
  obtain ⟨W, hW⟩ : ∃ W, W = (((((w.alloc (.cells #[.int .i64 ax, .int .i64 ay] 42 (0, 0))).alloc (.cells #[.int .i64 bx, .int .i64 by_] 42 (0, 0))).alloc (.cells #[.int .i64 px, .int .i64 py] 42 (0, 0))).alloc (.cells #[.int .i64 qx, .int .i64 qy] 42 (0, 0))).alloc (.cells #[.int .i64 0, .int .i64 0] 148 (0, 0))) := ⟨_, rfl⟩
  have HF := Lib.hid (show Fr no w W by rw [hW]; exact (((((Fr.refl no w).alloc _).alloc _).alloc _).alloc _).alloc _)
  have c0 : W.cell? ⟨w.heap.size, 0, none⟩ = some (.int .i64 ax) := by rw [hW]; go_simp
  have c1 : W.cell? ⟨w.heap.size, 1, none⟩ = some (.int .i64 ay) := by rw [hW]; go_simp
  have c2 : W.cell? ⟨w.heap.size + 1, 0, none⟩ = some (.int .i64 bx) := by rw [hW]; go_simp
  have c3 : W.cell? ⟨w.heap.size + 1, 1, none⟩ = some (.int .i64 by_) := by rw [hW]; go_simp
  have c4 : W.cell? ⟨w.heap.size + 1 + 1, 0, none⟩ = some (.int .i64 px) := by rw [hW]; go_simp
  have c5 : W.cell? ⟨w.heap.size + 1 + 1, 1, none⟩ = some (.int .i64 py) := by rw [hW]; go_simp
  have c6 : W.cell? ⟨w.heap.size + 1 + 1 + 1, 0, none⟩ = some (.int .i64 qx) := by rw [hW]; go_simp
  have c7 : W.cell? ⟨w.heap.size + 1 + 1 + 1, 1, none⟩ = some (.int .i64 qy) := by rw [hW]; go_simp
  have c8 : W.cell? ⟨w.heap.size + 1 + 1 + 1 + 1, 0, none⟩ = some (.int .i64 0) := by rw [hW]; go_simp
  have c9 : W.frozen? ⟨w.heap.size + 1 + 1 + 1 + 1, 0, none⟩ = false := by rw [hW]; go_simp
  have c10 : W.cell? ⟨w.heap.size + 1 + 1 + 1 + 1, 1, none⟩ = some (.int .i64 0) := by rw [hW]; go_simp
  have c11 : W.frozen? ⟨w.heap.size + 1 + 1 + 1 + 1, 1, none⟩ = false := by rw [hW]; go_simp
  have HW := Lib.hid hW
  clear hW
  go_enter Try.func124, Try.ntmps124
  go_wp2_with fail
  rw [← HW.out]
  have tokf3 : True := trivial
  have tokf4 : True := trivial
  have _ne1 : w.heap.size + 1 ≠ w.heap.size := by omega
  have _en1 : w.heap.size ≠ w.heap.size + 1 := by omega
  have _ne2 : w.heap.size + 1 + 1 ≠ w.heap.size := by omega
  have _en2 : w.heap.size ≠ w.heap.size + 1 + 1 := by omega
  have _ne3 : w.heap.size + 1 + 1 + 1 ≠ w.heap.size := by omega
  have _en3 : w.heap.size ≠ w.heap.size + 1 + 1 + 1 := by omega
  have _ne4 : w.heap.size + 1 + 1 + 1 + 1 ≠ w.heap.size := by omega
  have _en4 : w.heap.size ≠ w.heap.size + 1 + 1 + 1 + 1 := by omega
  go_region_held3 (fun w' => w'.cell? ⟨w.heap.size, 0, none⟩ = some (.int .i64 ax) ∧ w'.cell? ⟨w.heap.size, 1, none⟩ = some (.int .i64 ay) ∧ w'.cell? ⟨w.heap.size + 1, 0, none⟩ = some (.int .i64 bx) ∧ w'.cell? ⟨w.heap.size + 1, 1, none⟩ = some (.int .i64 by_) ∧ w'.cell? ⟨w.heap.size + 1 + 1, 0, none⟩ = some (.int .i64 px) ∧ w'.cell? ⟨w.heap.size + 1 + 1, 1, none⟩ = some (.int .i64 py) ∧ w'.cell? ⟨w.heap.size + 1 + 1 + 1, 0, none⟩ = some (.int .i64 qx) ∧ w'.cell? ⟨w.heap.size + 1 + 1 + 1, 1, none⟩ = some (.int .i64 qy)) (go_keep)
    (first
      | (go_at_call 152; have _tk := tokf3; refine (K1.out _).mono ?_; rintro e w3 ⟨rfl, f3⟩; clear _tk tokf3; obtain ⟨kf30, kf31, kf32, kf33, kf34, kf35, kf36, kf37, kf38, kf39, kf310, kf311⟩ := KS.out _ _ f3 c0 c1 c2 c3 c4 c5 c6 c7 c8 c9 c10 c11)
      | (go_at_call 152; have _tk := tokf4; refine (K2.out _).mono ?_; rintro e w4 ⟨rfl, f4⟩; clear _tk tokf4; obtain ⟨kf40, kf41, kf42, kf43, kf44, kf45, kf46, kf47, kf48, kf49, kf410, kf411⟩ := KS.out _ _ f4 kf30 kf31 kf32 kf33 kf34 kf35 kf36 kf37 kf38 kf39 kf310 kf311))
  have HF4 := Lib.hid (((HF.out.drew.noTrans f3).noTrans f4))
  go_wp2_with fail
  refine bodyPost_ret (v := .agg #[.int .i64 (tn ax ay bx by_ px py), .int .i64 (tn ax ay bx by_ qx qy)]) ?_ rfl ⟨rfl, (HF4.out.setCell (.inr (by simp; omega)) _).setCell (.inr (by simp; omega)) _⟩
  clear HF4 HF HW KS K1 K2
  simp [results, Try.results124, go_sem, kf48, kf410]
end Go.Proofs.Ytdenlinehjigaaa
