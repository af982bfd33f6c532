/- Channels that meet. -/
import Derived.Test.YtpaoacdgmfaolaaCha
namespace Go.Proofs.Ytpaoacdgmfaolaa
set_option linter.unusedVariables false
open Go.RowKit

set_option maxHeartbeats 8000000 in
theorem meet_any (v f u : Int) (ca : Option Addr) (ck : Nat) (zs : List Int) (s a b : Int) (w : World) (hz : IntsIn w ca zs.length zs) (hl : zs.length ≤ 100) :
    Calls Try.prog 14 #[.agg #[.int .i64 v, .int .i64 f, .int .i64 u, .slice ca zs.length ck], .int .i64 s, .int .i64 a, .int .i64 b] w fun e w' => e = .returned (.tuple #[.bool (meV v f u zs s a b), .int .i64 (useL v f u zs s [a, b])]) ∧ Fr no w w' := by
  obtain ⟨W, hW⟩ : ∃ W, W = w.alloc (.cells #[.int .i64 v, .int .i64 f, .int .i64 u, .slice ca zs.length ck] 24 (0, 0)) := ⟨_, rfl⟩
  have hF : Fr no w W := by rw [hW]; exact (Fr.refl no w).alloc _
  have h1 : W.heap[w.heap.size]? = some (.cells #[.int .i64 v, .int .i64 f, .int .i64 u, .slice ca zs.length ck] 24 (0, 0)) := by rw [hW]; exact heap_alloc_new w _
  obtain ⟨c0, c1, c2, c3⟩ := four_cells h1
  have HF := Lib.hid hF
  have HW := Lib.hid hW
  have H1 := Lib.hid h1
  have HZ := Lib.hid (hz.kept hF)
  have HL := Lib.hid hl
  have HWS := Lib.hid (show W.heap.size = w.heap.size + 1 by rw [hW]; simp)
  have HC := Lib.hid (show meV v f u zs s a b = (decide (useL v f u zs s [a, b] = 0) && decide (cha zs s a = cha zs s b)) from rfl)
  have HU := Lib.hid (show ∀ x, IntsIn x ca zs.length zs → IntsIn x (some ⟨w.heap.size + 1, 0, none⟩) 2 [a, b] → Calls Try.prog 35 #[.agg #[.int .i64 v, .int .i64 f, .int .i64 u, .slice ca zs.length ck], .int .i64 s, .slice (some ⟨w.heap.size + 1, 0, none⟩) 2 2] x (fun e w' => e = .returned (.int .i64 (useL v f u zs s [a, b])) ∧ Fr no x w') from fun x hz ho => checkUse_any v f u ca ck zs s (w.heap.size + 1) 2 [a, b] x hz hl ho (by simp))
  have HUF := Lib.hid (fun h : useL v f u zs s [a, b] = 0 => use_facts h)
  generalize useL v f u zs s [a, b] = E at *
  have HCO := Lib.hid (fun o w hz h1 h2 s0 s1 o0 o1 => channelOf_any v f u ca ck zs s o w hz h1 h2 s0 s1 o0 o1)
  obtain ⟨ln, hln⟩ : ∃ ln, ln = zs.length := ⟨_, rfl⟩
  simp only [← hln] at HU HCO HUF ⊢
  rw [← hln] at H1 HW c3
  have HLN := Lib.hid hln
  clear hz hF h1 hW hl hln
  by_cases hE : E = 0
  · subst hE
    obtain ⟨l1, l2, s0, s1, ho⟩ := HUF.out rfl
    have hoa := ho a (by simp)
    have hob := ho b (by simp)
    have HC := Lib.hid (show meV v f u zs s a b = decide (cha zs s a = cha zs s b) from HC.out)
    have HCA := Lib.hid (fun w hz => HCO.out a w hz l1 l2 s0 s1 hoa.1 hoa.2)
    have HCB := Lib.hid (fun w hz => HCO.out b w hz l1 l2 s0 s1 hob.1 hob.2)
    generalize cha zs s a = x at *
    generalize cha zs s b = y at *
    clear l1 l2 s0 s1 ho hoa hob HUF HCO
    go_enter Try.func14, Try.ntmps14
    go_wp2_with fail
    rw [← HW.out]
    go_wp2_with fail
    refine (HU.out _ (by rw [HLN.out]; exact HZ.out.kept ((Fr.refl no W).alloc _)) ?ho).mono ?_
    case ho => exact (by rw [← HWS.out]; exact ints_new W [a, b] _)
    rintro e w2 ⟨rfl, f2⟩
    have HF2 := Lib.hid (((Fr.refl no W).alloc _).noTrans f2)
    obtain ⟨d0, d1, d2, d3⟩ := four_cells (HF2.out.blk H1.out (fun h => h))
    clear f2
    go_wp2_with fail
    have p0 : ∀ p : Past w2, p.u.cell? ⟨w.heap.size, 0, none⟩ = some (.int .i64 v) := fun p => p.h.keepc d0
    have p1 : ∀ p : Past w2, p.u.cell? ⟨w.heap.size, 1, none⟩ = some (.int .i64 f) := fun p => p.h.keepc d1
    have p2 : ∀ p : Past w2, p.u.cell? ⟨w.heap.size, 2, none⟩ = some (.int .i64 u) := fun p => p.h.keepc d2
    have p3 : ∀ p : Past w2, p.u.cell? ⟨w.heap.size, 3, none⟩ = some (.slice ca ln ck) := fun p => p.h.keepc d3
    have KA := Lib.hid (fun p : Past w2 => HCA.out p.u (by rw [HLN.out]; exact (HZ.out.kept HF2.out).kept p.h))
    have KB := Lib.hid (fun p : Past w2 => HCB.out p.u (by rw [HLN.out]; exact (HZ.out.kept HF2.out).kept p.h))
    refine wp_region_past (by kernel_rfl) (by kernel_rfl) ?_
    repeat (go_big_quiet_step (first | rfl | (go_at_call_of 36 a; refine past_of (KA.out _)) | (go_at_call_of 36 b; refine past_of (KB.out _))))
    refine wpQuiet_nil ?_
    intro w3 hp
    have HF3 := Lib.hid (HF.out.noTrans (HF2.out.noTrans (past_out hp)))
    clear hp p0 p1 p2 p3 d0 d1 d2 d3 c0 c1 c2 c3
    go_wp2_with fail
    go_ret2
    rw [HC.out]
    exact ⟨by simp; rw [Bool.eq_iff_iff]; simp, HF3.out⟩
  · have HC := Lib.hid (show meV v f u zs s a b = false by rw [HC.out, decide_eq_false hE]; rfl)
    have hE1 : (E == 0) = false := by simpa using hE
    have hE2 : decide (E = 0) = false := by simpa using hE
    clear HUF HCO
    go_enter Try.func14, Try.ntmps14
    go_wp2_with fail
    rw [← HW.out]
    go_wp2_with fail
    refine (HU.out _ (by rw [HLN.out]; exact HZ.out.kept ((Fr.refl no W).alloc _)) ?ho).mono ?_
    case ho => exact (by rw [← HWS.out]; exact ints_new W [a, b] _)
    rintro e w2 ⟨rfl, f2⟩
    have HF2 := Lib.hid (HF.out.noTrans (((Fr.refl no W).alloc _).noTrans f2))
    clear f2
    go_wp2_with fail
    go_ret2
    rw [HC.out]
    exact ⟨rfl, HF2.out⟩

end Go.Proofs.Ytpaoacdgmfaolaa
