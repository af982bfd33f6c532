/- Channels. -/
import Derived.Test.YtpaoacdgmfaolaaAwk
import Derived.Test.YtpaoacdgmfaolaaChS
namespace Go.Proofs.Ytpaoacdgmfaolaa
set_option linter.unusedVariables false
open Go.RowKit


theorem three_cellsI {w : World} {B T : Nat} {a b c : Value} (h : w.heap[B]? = some (.cells #[a, b, c] T (0, 0))) :
    w.cell? ⟨B, 0, none⟩ = some a ∧ w.cell? ⟨B, 1, none⟩ = some b ∧ w.cell? ⟨B, 2, none⟩ = some c := by simp [World.cell?, h]
set_option maxHeartbeats 8000000 in
theorem channels_all (v f u : Int) (ca : Option Addr) (ck : Nat) (zs : List Int) (s a b : Int) (w : World) (hz : IntsIn w ca zs.length zs) (hk : zs.length ≤ ck) :
    Calls Try.prog 3 #[.agg #[.int .i64 v, .int .i64 f, .int .i64 u, .slice ca zs.length ck], .agg #[.int .i64 s, .int .i64 a, .int .i64 b]] w fun e w' => e = .returned (.bool true) ∧ Fr no w w' := by
  obtain ⟨W, hW⟩ : ∃ W, W = (w.alloc (.cells #[.int .i64 v, .int .i64 f, .int .i64 u, .slice ca zs.length ck] 24 (0, 0))).alloc (.cells #[.int .i64 s, .int .i64 a, .int .i64 b] 25 (0, 0)) := ⟨_, rfl⟩
  have hF : Fr no w W := by rw [hW]; exact ((Fr.refl no w).alloc _).alloc _
  have h1 : W.heap[w.heap.size]? = some (.cells #[.int .i64 v, .int .i64 f, .int .i64 u, .slice ca zs.length ck] 24 (0, 0)) := by rw [hW]; exact alloc_keeps (heap_alloc_new w _) _
  have h2 : W.heap[w.heap.size + 1]? = some (.cells #[.int .i64 s, .int .i64 a, .int .i64 b] 25 (0, 0)) := by rw [hW]; simpa using heap_alloc_new (w.alloc (.cells #[.int .i64 v, .int .i64 f, .int .i64 u, .slice ca zs.length ck] 24 (0, 0))) (.cells #[.int .i64 s, .int .i64 a, .int .i64 b] 25 (0, 0))
  have H2 := Lib.hid h2
  have HF := Lib.hid hF
  have HW := Lib.hid hW
  have H1 := Lib.hid h1
  have HZ := Lib.hid (hz.kept hF)
  have HK := Lib.hid hk
  obtain ⟨ln, hln⟩ : ∃ ln, ln = zs.length := ⟨_, rfl⟩
  simp only [← hln] at HZ HK ⊢
  rw [← hln] at H1 HW
  by_cases h20 : ln ≤ 20
  · have hnI : ¬ ((20 : Int) < (ln : Int)) := by omega
    have KC := Lib.hid (fun w hz => channel_any v f u ca ck zs s a w hz (by omega))
    have KD := Lib.hid (fun w hz => channelR_any v f u ca ck zs s a w hz (by omega) hk)
    have KM := Lib.hid (fun w hz => meet_any v f u ca ck zs s a b w hz (by omega))
    have KN := Lib.hid (fun w hz => meetR_any v f u ca ck zs s a b w hz (by omega) hk)
    have KX := Lib.hid (fun w hz => check_any v f u ca ck zs w hz (by omega))
    have KY := Lib.hid (fun w hz => checkR_any v f u ca ck zs w hz (by omega) hk)
    simp only [← hln] at KC KD KM KN KX KY
    generalize chV v f u zs s a = x1 at *
    generalize useL v f u zs s [a] = x2 at *
    generalize meV v f u zs s a b = x3 at *
    generalize useL v f u zs s [a, b] = x4 at *
    generalize hlE v f u zs = x5 at *
    clear hz hF h1 h2 hW hk hln h20 HK
    go_enter Try.func3, Try.ntmps3
    go_wp2_with fail
    rw [← HW.out]
    refine (awake_any W).mono ?_
    rintro e w0 ⟨rfl, f0⟩
    obtain ⟨c0, c1, c2, c3⟩ := four_cells (f0.blk H1.out (fun h => h))
    obtain ⟨d0, d1, d2⟩ := three_cellsI (f0.blk H2.out (fun h => h))
    have F0 := Lib.hid f0
    clear f0
    go_wp2_with fail
    refine (KC.out _ (HZ.out.kept F0.out)).mono ?_
    rintro e w1 ⟨rfl, f1⟩
    have F1 := Lib.hid (F0.out.noTrans f1)
    replace c0 := f1.keepc c0
    replace c1 := f1.keepc c1
    replace c2 := f1.keepc c2
    replace c3 := f1.keepc c3
    replace d0 := f1.keepc d0
    replace d1 := f1.keepc d1
    replace d2 := f1.keepc d2
    clear f1 F0
    go_wp2_with fail
    refine (KD.out _ (HZ.out.kept F1.out)).mono ?_
    rintro e w2 ⟨rfl, f2⟩
    have F2 := Lib.hid (F1.out.noTrans f2)
    replace c0 := f2.keepc c0
    replace c1 := f2.keepc c1
    replace c2 := f2.keepc c2
    replace c3 := f2.keepc c3
    replace d0 := f2.keepc d0
    replace d1 := f2.keepc d1
    replace d2 := f2.keepc d2
    clear f2 F1
    go_wp2_with fail
    refine (KM.out _ (HZ.out.kept F2.out)).mono ?_
    rintro e w3 ⟨rfl, f3⟩
    have F3 := Lib.hid (F2.out.noTrans f3)
    replace c0 := f3.keepc c0
    replace c1 := f3.keepc c1
    replace c2 := f3.keepc c2
    replace c3 := f3.keepc c3
    replace d0 := f3.keepc d0
    replace d1 := f3.keepc d1
    replace d2 := f3.keepc d2
    clear f3 F2
    go_wp2_with fail
    refine (KN.out _ (HZ.out.kept F3.out)).mono ?_
    rintro e w4 ⟨rfl, f4⟩
    have F4 := Lib.hid (F3.out.noTrans f4)
    replace c0 := f4.keepc c0
    replace c1 := f4.keepc c1
    replace c2 := f4.keepc c2
    replace c3 := f4.keepc c3
    clear f4 F3 d0 d1 d2
    go_wp2_with fail
    have p0 : ∀ p : Past w4, p.u.cell? ⟨w.heap.size, 0, none⟩ = some (.int .i64 v) := fun p => p.h.keepc c0
    have p1 : ∀ p : Past w4, p.u.cell? ⟨w.heap.size, 1, none⟩ = some (.int .i64 f) := fun p => p.h.keepc c1
    have p2 : ∀ p : Past w4, p.u.cell? ⟨w.heap.size, 2, none⟩ = some (.int .i64 u) := fun p => p.h.keepc c2
    have p3 : ∀ p : Past w4, p.u.cell? ⟨w.heap.size, 3, none⟩ = some (.slice ca ln ck) := fun p => p.h.keepc c3
    have KXX := Lib.hid (fun p : Past w4 => KX.out p.u ((HZ.out.kept F4.out).kept p.h))
    have KYY := Lib.hid (fun p : Past w4 => KY.out p.u ((HZ.out.kept F4.out).kept p.h))
    clear c0 c1 c2 c3
    refine wp_region_past (by kernel_rfl) (by kernel_rfl) ?_
    repeat (go_big_quiet_step (first | rfl | (go_at_call 16; refine past_of (KXX.out _)) | (go_at_call 17; refine past_of (KYY.out _))))
    refine wpQuiet_nil ?_
    intro w5 hp
    have F5 := Lib.hid (HF.out.noTrans (F4.out.noTrans (past_out hp)))
    clear hp p0 p1 p2 p3
    go_wp2_with fail
    go_ret
    exact ⟨by simp, F5.out⟩
  · have hnI : (20 : Int) < (ln : Int) := by omega
    clear hz hF h1 h2 hW hk hln h20 HK HZ
    go_enter Try.func3, Try.ntmps3
    go_wp2_with fail
    rw [← HW.out]
    refine (awake_any W).mono ?_
    rintro e w0 ⟨rfl, f0⟩
    obtain ⟨c0, c1, c2, c3⟩ := four_cells (f0.blk H1.out (fun h => h))
    have F0 := Lib.hid (HF.out.noTrans f0)
    clear f0
    go_wp2_with fail
    go_ret
    exact ⟨rfl, F0.out⟩

end Go.Proofs.Ytpaoacdgmfaolaa
