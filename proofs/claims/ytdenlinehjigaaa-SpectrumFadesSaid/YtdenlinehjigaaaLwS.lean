/- SpectrumSources. -/
import Derived.Test.YtdenlinehjigaaaAw6
namespace Go.Proofs.Ytdenlinehjigaaa
open Go.RowKit
set_option linter.unusedVariables false

theorem fewB_t {l0 l1 : Nat} {ss : List Src} (hs : ss.length = l0) (h : fewB l0 l1 ss = true) : l0 ≤ 20 ∧ l1 ≤ 70 ∧ ∀ i, i < l0 → (srAt ss i).chs.length ≤ 20 := by
  simp only [fewB, Bool.and_eq_true, decide_eq_true_eq] at h
  refine ⟨h.1.1, h.1.2, fun i hi => ?_⟩
  have := all_get (fun s : Src => decide (s.chs.length ≤ 20)) ⟨0, 0, 0, [], 0, 0, 0⟩ ss i (by omega) h.2
  exact of_decide_eq_true this
/-- Three boxes. -/
structure Bx3 (w W : World) (A B C : Obj) : Prop where
  f : Fr no w W
  a : W.heap[w.heap.size]? = some A
  b : W.heap[w.heap.size + 1]? = some B
  c : W.heap[w.heap.size + 1 + 1]? = some C
theorem box3 (w : World) (A B C : Obj) : Bx3 w (((w.alloc A).alloc B).alloc C) A B C :=
  ⟨(((Fr.refl no w).alloc _).alloc _).alloc _, alloc_keeps (alloc_keeps (heap_alloc_new w A) _) _, alloc_keeps (by simpa using heap_alloc_new (w.alloc A) B) _, by simpa using heap_alloc_new ((w.alloc A).alloc B) C⟩
theorem Bx3.kept {w W W' : World} {A B C : Obj} (h : Bx3 w W A B C) (k : Fr no W W') : Bx3 w W' A B C := ⟨h.f.noTrans k, k.blk h.a (fun h => h), k.blk h.b (fun h => h), k.blk h.c (fun h => h)⟩
theorem five_cellsP {w : World} {B T : Nat} {a b c d e : Value} (h : w.heap[B]? = some (.cells #[a, b, c, d, e] T (0, 0))) :
    w.cell? ⟨B, 0, none⟩ = some a ∧ w.cell? ⟨B, 1, none⟩ = some b ∧ w.cell? ⟨B, 2, none⟩ = some c ∧ w.cell? ⟨B, 3, none⟩ = some d ∧ w.cell? ⟨B, 4, none⟩ = some e := by
  simp [World.cell?, h]
set_option maxHeartbeats 8000000 in
theorem sources_law (a0 : Option Addr) (l0 k0 : Nat) (a1 : Option Addr) (l1 k1 : Nat) (ss : List Src) (fs : List Fd) (ca : Option Addr) (ck : Nat) (s : Src) (qa qb qc qf qt : Int) (w : World) (hs : SrcsIn w a0 l0 ss) (hf : FdsIn w a1 l1 fs) (hz : IntsIn w ca s.chs.length s.chs) :
    Calls Try.prog 4 #[.agg #[.slice a0 l0 k0, .slice a1 l1 k1], .agg #[.int .i64 s.x, .int .i64 s.y, .int .i64 s.pw, .slice ca s.chs.length ck, .int .i64 s.per, .int .i64 s.fr, .int .i64 s.to], .agg #[.int .i64 qa, .int .i64 qb, .int .i64 qc, .int .i64 qf, .int .i64 qt]] w fun e w' => e = .returned (.bool true) ∧ Fr no w w' := by
  have hB := box3 w (.cells #[.slice a0 l0 k0, .slice a1 l1 k1] 47 (0, 0)) (.cells #[.int .i64 s.x, .int .i64 s.y, .int .i64 s.pw, .slice ca s.chs.length ck, .int .i64 s.per, .int .i64 s.fr, .int .i64 s.to] 49 (0, 0)) (.cells #[.int .i64 qa, .int .i64 qb, .int .i64 qc, .int .i64 qf, .int .i64 qt] 51 (0, 0))
  obtain ⟨W, hW⟩ : ∃ W, W = ((w.alloc (.cells #[.slice a0 l0 k0, .slice a1 l1 k1] 47 (0, 0))).alloc (.cells #[.int .i64 s.x, .int .i64 s.y, .int .i64 s.pw, .slice ca s.chs.length ck, .int .i64 s.per, .int .i64 s.fr, .int .i64 s.to] 49 (0, 0))).alloc (.cells #[.int .i64 qa, .int .i64 qb, .int .i64 qc, .int .i64 qf, .int .i64 qt] 51 (0, 0)) := ⟨_, rfl⟩
  rw [← hW] at hB
  have HB := Lib.hid hB
  have HW := Lib.hid hW
  have HS := Lib.hid (hs.kept hB.f)
  have HFD := Lib.hid (hf.kept hB.f)
  have HZ := Lib.hid (hz.kept hB.f)
  clear hB hW hs hf hz
  go_enter Try.func4, Try.ntmps4
  go_wp2_with fail
  rw [← HW.out]
  refine (awake6_any W).mono ?_
  rintro e w1 ⟨rfl, f1⟩
  have HB1 := Lib.hid (HB.out.kept f1)
  have HS1 := Lib.hid (HS.out.kept f1)
  have HFD1 := Lib.hid (HFD.out.kept f1)
  have HZ1 := Lib.hid (HZ.out.kept f1)
  obtain ⟨x0, x1⟩ := two_cells HB1.out.a
  clear f1
  go_wp2_with fail
  refine (fewS_any a0 l0 k0 a1 l1 k1 ss w1 HS1.out).mono ?_
  rintro e w2 ⟨rfl, f2⟩
  have HB2 := Lib.hid (HB1.out.kept f2)
  have HS2 := Lib.hid (HS1.out.kept f2)
  have HFD2 := Lib.hid (HFD1.out.kept f2)
  have HZ2 := Lib.hid (HZ1.out.kept f2)
  obtain ⟨s0, s1, s2, s3, s4, s5, s6⟩ := seven_cells HB2.out.b
  clear f2 x0 x1
  cases hfew : fewB l0 l1 ss
  · clear hfew
    go_wp2_with fail
    go_ret
    exact ⟨rfl, HB2.out.f⟩
  · by_cases hl : 20 < s.chs.length
    · have hld : decide ((20 : Int) < (s.chs.length : Int)) = true := decide_eq_true (by omega)
      clear hfew
      go_wp2_with fail
      go_ret
      exact ⟨rfl, HB2.out.f⟩
    · have hld : decide ((20 : Int) < (s.chs.length : Int)) = false := decide_eq_false (by omega)
      obtain ⟨n0, n1, n2⟩ := fewB_t HS2.out.1 hfew
      have HN2 := Lib.hid n2
      have HLN := Lib.hid (show s.chs.length ≤ 40 by omega)
      clear hfew n2 hl
      go_wp2_with fail
      have y0 : ∀ p : Past w2, p.u.cell? ⟨w.heap.size, 0, none⟩ = some (.slice a0 l0 k0) := fun p => (two_cells (HB2.out.kept p.h).a).1
      have y1 : ∀ p : Past w2, p.u.cell? ⟨w.heap.size, 1, none⟩ = some (.slice a1 l1 k1) := fun p => (two_cells (HB2.out.kept p.h).a).2
      have z0 : ∀ p : Past w2, p.u.cell? ⟨w.heap.size + 1, 0, none⟩ = some (.int .i64 s.x) := fun p => (seven_cells (HB2.out.kept p.h).b).1
      have z1 : ∀ p : Past w2, p.u.cell? ⟨w.heap.size + 1, 1, none⟩ = some (.int .i64 s.y) := fun p => (seven_cells (HB2.out.kept p.h).b).2.1
      have z2 : ∀ p : Past w2, p.u.cell? ⟨w.heap.size + 1, 2, none⟩ = some (.int .i64 s.pw) := fun p => (seven_cells (HB2.out.kept p.h).b).2.2.1
      have z3 : ∀ p : Past w2, p.u.cell? ⟨w.heap.size + 1, 3, none⟩ = some (.slice ca s.chs.length ck) := fun p => (seven_cells (HB2.out.kept p.h).b).2.2.2.1
      have z4 : ∀ p : Past w2, p.u.cell? ⟨w.heap.size + 1, 4, none⟩ = some (.int .i64 s.per) := fun p => (seven_cells (HB2.out.kept p.h).b).2.2.2.2.1
      have z5 : ∀ p : Past w2, p.u.cell? ⟨w.heap.size + 1, 5, none⟩ = some (.int .i64 s.fr) := fun p => (seven_cells (HB2.out.kept p.h).b).2.2.2.2.2.1
      have z6 : ∀ p : Past w2, p.u.cell? ⟨w.heap.size + 1, 6, none⟩ = some (.int .i64 s.to) := fun p => (seven_cells (HB2.out.kept p.h).b).2.2.2.2.2.2
      have q3 : ∀ p : Past w2, p.u.cell? ⟨w.heap.size + 1 + 1, 3, none⟩ = some (.int .i64 qf) := fun p => (five_cellsP (HB2.out.kept p.h).c).2.2.2.1
      have q4 : ∀ p : Past w2, p.u.cell? ⟨w.heap.size + 1 + 1, 4, none⟩ = some (.int .i64 qt) := fun p => (five_cellsP (HB2.out.kept p.h).c).2.2.2.2
      have hc40 : ∀ i, i < l0 → (srAt ss i).chs.length ≤ 40 := fun i hi => by have := HN2.out i hi; omega
      have K1 := Lib.hid (fun p : Past w2 => checkS_any a0 l0 k0 a1 l1 k1 ss fs p.u (HS2.out.kept p.h) (HFD2.out.kept p.h) hc40)
      have K2 := Lib.hid (fun p : Past w2 => checkT_any a0 l0 k0 a1 l1 k1 ss fs p.u (HS2.out.kept p.h) (HFD2.out.kept p.h) hc40)
      have K3 := Lib.hid (fun p : Past w2 => on_any ca ck s qf qt p.u (HZ2.out.kept p.h) HLN.out)
      have K4 := Lib.hid (fun p : Past w2 => onR_any ca ck s qf qt p.u (HZ2.out.kept p.h) HLN.out)
      have K5 := Lib.hid (fun p : Past w2 => duty_any ca ck s p.u (HZ2.out.kept p.h) HLN.out)
      have K6 := Lib.hid (fun p : Past w2 => dutyR_any ca ck s p.u (HZ2.out.kept p.h) HLN.out)
      generalize ckE (ckS l0 l1 ss fs) = v1 at *
      generalize onB s qf qt = v2 at *
      generalize duV s = v3 at *
      clear s0 s1 s2 s3 s4 s5 s6 hc40 n0 n1 hld
      refine wp_region_past (by kernel_rfl) (by kernel_rfl) ?_
      repeat (go_big_quiet_step (first | rfl | (go_at_call 29; refine past_of (K1.out _)) | (go_at_call 30; refine past_of (K2.out _)) | (go_at_call 31; refine past_of (K3.out _)) | (go_at_call 32; refine past_of (K4.out _)) | (go_at_call 33; refine past_of (K5.out _)) | (go_at_call 34; refine past_of (K6.out _))))
      refine wpQuiet_nil ?_
      intro u hp
      have hu := past_out hp
      have HU := Lib.hid (HB2.out.f.noTrans hu)
      clear hp hu y0 y1 z0 z1 z2 z3 z4 z5 z6 q3 q4
      go_wp2_with fail
      go_ret
      exact ⟨by simp, HU.out⟩
end Go.Proofs.Ytdenlinehjigaaa
