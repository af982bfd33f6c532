/- Decode. -/
import Derived.Test.YtelpdihaonoedaaRea
import Derived.Test.YtelpdihaonoedaaAck
namespace Go.Proofs.Ytelpdihaonoedaa
open Go.RowKit
set_option linter.unusedVariables false
set_option maxRecDepth 20000

set_option maxHeartbeats 2000000 in
theorem reading_any (F B : Nat) (w : World) :
    Calls Try.prog 46 #[.pointer (some ⟨B, 0, none⟩), .pointer (some ⟨F, 0, none⟩)] w fun e w' => e = .returned (.agg (layA (macR F B w.heap.size))) ∧ w'.heap[w.heap.size]? = some (.cells #[.pointer (some ⟨B, 0, none⟩)] 63 (0, 0)) ∧ Fr no w w' := by
  have hmf : ∀ (fn : Fn) (first cap : Array Value) (w : World), (Instr.makeFunc fn first cap).run Try.prog w = .ok (.func fn first cap) w := fun _ _ _ _ => rfl
  have HF := Lib.hid (Fr.refl no w)
  have HN := Lib.hid (heap_alloc_new w (.cells #[.pointer (some ⟨B, 0, none⟩)] 63 (0, 0)))
  simp only [layA, macR]
  go_enter Try.func46, Try.ntmps46
  go_wp2_with fail
  refine bodyPost_ret (v := .agg #[.pointer (some ⟨F, 0, none⟩), .func (.func 86) #[] #[.pointer (some ⟨w.heap.size, 0, none⟩)], .func (.func 88) #[] #[.pointer (some ⟨w.heap.size, 0, none⟩)], .func (.func 90) #[] #[.pointer (some ⟨w.heap.size, 0, none⟩)], .func (.func 92) #[] #[.pointer (some ⟨w.heap.size, 0, none⟩)]]) (by simp [results, Try.results46, go_sem]) rfl ⟨rfl, ?_, ?_⟩
  · exact alloc_keeps HN.out _
  · exact (HF.out.alloc _).alloc _
def deA (s : ByteArray) : Frm × RSt := allF (macR 0 0 0) (zeroF, rNew (chkV s))
theorem allR (F B P : Nat) (p : Frm × RSt) : allF (macR F B P) p = allF (macR 0 0 0) p := rfl
theorem all_R (F B P : Nat) {w : World} {T : Nat → Prop} {s : ByteArray} (h : (macR F B P).LS w T zeroF (rNew (chkV s))) :
    Calls Try.prog 33 #[.agg (layA (macR F B P))] w fun e w' => e = .returned (.tuple #[]) ∧ Stp (macR F B P) w T w' (deA s).1 (deA s).2 :=
  all_any (macR F B P) (macR_ok F B P) h
/-- What Decode returns. -/
def deV (s : ByteArray) : Frm := if s.size ≤ 127 then (if chkE s = 0 then (if rClose (deA s).2 = 0 then (if okF (deA s).1 then (deA s).1 else zeroF) else zeroF) else zeroF) else zeroF
def deE (s : ByteArray) : Int := if s.size ≤ 127 then (if chkE s = 0 then (if rClose (deA s).2 = 0 then (if okF (deA s).1 then 0 else 10) else 10) else chkE s) else 8
theorem ret_zero (w : World) (h : w.heap[w.heap.size]? = none) : True := trivial
theorem dec_fr {w W w4 : World} {F B P : Nat} {T : Nat → Prop} {x : Frm} {st : RSt} (hF : Fr no w W) (hv : ∀ k, T k → w.heap.size ≤ k) (hs : Stp (macR F B P) W T w4 x st) :
    LSr F B P w4 (fooR F B) x st ∧ Fr no w w4 := by
  obtain ⟨T', h, f, n⟩ := hs
  have ht := LSr.t h
  subst ht
  exact ⟨h, hF.trans (f.mono (S' := fun k => w.heap.size ≤ k) (fun i _ hi => hv i hi)) (fun i hi hh => absurd hh (Nat.not_le.2 hi))⟩
theorem chkV_small (s : ByteArray) (h : s.size ≤ 127) : (chkV s).size ≤ 127 := by
  unfold chkV
  split
  · simp
  · split
    · simp only [ByteArray.size_extract]; omega
    · simp
theorem decode_long (s : ByteArray) (w : World) (hs : 127 < s.size) : Calls Try.prog 20 #[.string s] w fun e w' => e = .returned (.tuple #[.agg (frA zeroF), .int .i64 8]) ∧ Fr no w w' := by
  have HF := Lib.hid (Fr.refl no w)
  have h1 : (127 : Int) < (s.size : Int) := by omega
  clear hs
  have hz : frA zeroF = #[.int .i64 0, .int .i64 0, .int .i64 0, .int .i64 0, .int .i64 0, .int .i64 0, .int .i64 0, .int .i64 0, .int .i64 0, .int .i64 0, .int .i64 0, .string ⟨#[]⟩] := rfl
  rw [hz]
  clear hz
  go_enter Try.func20, Try.ntmps20
  go_wp2_with fail
  refine bodyPost_ret (v := .tuple #[.agg #[.int .i64 0, .int .i64 0, .int .i64 0, .int .i64 0, .int .i64 0, .int .i64 0, .int .i64 0, .int .i64 0, .int .i64 0, .int .i64 0, .int .i64 0, .string ⟨#[]⟩], .int .i64 8]) (by simp [results, Try.results20, go_sem]) rfl ⟨rfl, HF.out.alloc _⟩
def zA : Array Value := #[.int .i64 0, .int .i64 0, .int .i64 0, .int .i64 0, .int .i64 0, .int .i64 0, .int .i64 0, .int .i64 0, .int .i64 0, .int .i64 0, .int .i64 0, .string ⟨#[]⟩]
theorem decode_sum (s : ByteArray) (w : World) (hs : s.size ≤ 127) (hc : chkE s ≠ 0) : Calls Try.prog 20 #[.string s] w fun e w' => e = .returned (.tuple #[.agg zA, .int .i64 (chkE s)]) ∧ Fr no w w' := by
  have HC := Lib.hid (fun w => check_any s w (by omega))
  have h1 : ¬ (127 : Int) < (s.size : Int) := by omega
  have h2 : (chkE s != 0) = true := by simp [hc]
  clear hs hc
  generalize chkE s = E at *
  obtain ⟨W, hW⟩ : ∃ W, W = w.alloc (.cells zA 23 (0, 0)) := ⟨_, rfl⟩
  have hB : W.heap[w.heap.size]? = some (.cells zA 23 (0, 0)) := by rw [hW]; exact heap_alloc_new w _
  have HW := Lib.hid hW
  have HFW := Lib.hid (show Fr no w W by rw [hW]; exact (Fr.refl no w).alloc _)
  have HB := Lib.hid hB
  clear hW hB
  simp only [zA] at HW ⊢
  go_enter Try.func20, Try.ntmps20
  go_wp2_with fail
  rw [← HW.out]
  go_wp2_with fail
  refine (HC.out _).mono ?_
  rintro e1 w1 ⟨rfl, f1⟩
  have HF1 := Lib.hid (HFW.out.noTrans f1)
  have HZ := f1.blk HB.out (fun h => h)
  obtain ⟨z0, z1, z2, z3, z4, z5, z6, z7, z8, z9, z10, z11⟩ := twelve_cells HZ
  have zf := fun i => (show w1.frozen? ⟨w.heap.size, i, none⟩ = false by simp [World.frozen?, HZ])
  clear f1 HZ
  go_wp2_with fail
  refine bodyPost_ret (v := .tuple #[.agg #[.int .i64 0, .int .i64 0, .int .i64 0, .int .i64 0, .int .i64 0, .int .i64 0, .int .i64 0, .int .i64 0, .int .i64 0, .int .i64 0, .int .i64 0, .string ⟨#[]⟩], .int .i64 E]) (by simp [results, Try.results20, go_sem, z0, z1, z2, z3, z4, z5, z6, z7, z8, z9, z10, z11]) rfl ?_
  exact ⟨rfl, fr12 HF1.out (Nat.le_refl _) _ _ _ _ _ _ _ _ _ _ _ _⟩
end Go.Proofs.Ytelpdihaonoedaa
