/- The factor, by the document. -/
import Derived.Test.YtdenlinehjigaaaUnf
namespace Go.Proofs.Ytdenlinehjigaaa
open Go.RowKit
set_option linter.unusedVariables false

set_option maxHeartbeats 8000000 in
theorem factorR_any (a0 : Option Addr) (l0 k0 : Nat) (a1 : Option Addr) (l1 k1 : Nat) (ss : List Src) (fs : List Fd) (a b c t : Int) (w : World) (hsp : SpIn w a0 l0 a1 l1 ss fs) (hl1 : l1 ≤ 80) :
    Calls Try.prog 97 #[.agg #[.slice a0 l0 k0, .slice a1 l1 k1], .int .i64 a, .int .i64 b, .int .i64 c, .int .i64 t] w fun e w' => e = .returned (.int .i64 (ftF a b c t fs)) ∧ Fr no w w' := by
  obtain ⟨W, hW⟩ : ∃ W, W = w.alloc (.cells #[.slice a0 l0 k0, .slice a1 l1 k1] 47 (0, 0)) := ⟨_, rfl⟩
  have hF : Fr no w W := by rw [hW]; exact (Fr.refl no w).alloc _
  have h1 : W.heap[w.heap.size]? = some (.cells #[.slice a0 l0 k0, .slice a1 l1 k1] 47 (0, 0)) := by rw [hW]; exact heap_alloc_new w _
  obtain ⟨c0, c1⟩ := two_cells h1
  have HFD := Lib.hid (hsp.f.kept hF)
  have HFL := Lib.hid hsp.f.1
  have HF := Lib.hid hF
  have HW := Lib.hid hW
  have HL := Lib.hid hl1
  have HX := Lib.hid (show ftF a b c t fs = lsF (ftP a b c t) fs from rfl)
  clear hsp hF h1 hW hl1
  go_enter Try.func97, Try.ntmps97
  go_wp2_with fail
  rw [← HW.out]
  go_loopw [11, 12, 13] (fun m i _ wr => ∃ k : Nat, k ≤ l1 ∧ i = .int .i64 k ∧ m = .int .i64 (lsF (ftP a b c t) (fs.take k)) ∧ Hid (Fr no W wr)) (fun _ i _ _ => l1 - (intOf i).toNat)
  case atStart => exact ⟨0, Nat.zero_le _, rfl, by simp [lsF], Lib.hid (Fr.refl _ _)⟩
  case round =>
    obtain ⟨k, hk, rfl, rfl, F⟩ := hrel
    have d1 := F.out.keepc c1
    clear c0 c1
    by_cases hlt : k < l1
    · obtain ⟨b', off, rfl, e0, e1, e2, e3, e4, e5⟩ := (HFD.out.kept F.out).2 k hlt
      have HT := Lib.hid (lsF_succ (ftP a b c t) fs k (by have := HFL.out; omega))
      have hkn : (k : Int) < (l1 : Int) := by omega
      have hk8 : (k : Int) ≤ 79 := by have := HL.out; omega
      generalize fdAt fs k = f at *
      obtain ⟨fr, to, ch, fi, un, fa⟩ := f
      dsimp only at e0 e1 e2 e3 e4 e5
      generalize lsF (ftP a b c t) (fs.take k) = m at *
      have hlt0 := World.block_lt_of_cell? wr _ e0
      have hlt1 := World.block_lt_of_cell? wr _ d1
      have F2 := Lib.hid (F.out.alloc (.cells #[.int .i64 fr, .int .i64 to, .int .i64 ch, .int .i64 fi, .int .i64 un, .int .i64 fa] 66 (0, 0)))
      go_wp2_with fail
      all_goals
        go_roundw
        case rel => exact ⟨k + 1, by omega, by go_num, by first | (rw [HT.out]; simp [lsS, ftP, btwF, onChF, atmF, *]; done) | (rw [HT.out]; simp_all [lsS, ftP, btwF, onChF, atmF]; done) | (rw [HT.out]; simp [lsS, ftP, btwF, onChF, atmF, *]; omega), Lib.hid (F.out.alloc _)⟩
        case measure => simp [intOf]; omega
    · have HV := Lib.hid (lsF_all (ftP a b c t) fs k (by have := HFL.out; omega))
      go_wp2_with fail
      go_ret
      rw [HX.out, ← HV.out]
      exact ⟨rfl, HF.out.noTrans F.out⟩
end Go.Proofs.Ytdenlinehjigaaa
