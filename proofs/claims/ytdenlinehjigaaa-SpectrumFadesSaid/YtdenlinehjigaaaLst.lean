/- The least factor. -/
import Derived.Test.YtdenlinehjigaaaFdg
namespace Go.Proofs.Ytdenlinehjigaaa
open Go.RowKit
set_option linter.unusedVariables false

/-- The least factor of those that meet p. -/
def lsS (p : Fd → Bool) (m : Int) (f : Fd) : Int := if p f then (if f.fa < m then f.fa else m) else m
def lsF (p : Fd → Bool) (fs : List Fd) : Int := fs.foldl (lsS p) 1000
theorem lsF_succ (p : Fd → Bool) (fs : List Fd) (k : Nat) (hk : k < fs.length) : lsF p (fs.take (k + 1)) = lsS p (lsF p (fs.take k)) (fdAt fs k) := by
  unfold lsF fdAt
  rw [List.take_succ_eq_append_getElem hk, List.foldl_append]
  simp [List.getD_eq_getElem?_getD, List.getElem?_eq_getElem hk]
theorem lsF_all (p : Fd → Bool) (fs : List Fd) (k : Nat) (hk : fs.length ≤ k) : lsF p (fs.take k) = lsF p fs := by rw [List.take_of_length_le hk]
set_option maxHeartbeats 8000000 in
theorem least_any (a1 : Option Addr) (l1 k1 : Nat) (fs : List Fd) (ao : Option Addr) (len cap : Nat) (cs : List Cnd) (w : World) (hf : FdsIn w a1 l1 fs) (hc : CndsIn w ao len cs) (hl : len ≤ 8) (hl1 : l1 ≤ 80) :
    Calls Try.prog 91 #[.slice a1 l1 k1, .slice ao len cap] w fun e w' => e = .returned (.int .i64 (lsF (cdB cs) fs)) ∧ Fr no w w' := by
  have HFL := Lib.hid hf.1
  have HFD := Lib.hid hf
  have HC := Lib.hid hc
  have HLL := Lib.hid hl
  have HL1 := Lib.hid hl1
  clear hf hc hl hl1
  go_enter Try.func91, Try.ntmps91
  go_wp2_with fail
  go_loopw [5, 7, 10] (fun m _ i wr => ∃ k : Nat, k ≤ l1 ∧ i = .int .i64 k ∧ m = .int .i64 (lsF (cdB cs) (fs.take k)) ∧ Hid (Fr no w wr)) (fun _ _ i _ => l1 - (intOf i).toNat)
  case atStart => exact ⟨0, Nat.zero_le _, rfl, by simp [lsF], Lib.hid (Fr.refl _ _)⟩
  case round =>
    obtain ⟨k, hk, rfl, rfl, F⟩ := hrel
    by_cases hlt : k < l1
    · obtain ⟨b, off, rfl, e0, e1, e2, e3, e4, e5⟩ := (HFD.out.kept F.out).2 k hlt
      have HT := Lib.hid (lsF_succ (cdB cs) fs k (by have := HFL.out; omega))
      have hkn : (k : Int) < (l1 : Int) := by omega
      have hk8 : (k : Int) ≤ 79 := by have := HL1.out; omega
      generalize fdAt fs k = f at *
      generalize lsF (cdB cs) (fs.take k) = m at *
      obtain ⟨w2, hw2⟩ : ∃ w2, w2 = wr.alloc (.cells #[.int .i64 f.fr, .int .i64 f.to, .int .i64 f.ch, .int .i64 f.fi, .int .i64 f.un, .int .i64 f.fa] 66 (0, 0)) := ⟨_, rfl⟩
      have f2 : Fr no wr w2 := by rw [hw2]; exact (Fr.refl no wr).alloc _
      have H2 := Lib.hid (show w2.heap[wr.heap.size]? = some (.cells #[.int .i64 f.fr, .int .i64 f.to, .int .i64 f.ch, .int .i64 f.fi, .int .i64 f.un, .int .i64 f.fa] 66 (0, 0)) by rw [hw2]; exact heap_alloc_new wr _)
      have HK := applies_any f ao len cap cs w2 (HC.out.kept (F.out.noTrans f2)) HLL.out
      have F2 := Lib.hid (F.out.noTrans f2)
      have HW2 := Lib.hid hw2
      clear hw2 f2
      have hlt0 := World.block_lt_of_cell? wr _ e0
      have HQ := Lib.hid (show lsS (cdB cs) m f = if cdB cs f then (if f.fa < m then f.fa else m) else m from rfl)
      rw [HQ.out] at HT
      cases hp : cdB cs f
      · rw [hp] at HK HT
        have HK := Lib.hid HK
        clear hp
        go_wp2_with fail
        rw [← HW2.out]
        refine HK.out.mono ?_
        rintro e w3 ⟨rfl, f3⟩
        have F3 := Lib.hid (F2.out.noTrans f3)
        clear f3
        go_wp2_with fail
        go_roundw
        case rel => exact ⟨k + 1, by omega, by go_num, by rw [HT.out]; rfl, F3⟩
        case measure => simp [intOf]; omega
      · rw [hp] at HK HT
        have HK := Lib.hid HK
        clear hp
        by_cases hm : f.fa < m
        · have HT2 := Lib.hid (show lsF (cdB cs) (fs.take (k + 1)) = f.fa by rw [HT.out]; simp [hm])
          have hm2 : f.fa ≤ m := by omega
          have hm3 : ¬ m ≤ f.fa := by omega
          have hm4 : ¬ m < f.fa := by omega
          go_wp2_with fail
          rw [← HW2.out]
          refine HK.out.mono ?_
          rintro e w3 ⟨rfl, f3⟩
          obtain ⟨-, -, -, -, -, g5⟩ := six_cellsP (f3.blk H2.out (fun h => h))
          have F3 := Lib.hid (F2.out.noTrans f3)
          clear f3
          go_wp2_with fail
          go_roundw
          case rel => exact ⟨k + 1, by omega, by go_num, by rw [HT2.out], F3⟩
          case measure => simp [intOf]; omega
        · have HT2 := Lib.hid (show lsF (cdB cs) (fs.take (k + 1)) = m by rw [HT.out]; simp [hm])
          have hm2 : m ≤ f.fa := by omega
          go_wp2_with fail
          rw [← HW2.out]
          refine HK.out.mono ?_
          rintro e w3 ⟨rfl, f3⟩
          obtain ⟨-, -, -, -, -, g5⟩ := six_cellsP (f3.blk H2.out (fun h => h))
          have F3 := Lib.hid (F2.out.noTrans f3)
          clear f3
          go_wp2_with fail
          go_roundw
          case rel => exact ⟨k + 1, by omega, by go_num, by rw [HT2.out], F3⟩
          case measure => simp [intOf]; omega
    · have HV := Lib.hid (lsF_all (cdB cs) fs k (by have := HFL.out; omega))
      go_wp2_with fail
      go_ret
      rw [← HV.out]
      exact ⟨rfl, F.out⟩
end Go.Proofs.Ytdenlinehjigaaa
