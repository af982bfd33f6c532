/- Adjust, Apart. -/
import Derived.Test.YtmkmefcafpgphaaWin
namespace Go.Proofs.Ytmkmefcafpgphaa
set_option linter.unusedVariables false
open Go.RowKit

/-- Adjust: whether the adjusted clock is valid. -/
def adB (o d b : Int) : Bool := okC o d && okC (o + b) d
def adO (o d b : Int) : Int := if adB o d b then o + b else 0
def adD (o d b : Int) : Int := if adB o d b then d else 0
def adE (o d b : Int) : Int := if adB o d b then 0 else 1
/-- The result's two cells are written. -/
theorem set_two {w : World} {B : Nat} {a b : Value} (h : w.heap[B]? = some (.cells #[a, b] 23 (0, 0))) (x y : Value) :
    ((w.setCell ⟨B, 0, none⟩ x).setCell ⟨B, 1, none⟩ y).heap[B]? = some (.cells #[x, y] 23 (0, 0)) := by
  have h1 := three_set h 0 x
  have h2 := three_set h1 1 y
  simpa using h2
set_option maxHeartbeats 2000000 in
theorem adjust_any (o d b : Int) (w : World) (b1 : -9223372036854775808 ≤ b) (b2 : b ≤ 9223372036854775807) : Calls Try.prog 68 #[.agg #[.int .i64 o, .int .i64 d], .int .i64 b] w fun e w' => e = .returned (.tuple #[.agg #[.int .i64 (adO o d b), .int .i64 (adD o d b)], .int .i64 (adE o d b)]) ∧ Fr no w w' := by
  obtain ⟨W, hW⟩ : ∃ W, W = (w.alloc (.cells #[.int .i64 o, .int .i64 d] 23 (0, 0))).alloc (.cells #[.int .i64 0, .int .i64 0] 23 (0, 0)) := ⟨_, rfl⟩
  have hF : Fr no w W := by rw [hW]; exact ((Fr.refl no w).alloc _).alloc _
  have h1 : W.heap[w.heap.size]? = some (.cells #[.int .i64 o, .int .i64 d] 23 (0, 0)) := by rw [hW]; exact alloc_keeps (heap_alloc_new w _) _
  have h2 : W.heap[w.heap.size + 1]? = some (.cells #[.int .i64 0, .int .i64 0] 23 (0, 0)) := by rw [hW]; simpa using heap_alloc_new (w.alloc (.cells #[.int .i64 o, .int .i64 d] 23 (0, 0))) (.cells #[.int .i64 0, .int .i64 0] 23 (0, 0))
  obtain ⟨c0, c1, q0, q1⟩ := two_cells h1
  have HB1 := Lib.hid h1
  have HB2 := Lib.hid h2
  have HW := Lib.hid hW
  have HF := Lib.hid hF
  clear hW hF h1 h2
  have HC := Lib.hid (check_any o d W)
  have HI := Lib.hid (fun w => within_any b (-1099511627776 - o) (1099511627776 - o) w)
  cases hk : okC o d
  · rw [erC_1 hk] at HC
    have HR := Lib.hid (show adO o d b = 0 ∧ adD o d b = 0 ∧ adE o d b = 1 by simp [adO, adD, adE, adB, hk])
    clear hk
    go_enter Try.func68, Try.ntmps68
    go_wp2_with fail
    rw [← HW.out]
    refine HC.out.mono ?_
    rintro e w1 ⟨rfl, f1⟩
    have hb2 := f1.blk HB2.out (fun h => h)
    have hb1 := f1.blk HB1.out (fun h => h)
    obtain ⟨k0, k1, g0, g1⟩ := two_cells hb2
    obtain ⟨d0, d1, e0, e1⟩ := two_cells hb1
    have HF1 := Lib.hid (HF.out.noTrans f1)
    have HS := Lib.hid (fun x y => two_cells (set_two hb2 x y))
    clear f1 hb2 hb1
    go_wp2_with fail
    obtain ⟨z0, z1, -, -⟩ := HS.out (.int .i64 0) (.int .i64 0)
    refine bodyPost_ret (v := .tuple #[.agg #[.int .i64 0, .int .i64 0], .int .i64 1]) (by simp [results, Try.results68, go_sem, z0, z1]) rfl ⟨?_, (HF1.out.setCell (p := ⟨w.heap.size + 1, 0, none⟩) (.inr (by simp)) _).setCell (p := ⟨w.heap.size + 1, 1, none⟩) (.inr (by simp)) _⟩
    rw [HR.out.1, HR.out.2.1, HR.out.2.2]
  · rw [erC_0 hk] at HC
    obtain ⟨o1, o2, d1', d2'⟩ := OkC.of hk
    cases hi : inR b (-1099511627776 - o) (1099511627776 - o)
    · rw [hi] at HI
      have HR := Lib.hid (show adO o d b = 0 ∧ adD o d b = 0 ∧ adE o d b = 1 by
        have : okC (o + b) d = false := by
          cases h : okC (o + b) d
          · rfl
          · obtain ⟨⟨x1, x2⟩, -⟩ := okC_t.1 h
            rw [inR_t.2 ⟨by omega, by omega⟩] at hi
            cases hi
        simp [adO, adD, adE, adB, hk, this])
      clear hk hi
      go_enter Try.func68, Try.ntmps68
      go_wp2_with fail
      rw [← HW.out]
      refine HC.out.mono ?_
      rintro e w1 ⟨rfl, f1⟩
      have hb2 := f1.blk HB2.out (fun h => h)
      have hb1 := f1.blk HB1.out (fun h => h)
      obtain ⟨k0, k1, g0, g1⟩ := two_cells hb2
      obtain ⟨d0, d1, e0, e1⟩ := two_cells hb1
      have HF1 := Lib.hid (HF.out.noTrans f1)
      have HS := Lib.hid (fun x y => two_cells (set_two hb2 x y))
      clear f1 hb2 hb1
      go_wp2_with fail
      refine (HI.out _).mono ?_
      rintro e w2 ⟨rfl, rfl⟩
      go_wp2_with fail
      obtain ⟨z0, z1, -, -⟩ := HS.out (.int .i64 0) (.int .i64 0)
      refine bodyPost_ret (v := .tuple #[.agg #[.int .i64 0, .int .i64 0], .int .i64 1]) (by simp [results, Try.results68, go_sem, z0, z1]) rfl ⟨?_, (HF1.out.setCell (p := ⟨w.heap.size + 1, 0, none⟩) (.inr (by simp)) _).setCell (p := ⟨w.heap.size + 1, 1, none⟩) (.inr (by simp)) _⟩
      rw [HR.out.1, HR.out.2.1, HR.out.2.2]
    · rw [hi] at HI
      obtain ⟨y1, y2⟩ := inR_t.1 hi
      have HR := Lib.hid (show adO o d b = o + b ∧ adD o d b = d ∧ adE o d b = 0 by
        have : okC (o + b) d = true := okC_t.2 ⟨⟨by omega, by omega⟩, d1', d2'⟩
        simp [adO, adD, adE, adB, hk, this])
      clear hk hi
      go_enter Try.func68, Try.ntmps68
      go_wp2_with fail
      rw [← HW.out]
      refine HC.out.mono ?_
      rintro e w1 ⟨rfl, f1⟩
      have hb2 := f1.blk HB2.out (fun h => h)
      have hb1 := f1.blk HB1.out (fun h => h)
      obtain ⟨k0, k1, g0, g1⟩ := two_cells hb2
      obtain ⟨d0, d1, e0, e1⟩ := two_cells hb1
      have HF1 := Lib.hid (HF.out.noTrans f1)
      have HS := Lib.hid (fun x y => two_cells (set_two hb2 x y))
      clear f1 hb2 hb1
      go_wp2_with fail
      refine (HI.out _).mono ?_
      rintro e w2 ⟨rfl, rfl⟩
      go_wp2_with fail
      obtain ⟨z0, z1, -, -⟩ := HS.out (.int .i64 (o + b)) (.int .i64 d)
      refine bodyPost_ret (v := .tuple #[.agg #[.int .i64 (o + b), .int .i64 d], .int .i64 0]) (by simp [results, Try.results68, go_sem, z0, z1]) rfl ⟨?_, (HF1.out.setCell (p := ⟨w.heap.size + 1, 0, none⟩) (.inr (by simp)) _).setCell (p := ⟨w.heap.size + 1, 1, none⟩) (.inr (by simp)) _⟩
      rw [HR.out.1, HR.out.2.1, HR.out.2.2]
set_option maxHeartbeats 2000000 in
theorem adjustR_any (o d b : Int) (w : World) (b1 : -9223372036854775808 ≤ b) (b2 : b ≤ 9223372036854775807) : Calls Try.prog 69 #[.agg #[.int .i64 o, .int .i64 d], .int .i64 b] w fun e w' => e = .returned (.tuple #[.agg #[.int .i64 (adO o d b), .int .i64 (adD o d b)], .int .i64 (adE o d b)]) ∧ Fr no w w' := by
  obtain ⟨W, hW⟩ : ∃ W, W = (w.alloc (.cells #[.int .i64 o, .int .i64 d] 23 (0, 0))).alloc (.cells #[.int .i64 0, .int .i64 0] 23 (0, 0)) := ⟨_, rfl⟩
  have hF : Fr no w W := by rw [hW]; exact ((Fr.refl no w).alloc _).alloc _
  have h1 : W.heap[w.heap.size]? = some (.cells #[.int .i64 o, .int .i64 d] 23 (0, 0)) := by rw [hW]; exact alloc_keeps (heap_alloc_new w _) _
  have h2 : W.heap[w.heap.size + 1]? = some (.cells #[.int .i64 0, .int .i64 0] 23 (0, 0)) := by rw [hW]; simpa using heap_alloc_new (w.alloc (.cells #[.int .i64 o, .int .i64 d] 23 (0, 0))) (.cells #[.int .i64 0, .int .i64 0] 23 (0, 0))
  obtain ⟨c0, c1, q0, q1⟩ := two_cells h1
  have HB1 := Lib.hid h1
  have HB2 := Lib.hid h2
  have HW := Lib.hid hW
  have HF := Lib.hid hF
  clear hW hF h1 h2
  have HC := Lib.hid (checkR_any o d W)
  cases hk : okC o d
  · rw [erC_1 hk] at HC
    have HR := Lib.hid (show adO o d b = 0 ∧ adD o d b = 0 ∧ adE o d b = 1 by simp [adO, adD, adE, adB, hk])
    clear hk
    go_enter Try.func69, Try.ntmps69
    go_wp2_with fail
    rw [← HW.out]
    refine HC.out.mono ?_
    rintro e w1 ⟨rfl, f1⟩
    have hb2 := f1.blk HB2.out (fun h => h)
    have hb1 := f1.blk HB1.out (fun h => h)
    obtain ⟨k0, k1, g0, g1⟩ := two_cells hb2
    obtain ⟨d0, d1, e0, e1⟩ := two_cells hb1
    have HF1 := Lib.hid (HF.out.noTrans f1)
    have HS := Lib.hid (fun x y => two_cells (set_two hb2 x y))
    clear f1 hb2 hb1
    go_wp2_with fail
    obtain ⟨z0, z1, -, -⟩ := HS.out (.int .i64 0) (.int .i64 0)
    refine bodyPost_ret (v := .tuple #[.agg #[.int .i64 0, .int .i64 0], .int .i64 1]) (by simp [results, Try.results69, go_sem, z0, z1]) rfl ⟨?_, (HF1.out.setCell (p := ⟨w.heap.size + 1, 0, none⟩) (.inr (by simp)) _).setCell (p := ⟨w.heap.size + 1, 1, none⟩) (.inr (by simp)) _⟩
    rw [HR.out.1, HR.out.2.1, HR.out.2.2]
  · rw [erC_0 hk] at HC
    obtain ⟨o1, o2, d1', d2'⟩ := OkC.of hk
    by_cases hl : b < -2199023255552
    · have HR := Lib.hid (show adO o d b = 0 ∧ adD o d b = 0 ∧ adE o d b = 1 by
        have : okC (o + b) d = false := by simp [okC, inR]; omega
        simp [adO, adD, adE, adB, hk, this])
      clear hk
      go_enter Try.func69, Try.ntmps69
      go_wp2_with fail
      rw [← HW.out]
      refine HC.out.mono ?_
      rintro e w1 ⟨rfl, f1⟩
      have hb2 := f1.blk HB2.out (fun h => h)
      have hb1 := f1.blk HB1.out (fun h => h)
      obtain ⟨k0, k1, g0, g1⟩ := two_cells hb2
      obtain ⟨d0, d1, e0, e1⟩ := two_cells hb1
      have HF1 := Lib.hid (HF.out.noTrans f1)
      have HS := Lib.hid (fun x y => two_cells (set_two hb2 x y))
      clear f1 hb2 hb1
      go_wp2_with fail
      obtain ⟨z0, z1, -, -⟩ := HS.out (.int .i64 0) (.int .i64 0)
      refine bodyPost_ret (v := .tuple #[.agg #[.int .i64 0, .int .i64 0], .int .i64 1]) (by simp [results, Try.results69, go_sem, z0, z1]) rfl ⟨?_, (HF1.out.setCell (p := ⟨w.heap.size + 1, 0, none⟩) (.inr (by simp)) _).setCell (p := ⟨w.heap.size + 1, 1, none⟩) (.inr (by simp)) _⟩
      rw [HR.out.1, HR.out.2.1, HR.out.2.2]
    by_cases hl2 : 2199023255552 < b
    · have HR := Lib.hid (show adO o d b = 0 ∧ adD o d b = 0 ∧ adE o d b = 1 by
        have : okC (o + b) d = false := by simp [okC, inR]; omega
        simp [adO, adD, adE, adB, hk, this])
      have hl3 : ¬ b < -2199023255552 := hl
      clear hk
      go_enter Try.func69, Try.ntmps69
      go_wp2_with fail
      rw [← HW.out]
      refine HC.out.mono ?_
      rintro e w1 ⟨rfl, f1⟩
      have hb2 := f1.blk HB2.out (fun h => h)
      have hb1 := f1.blk HB1.out (fun h => h)
      obtain ⟨k0, k1, g0, g1⟩ := two_cells hb2
      obtain ⟨d0, d1, e0, e1⟩ := two_cells hb1
      have HF1 := Lib.hid (HF.out.noTrans f1)
      have HS := Lib.hid (fun x y => two_cells (set_two hb2 x y))
      clear f1 hb2 hb1
      go_wp2_with fail
      obtain ⟨z0, z1, -, -⟩ := HS.out (.int .i64 0) (.int .i64 0)
      refine bodyPost_ret (v := .tuple #[.agg #[.int .i64 0, .int .i64 0], .int .i64 1]) (by simp [results, Try.results69, go_sem, z0, z1]) rfl ⟨?_, (HF1.out.setCell (p := ⟨w.heap.size + 1, 0, none⟩) (.inr (by simp)) _).setCell (p := ⟨w.heap.size + 1, 1, none⟩) (.inr (by simp)) _⟩
      rw [HR.out.1, HR.out.2.1, HR.out.2.2]
    have l1 : -2199023255552 ≤ b := by omega
    have l2 : b ≤ 2199023255552 := by omega
    clear hl hl2
    have HC2 := Lib.hid (fun w => checkR_any (o + b) d w)
    cases hi : okC (o + b) d
    · rw [erC_1 hi] at HC2
      have HR := Lib.hid (show adO o d b = 0 ∧ adD o d b = 0 ∧ adE o d b = 1 by simp [adO, adD, adE, adB, hk, hi])
      clear hk hi
      go_enter Try.func69, Try.ntmps69
      go_wp2_with fail
      rw [← HW.out]
      refine HC.out.mono ?_
      rintro e w1 ⟨rfl, f1⟩
      have hb2 := f1.blk HB2.out (fun h => h)
      have hb1 := f1.blk HB1.out (fun h => h)
      obtain ⟨k0, k1, g0, g1⟩ := two_cells hb2
      obtain ⟨d0, d1, e0, e1⟩ := two_cells hb1
      have HF1 := Lib.hid (HF.out.noTrans f1)
      have HA := Lib.hid (show (w1.setCell ⟨w.heap.size, 0, none⟩ (.int .i64 (o + b))).heap[w.heap.size]? = some (.cells #[.int .i64 (o + b), .int .i64 d] 23 (0, 0)) by simpa using three_set hb1 0 (.int .i64 (o + b)))
      have HB := Lib.hid (show (w1.setCell ⟨w.heap.size, 0, none⟩ (.int .i64 (o + b))).heap[w.heap.size + 1]? = some (.cells #[.int .i64 0, .int .i64 0] 23 (0, 0)) from other_set hb2 _ (by omega))
      clear f1 hb2 hb1
      go_wp2_with fail
      obtain ⟨W2, hW2⟩ : ∃ W2, W2 = w1.setCell ⟨w.heap.size, 0, none⟩ (.int .i64 (o + b)) := ⟨_, rfl⟩
      have HF2 := Lib.hid (show Fr no w W2 by rw [hW2]; exact HF1.out.setCell (p := ⟨w.heap.size, 0, none⟩) (.inr (by simp)) _)
      rw [← hW2] at HA HB ⊢
      clear hW2
      refine (HC2.out _).mono ?_
      rintro e w2 ⟨rfl, f2⟩
      have hb2 := f2.blk HB.out (fun h => h)
      have hb1 := f2.blk HA.out (fun h => h)
      obtain ⟨k0, k1, g0, g1⟩ := two_cells hb2
      obtain ⟨d0, d1, e0, e1⟩ := two_cells hb1
      have HF3 := Lib.hid (HF2.out.noTrans f2)
      have HS := Lib.hid (fun x y => two_cells (set_two hb2 x y))
      clear f2 hb2 hb1
      go_wp2_with fail
      obtain ⟨z0, z1, -, -⟩ := HS.out (.int .i64 0) (.int .i64 0)
      refine bodyPost_ret (v := .tuple #[.agg #[.int .i64 0, .int .i64 0], .int .i64 1]) (by simp [results, Try.results69, go_sem, z0, z1]) rfl ⟨?_, (HF3.out.setCell (p := ⟨w.heap.size + 1, 0, none⟩) (.inr (by simp)) _).setCell (p := ⟨w.heap.size + 1, 1, none⟩) (.inr (by simp)) _⟩
      rw [HR.out.1, HR.out.2.1, HR.out.2.2]
    · rw [erC_0 hi] at HC2
      have HR := Lib.hid (show adO o d b = o + b ∧ adD o d b = d ∧ adE o d b = 0 by simp [adO, adD, adE, adB, hk, hi])
      clear hk hi
      go_enter Try.func69, Try.ntmps69
      go_wp2_with fail
      rw [← HW.out]
      refine HC.out.mono ?_
      rintro e w1 ⟨rfl, f1⟩
      have hb2 := f1.blk HB2.out (fun h => h)
      have hb1 := f1.blk HB1.out (fun h => h)
      obtain ⟨k0, k1, g0, g1⟩ := two_cells hb2
      obtain ⟨d0, d1, e0, e1⟩ := two_cells hb1
      have HF1 := Lib.hid (HF.out.noTrans f1)
      have HA := Lib.hid (show (w1.setCell ⟨w.heap.size, 0, none⟩ (.int .i64 (o + b))).heap[w.heap.size]? = some (.cells #[.int .i64 (o + b), .int .i64 d] 23 (0, 0)) by simpa using three_set hb1 0 (.int .i64 (o + b)))
      have HB := Lib.hid (show (w1.setCell ⟨w.heap.size, 0, none⟩ (.int .i64 (o + b))).heap[w.heap.size + 1]? = some (.cells #[.int .i64 0, .int .i64 0] 23 (0, 0)) from other_set hb2 _ (by omega))
      clear f1 hb2 hb1
      go_wp2_with fail
      obtain ⟨W2, hW2⟩ : ∃ W2, W2 = w1.setCell ⟨w.heap.size, 0, none⟩ (.int .i64 (o + b)) := ⟨_, rfl⟩
      have HF2 := Lib.hid (show Fr no w W2 by rw [hW2]; exact HF1.out.setCell (p := ⟨w.heap.size, 0, none⟩) (.inr (by simp)) _)
      rw [← hW2] at HA HB ⊢
      clear hW2
      refine (HC2.out _).mono ?_
      rintro e w2 ⟨rfl, f2⟩
      have hb2 := f2.blk HB.out (fun h => h)
      have hb1 := f2.blk HA.out (fun h => h)
      obtain ⟨k0, k1, g0, g1⟩ := two_cells hb2
      obtain ⟨d0, d1, e0, e1⟩ := two_cells hb1
      have HF3 := Lib.hid (HF2.out.noTrans f2)
      have HS := Lib.hid (fun x y => two_cells (set_two hb2 x y))
      clear f2 hb2 hb1
      go_wp2_with fail
      obtain ⟨z0, z1, -, -⟩ := HS.out (.int .i64 (o + b)) (.int .i64 d)
      refine bodyPost_ret (v := .tuple #[.agg #[.int .i64 (o + b), .int .i64 d], .int .i64 0]) (by simp [results, Try.results69, go_sem, z0, z1]) rfl ⟨?_, (HF3.out.setCell (p := ⟨w.heap.size + 1, 0, none⟩) (.inr (by simp)) _).setCell (p := ⟨w.heap.size + 1, 1, none⟩) (.inr (by simp)) _⟩
      rw [HR.out.1, HR.out.2.1, HR.out.2.2]
end Go.Proofs.Ytmkmefcafpgphaa
