/- Time and Room. -/
import Derived.Test.YtelpdihaonoedaaEnc
namespace Go.Proofs.Ytelpdihaonoedaa
open Go.RowKit
set_option linter.unusedVariables false
set_option maxRecDepth 20000

theorem sizeOf_any (x : Frm) (w : World) (hd : x.d.size ≤ 1000000) :
    Calls Try.prog 42 #[.agg (frA x)] w fun e w' => e = .returned (.tuple #[.int .i64 ((enV x).size : Int), .int .i64 (enE x)]) ∧ Fr no w w' := by
  have HE := Lib.hid (fun w => encode_any x w hd)
  have HF := Lib.hid (Fr.refl no w)
  generalize enV x = V at *
  generalize enE x = E at *
  obtain ⟨k, s, t, l, q, f, n, e, sl, r, ep, d⟩ := x
  simp only [frA] at HE ⊢
  go_enter Try.func42, Try.ntmps42
  go_wp2_with fail
  refine (HE.out _).mono ?_
  rintro e1 w1 ⟨rfl, f1⟩
  have HF1 := Lib.hid ((HF.out.alloc _).noTrans f1)
  clear f1
  go_wp2_with fail
  go_ret2
  exact ⟨rfl, HF1.out⟩
def tmV (x : Frm) : Int := if enE x = 0 then (if x.k = 2 then 832 else 32 * (((enV x).size : Int) + 6)) else 0
theorem time_any (x : Frm) (w : World) (hd : x.d.size ≤ 1000000) (hv : (enV x).size ≤ 127) :
    Calls Try.prog 14 #[.agg (frA x)] w fun e w' => e = .returned (.tuple #[.int .i64 (tmV x), .int .i64 (enE x)]) ∧ Fr no w w' := by
  have HE := Lib.hid (fun w => sizeOf_any x w hd)
  have HF := Lib.hid (Fr.refl no w)
  have HT := Lib.hid (show tmV x = if enE x = 0 then (if x.k = 2 then 832 else 32 * (((enV x).size : Int) + 6)) else 0 from rfl)
  have hv1 : ((enV x).size : Int) ≤ 127 := by omega
  have hv0 : (0 : Int) ≤ ((enV x).size : Int) := by omega
  clear hv hd
  generalize ((enV x).size : Int) = V at *
  generalize enE x = E at *
  generalize tmV x = R at *
  obtain ⟨k, s, t, l, q, f, n, e, sl, r, ep, d⟩ := x
  simp only at HT
  simp only [frA] at HE ⊢
  by_cases h0 : E = 0
  · subst h0
    by_cases h2 : k = 2
    · subst h2
      have HR := Lib.hid (show R = 832 by rw [HT.out]; rfl)
      clear HT
      go_enter Try.func14, Try.ntmps14
      go_wp2_with fail
      refine (HE.out _).mono ?_
      rintro e1 w1 ⟨rfl, f1⟩
      have HF1 := Lib.hid ((HF.out.alloc _).noTrans f1)
      have HC := Lib.hid (f1.blk (heap_alloc_new w (.cells #[.int .i64 2, .int .i64 s, .int .i64 t, .int .i64 l, .int .i64 q, .int .i64 f, .int .i64 n, .int .i64 e, .int .i64 sl, .int .i64 r, .int .i64 ep, .string d] 23 (0, 0))) (fun h => h))
      obtain ⟨c0, c1, c2, c3, c4, c5, c6, c7, c8, c9, c10, c11⟩ := twelve_cells HC.out
      clear f1 c1 c2 c3 c4 c5 c6 c7 c8 c9 c10 c11
      go_wp2_with fail
      go_ret2
      rw [HR.out]
      exact ⟨rfl, HF1.out⟩
    · have HR := Lib.hid (show R = 32 * (V + 6) by rw [HT.out, if_pos rfl, if_neg h2])
      have h3 : (k == 2) = false := by simpa using h2
      clear HT h2
      go_enter Try.func14, Try.ntmps14
      go_wp2_with fail
      refine (HE.out _).mono ?_
      rintro e1 w1 ⟨rfl, f1⟩
      have HF1 := Lib.hid ((HF.out.alloc _).noTrans f1)
      have HC := Lib.hid (f1.blk (heap_alloc_new w (.cells #[.int .i64 k, .int .i64 s, .int .i64 t, .int .i64 l, .int .i64 q, .int .i64 f, .int .i64 n, .int .i64 e, .int .i64 sl, .int .i64 r, .int .i64 ep, .string d] 23 (0, 0))) (fun h => h))
      obtain ⟨c0, c1, c2, c3, c4, c5, c6, c7, c8, c9, c10, c11⟩ := twelve_cells HC.out
      clear f1 c1 c2 c3 c4 c5 c6 c7 c8 c9 c10 c11
      go_wp2_with fail
      go_ret2
      rw [HR.out]
      exact ⟨rfl, HF1.out⟩
  · have HR := Lib.hid (show R = 0 by rw [HT.out, if_neg h0])
    have h1 : (E != 0) = true := by simp [h0]
    clear HT h0
    go_enter Try.func14, Try.ntmps14
    go_wp2_with fail
    refine (HE.out _).mono ?_
    rintro e1 w1 ⟨rfl, f1⟩
    have HF1 := Lib.hid ((HF.out.alloc _).noTrans f1)
    clear f1
    go_wp2_with fail
    go_ret2
    rw [HR.out]
    exact ⟨rfl, HF1.out⟩
def rmV (x : Frm) : Int := if x.k = 2 then 0 else if enE x = 0 then 127 - ((enV x).size : Int) else 0
def rmE (x : Frm) : Int := if x.k = 2 then 1 else enE x
theorem room_any' (x : Frm) (w : World) (hd : x.d.size ≤ 1000000) (hv : (enV x).size ≤ 127) :
    Calls Try.prog 16 #[.agg (frA x)] w fun e w' => e = .returned (.tuple #[.int .i64 (rmV x), .int .i64 (rmE x)]) ∧ Fr no w w' := by
  have HE := Lib.hid (fun w => sizeOf_any x w hd)
  have HF := Lib.hid (Fr.refl no w)
  have HT := Lib.hid (show rmV x = if x.k = 2 then 0 else if enE x = 0 then 127 - ((enV x).size : Int) else 0 from rfl)
  have HU := Lib.hid (show rmE x = if x.k = 2 then 1 else enE x from rfl)
  have hv1 : ((enV x).size : Int) ≤ 127 := by omega
  have hv0 : (0 : Int) ≤ ((enV x).size : Int) := by omega
  clear hv hd
  generalize ((enV x).size : Int) = V at *
  generalize enE x = E at *
  generalize rmV x = R at *
  generalize rmE x = RE at *
  obtain ⟨k, s, t, l, q, f, n, e, sl, r, ep, d⟩ := x
  simp only at HT HU
  simp only [frA] at HE ⊢
  by_cases h2 : k = 2
  · subst h2
    have HR := Lib.hid (show R = 0 ∧ RE = 1 from ⟨by rw [HT.out]; rfl, by rw [HU.out]; rfl⟩)
    clear HT HU HE
    go_enter Try.func16, Try.ntmps16
    go_wp2_with fail
    go_ret2
    rw [HR.out.1, HR.out.2]
    exact ⟨rfl, HF.out.alloc _⟩
  · have h3 : (k == 2) = false := by simpa using h2
    by_cases h0 : E = 0
    · subst h0
      have HR := Lib.hid (show R = 127 - V ∧ RE = 0 from ⟨by rw [HT.out, if_neg h2, if_pos rfl], by rw [HU.out, if_neg h2]⟩)
      clear HT HU h2
      go_enter Try.func16, Try.ntmps16
      go_wp2_with fail
      refine (HE.out _).mono ?_
      rintro e1 w1 ⟨rfl, f1⟩
      have HF1 := Lib.hid ((HF.out.alloc _).noTrans f1)
      clear f1
      go_wp2_with fail
      go_ret2
      rw [HR.out.1, HR.out.2]
      exact ⟨rfl, HF1.out⟩
    · have HR := Lib.hid (show R = 0 ∧ RE = E from ⟨by rw [HT.out, if_neg h2, if_neg h0], by rw [HU.out, if_neg h2]⟩)
      have h1 : (E != 0) = true := by simp [h0]
      clear HT HU h2 h0
      go_enter Try.func16, Try.ntmps16
      go_wp2_with fail
      refine (HE.out _).mono ?_
      rintro e1 w1 ⟨rfl, f1⟩
      have HF1 := Lib.hid ((HF.out.alloc _).noTrans f1)
      clear f1
      go_wp2_with fail
      go_ret2
      rw [HR.out.1, HR.out.2]
      exact ⟨rfl, HF1.out⟩
theorem enV_small (x : Frm) : (enV x).size ≤ 127 := by
  unfold enV
  split
  · split
    · split
      · assumption
      · decide
    · decide
  · decide
end Go.Proofs.Ytelpdihaonoedaa
