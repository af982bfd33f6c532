/- The chapter's examples. -/
import Derived.Test.YtljfdoabgbioiaaBtw
namespace Go.Proofs.Ytljfdoabgbioiaa
open Go.RowKit

def exP : List Pt := [⟨0, 50⟩, ⟨30, 50⟩]
def exZ : List Int := [90000, 90000]
def exW : List Wl := [⟨20, 40, 20, 60, 250⟩]
theorem ex_c1 : ckB 2 2 0 2 1 1000 exP exZ [] = true := by decide
theorem ex_c2 : ckB 2 2 1 4 1 1000 exP exZ exW = true := by decide
theorem ex_b1 : bwV (ckB 2 2 0 2 1 1000 exP exZ []) 2 2 exP exZ [] 0 1 = 10000 ∧ bwE (ckB 2 2 0 2 1 1000 exP exZ []) 2 0 1 = 0 := by decide
theorem ex_b2 : bwV (ckB 2 2 1 4 1 1000 exP exZ exW) 2 4 exP exZ exW 0 1 = 277 ∧ bwE (ckB 2 2 1 4 1 1000 exP exZ exW) 2 0 1 = 0 := by decide
theorem ex_sq : sqF 0 50 30 50 = 900 := by decide
theorem ex_cr : crB 0 50 30 50 20 40 20 60 = true := by decide
theorem pts_ex {w : World} {b : Nat} (h0 : w.cell? ⟨b, 0, none⟩ = some (.int .i64 0)) (h1 : w.cell? ⟨b, 1, none⟩ = some (.int .i64 50)) (h2 : w.cell? ⟨b, 2, none⟩ = some (.int .i64 30)) (h3 : w.cell? ⟨b, 3, none⟩ = some (.int .i64 50)) : PtsIn w (some ⟨b, 0, none⟩) 2 exP :=
  ⟨rfl, fun i hi => ⟨b, 0, rfl, by
    match i, hi with
    | 0, _ => exact ⟨h0, h1⟩
    | 1, _ => exact ⟨h2, h3⟩⟩⟩
theorem ints_ex {w : World} {b : Nat} (h0 : w.cell? ⟨b, 0, none⟩ = some (.int .i64 90000)) (h1 : w.cell? ⟨b, 1, none⟩ = some (.int .i64 90000)) : IntsIn w (some ⟨b, 0, none⟩) 2 exZ :=
  ⟨rfl, fun i hi => ⟨b, 0, rfl, by
    match i, hi with
    | 0, _ => exact h0
    | 1, _ => exact h1⟩⟩
theorem wls_ex {w : World} {b : Nat} (h0 : w.cell? ⟨b, 0, none⟩ = some (.int .i64 20)) (h1 : w.cell? ⟨b, 1, none⟩ = some (.int .i64 40)) (h2 : w.cell? ⟨b, 2, none⟩ = some (.int .i64 20)) (h3 : w.cell? ⟨b, 3, none⟩ = some (.int .i64 60)) (h4 : w.cell? ⟨b, 4, none⟩ = some (.int .i64 250)) : WlsIn w (some ⟨b, 0, none⟩) 1 exW :=
  ⟨rfl, fun i hi => ⟨b, 0, rfl, by
    match i, hi with
    | 0, _ => exact ⟨h0, h1, h2, h3, h4⟩⟩⟩
theorem six_cells {w : World} {B T : Nat} {a b c d e f : Value} (h : w.heap[B]? = some (.cells #[a, b, c, d, e, f] T (0, 0))) :
    (w.cell? ⟨B, 0, none⟩ = some a ∧ w.cell? ⟨B, 1, none⟩ = some b ∧ w.cell? ⟨B, 2, none⟩ = some c ∧ w.cell? ⟨B, 3, none⟩ = some d ∧ w.cell? ⟨B, 4, none⟩ = some e ∧ w.cell? ⟨B, 5, none⟩ = some f) ∧
    w.frozen? ⟨B, 0, none⟩ = false ∧ w.frozen? ⟨B, 1, none⟩ = false ∧ w.frozen? ⟨B, 2, none⟩ = false ∧ w.frozen? ⟨B, 3, none⟩ = false ∧ w.frozen? ⟨B, 4, none⟩ = false ∧ w.frozen? ⟨B, 5, none⟩ = false := by
  simp [World.cell?, World.frozen?, h]
theorem wls_nil (w : World) : WlsIn w none 0 [] := ⟨rfl, fun i hi => by omega⟩
set_option maxHeartbeats 8000000 in
theorem awake_any (w : World) : Calls Try.prog 11 #[] w fun e w' => e = .returned (.bool true) ∧ Fr no w w' := by
  have KS := Lib.hid (show ∀ w0 w' : World, Fr no w0 w' → w0.cell? ⟨w.heap.size, 0, none⟩ = some (.int .i64 0) → w0.cell? ⟨w.heap.size, 1, none⟩ = some (.int .i64 50) → w0.cell? ⟨w.heap.size, 2, none⟩ = some (.int .i64 30) → w0.cell? ⟨w.heap.size, 3, none⟩ = some (.int .i64 50) → w0.cell? ⟨w.heap.size + 1, 0, none⟩ = some (.int .i64 90000) → w0.cell? ⟨w.heap.size + 1, 1, none⟩ = some (.int .i64 90000) → w0.cell? ⟨w.heap.size + 1 + 1, 0, none⟩ = some (.slice (some ⟨w.heap.size, 0, none⟩) 2 2) → w0.frozen? ⟨w.heap.size + 1 + 1, 0, none⟩ = false → w0.cell? ⟨w.heap.size + 1 + 1, 1, none⟩ = some (.slice (some ⟨w.heap.size + 1, 0, none⟩) 2 2) → w0.frozen? ⟨w.heap.size + 1 + 1, 1, none⟩ = false → w0.cell? ⟨w.heap.size + 1 + 1, 2, none⟩ = some (.slice none 0 0) → w0.frozen? ⟨w.heap.size + 1 + 1, 2, none⟩ = false → w0.cell? ⟨w.heap.size + 1 + 1, 3, none⟩ = some (.int .i64 2) → w0.frozen? ⟨w.heap.size + 1 + 1, 3, none⟩ = false → w0.cell? ⟨w.heap.size + 1 + 1, 4, none⟩ = some (.int .i64 1) → w0.frozen? ⟨w.heap.size + 1 + 1, 4, none⟩ = false → w0.cell? ⟨w.heap.size + 1 + 1, 5, none⟩ = some (.int .i64 1000) → w0.frozen? ⟨w.heap.size + 1 + 1, 5, none⟩ = false → (w'.cell? ⟨w.heap.size, 0, none⟩ = some (.int .i64 0) ∧ w'.cell? ⟨w.heap.size, 1, none⟩ = some (.int .i64 50) ∧ w'.cell? ⟨w.heap.size, 2, none⟩ = some (.int .i64 30) ∧ w'.cell? ⟨w.heap.size, 3, none⟩ = some (.int .i64 50) ∧ w'.cell? ⟨w.heap.size + 1, 0, none⟩ = some (.int .i64 90000) ∧ w'.cell? ⟨w.heap.size + 1, 1, none⟩ = some (.int .i64 90000) ∧ w'.cell? ⟨w.heap.size + 1 + 1, 0, none⟩ = some (.slice (some ⟨w.heap.size, 0, none⟩) 2 2) ∧ w'.frozen? ⟨w.heap.size + 1 + 1, 0, none⟩ = false ∧ w'.cell? ⟨w.heap.size + 1 + 1, 1, none⟩ = some (.slice (some ⟨w.heap.size + 1, 0, none⟩) 2 2) ∧ w'.frozen? ⟨w.heap.size + 1 + 1, 1, none⟩ = false ∧ w'.cell? ⟨w.heap.size + 1 + 1, 2, none⟩ = some (.slice none 0 0) ∧ w'.frozen? ⟨w.heap.size + 1 + 1, 2, none⟩ = false ∧ w'.cell? ⟨w.heap.size + 1 + 1, 3, none⟩ = some (.int .i64 2) ∧ w'.frozen? ⟨w.heap.size + 1 + 1, 3, none⟩ = false ∧ w'.cell? ⟨w.heap.size + 1 + 1, 4, none⟩ = some (.int .i64 1) ∧ w'.frozen? ⟨w.heap.size + 1 + 1, 4, none⟩ = false ∧ w'.cell? ⟨w.heap.size + 1 + 1, 5, none⟩ = some (.int .i64 1000) ∧ w'.frozen? ⟨w.heap.size + 1 + 1, 5, none⟩ = false) from fun _ _ h a0 a1 a2 a3 a4 a5 a6 a7 a8 a9 a10 a11 a12 a13 a14 a15 a16 a17 => ⟨h.keepc a0, h.keepc a1, h.keepc a2, h.keepc a3, h.keepc a4, h.keepc a5, h.keepc a6, h.keepf a6 a7, h.keepc a8, h.keepf a8 a9, h.keepc a10, h.keepf a10 a11, h.keepc a12, h.keepf a12 a13, h.keepc a14, h.keepf a14 a15, h.keepc a16, h.keepf a16 a17⟩)
  obtain ⟨W, hW⟩ : ∃ W, W = (((w.alloc (.cells #[.int .i64 0, .int .i64 50, .int .i64 30, .int .i64 50] 23 (0, 0))).alloc (.cells #[.int .i64 90000, .int .i64 90000] 3 (0, 0))).alloc (.cells #[.slice (some ⟨w.heap.size, 0, none⟩) 2 2, .slice (some ⟨w.heap.size + 1, 0, none⟩) 2 2, .slice none 0 0, .int .i64 2, .int .i64 1, .int .i64 1000] 34 (0, 0))) := ⟨_, rfl⟩
  have HF := Lib.hid (show Fr no w W by rw [hW]; exact (((Fr.refl no w).alloc _).alloc _).alloc _)
  have c0 : W.cell? ⟨w.heap.size, 0, none⟩ = some (.int .i64 0) := by rw [hW]; go_simp
  have c1 : W.cell? ⟨w.heap.size, 1, none⟩ = some (.int .i64 50) := by rw [hW]; go_simp
  have c2 : W.cell? ⟨w.heap.size, 2, none⟩ = some (.int .i64 30) := by rw [hW]; go_simp
  have c3 : W.cell? ⟨w.heap.size, 3, none⟩ = some (.int .i64 50) := by rw [hW]; go_simp
  have c4 : W.cell? ⟨w.heap.size + 1, 0, none⟩ = some (.int .i64 90000) := by rw [hW]; go_simp
  have c5 : W.cell? ⟨w.heap.size + 1, 1, none⟩ = some (.int .i64 90000) := by rw [hW]; go_simp
  have c6 : W.cell? ⟨w.heap.size + 1 + 1, 0, none⟩ = some (.slice (some ⟨w.heap.size, 0, none⟩) 2 2) := by rw [hW]; go_simp
  have c7 : W.frozen? ⟨w.heap.size + 1 + 1, 0, none⟩ = false := by rw [hW]; go_simp
  have c8 : W.cell? ⟨w.heap.size + 1 + 1, 1, none⟩ = some (.slice (some ⟨w.heap.size + 1, 0, none⟩) 2 2) := by rw [hW]; go_simp
  have c9 : W.frozen? ⟨w.heap.size + 1 + 1, 1, none⟩ = false := by rw [hW]; go_simp
  have c10 : W.cell? ⟨w.heap.size + 1 + 1, 2, none⟩ = some (.slice none 0 0) := by rw [hW]; go_simp
  have c11 : W.frozen? ⟨w.heap.size + 1 + 1, 2, none⟩ = false := by rw [hW]; go_simp
  have c12 : W.cell? ⟨w.heap.size + 1 + 1, 3, none⟩ = some (.int .i64 2) := by rw [hW]; go_simp
  have c13 : W.frozen? ⟨w.heap.size + 1 + 1, 3, none⟩ = false := by rw [hW]; go_simp
  have c14 : W.cell? ⟨w.heap.size + 1 + 1, 4, none⟩ = some (.int .i64 1) := by rw [hW]; go_simp
  have c15 : W.frozen? ⟨w.heap.size + 1 + 1, 4, none⟩ = false := by rw [hW]; go_simp
  have c16 : W.cell? ⟨w.heap.size + 1 + 1, 5, none⟩ = some (.int .i64 1000) := by rw [hW]; go_simp
  have c17 : W.frozen? ⟨w.heap.size + 1 + 1, 5, none⟩ = false := by rw [hW]; go_simp
  have HW := Lib.hid hW
  clear hW
  have K1 := betweenW_any (some ⟨w.heap.size, 0, none⟩) 2 2 (some ⟨w.heap.size + 1, 0, none⟩) 2 2 none 0 0 2 1 1000 exP exZ [] 0 1 W (pts_ex c0 c1 c2 c3) (ints_ex c4 c5) (wls_nil W)
  rw [ex_b1.1, ex_b1.2] at K1
  have K1 := Lib.hid K1
  go_enter Try.func11, Try.ntmps11
  go_wp2_with fail
  rw [← HW.out]
  refine (K1.out).mono ?_
  rintro e y1 ⟨rfl, f1⟩
  have hbW : W.heap[w.heap.size + 1 + 1]? = some (.cells #[.slice (some ⟨w.heap.size, 0, none⟩) 2 2, .slice (some ⟨w.heap.size + 1, 0, none⟩) 2 2, .slice none 0 0, .int .i64 2, .int .i64 1, .int .i64 1000] 34 (0, 0)) := by rw [HW.out]; simpa using heap_alloc_new ((w.alloc (.cells #[.int .i64 0, .int .i64 50, .int .i64 30, .int .i64 50] 23 (0, 0))).alloc (.cells #[.int .i64 90000, .int .i64 90000] 3 (0, 0))) _
  have hb1 := f1.blk hbW (fun h => h)
  have HF1 := Lib.hid (HF.out.noTrans f1)
  have HF1r := Lib.hid f1
  obtain ⟨WA, hWA⟩ : ∃ WA, WA = (y1.setCell ⟨w.heap.size + 1 + 1, 3, none⟩ (.int .i64 4)).alloc (.cells #[.int .i64 20, .int .i64 40, .int .i64 20, .int .i64 60, .int .i64 250] 25 (0, 0)) := ⟨_, rfl⟩
  obtain ⟨WB, hWB⟩ : ∃ WB, WB = WA.setCell ⟨w.heap.size + 1 + 1, 2, none⟩ (.slice (some ⟨y1.heap.size, 0, none⟩) 1 1) := ⟨_, rfl⟩
  have hbA : WA.heap[w.heap.size + 1 + 1]? = some (.cells #[.slice (some ⟨w.heap.size, 0, none⟩) 2 2, .slice (some ⟨w.heap.size + 1, 0, none⟩) 2 2, .slice none 0 0, .int .i64 4, .int .i64 1, .int .i64 1000] 34 (0, 0)) := by rw [hWA]; exact alloc_keeps (by simpa using three_set hb1 3 (.int .i64 4)) _
  have hbB : WB.heap[w.heap.size + 1 + 1]? = some (.cells #[.slice (some ⟨w.heap.size, 0, none⟩) 2 2, .slice (some ⟨w.heap.size + 1, 0, none⟩) 2 2, .slice (some ⟨y1.heap.size, 0, none⟩) 1 1, .int .i64 4, .int .i64 1, .int .i64 1000] 34 (0, 0)) := by rw [hWB]; simpa using three_set hbA 2 (.slice (some ⟨y1.heap.size, 0, none⟩) 1 1)
  have hwA : WA.heap[y1.heap.size]? = some (.cells #[.int .i64 20, .int .i64 40, .int .i64 20, .int .i64 60, .int .i64 250] 25 (0, 0)) := by rw [hWA]; simpa using heap_alloc_new (y1.setCell ⟨w.heap.size + 1 + 1, 3, none⟩ (.int .i64 4)) _
  have hlt := lt_of_blk hb1
  have hwB : WB.heap[y1.heap.size]? = some (.cells #[.int .i64 20, .int .i64 40, .int .i64 20, .int .i64 60, .int .i64 250] 25 (0, 0)) := by rw [hWB]; exact other_set hwA _ (by omega)
  have hFB : Fr (only (w.heap.size + 1 + 1)) y1 WB := by rw [hWB, hWA]; exact (((Fr.refl (only (w.heap.size + 1 + 1)) y1).setCell (p := ⟨w.heap.size + 1 + 1, 3, none⟩) (.inl rfl) _).alloc _).setCell (p := ⟨w.heap.size + 1 + 1, 2, none⟩) (.inl rfl) _
  have HFB := Lib.hid hFB
  obtain ⟨⟨a0, a1, a2, a3, a4, a5⟩, g0, g1, g2, g3, g4, g5⟩ := six_cells hbA
  obtain ⟨⟨b0, b1, b2, b3, b4, b5⟩, -⟩ := six_cells hbB
  obtain ⟨x0, x1, x2, x3, x4⟩ := five_cells hwB
  have m0 := hFB.keepc0 (f1.keepc c0) (by simp only [only]; omega)
  have m1 := hFB.keepc0 (f1.keepc c1) (by simp only [only]; omega)
  have m2 := hFB.keepc0 (f1.keepc c2) (by simp only [only]; omega)
  have m3 := hFB.keepc0 (f1.keepc c3) (by simp only [only]; omega)
  have m4 := hFB.keepc0 (f1.keepc c4) (by simp only [only]; omega)
  have m5 := hFB.keepc0 (f1.keepc c5) (by simp only [only]; omega)
  obtain ⟨⟨e0, e1, e2, e3, e4, e5⟩, z0, z1, z2, z3, z4, z5⟩ := six_cells hb1
  have K2 := betweenW_any (some ⟨w.heap.size, 0, none⟩) 2 2 (some ⟨w.heap.size + 1, 0, none⟩) 2 2 (some ⟨y1.heap.size, 0, none⟩) 1 1 4 1 1000 exP exZ exW 0 1 WB (pts_ex m0 m1 m2 m3) (ints_ex m4 m5) (wls_ex x0 x1 x2 x3 x4)
  rw [ex_b2.1, ex_b2.2] at K2
  have K2 := Lib.hid K2
  rw [hWA] at a0 a1 a2 a3 a4 a5 g0 g1 g2 g3 g4 g5
  have HWA := Lib.hid hWA
  have HWB := Lib.hid (hWB.trans (by rw [hWA]))
  rw [HWB.out] at b0 b1 b2 b3 b4 b5
  clear f1 hbW hb1 hWA hWB hbA hbB hwA hwB hlt hFB c0 c1 c2 c3 c4 c5
  go_wp2_with fail
  rw [← HWB.out] at b0 b1 b2 b3 b4 b5 ⊢
  refine (K2.out).mono ?_
  rintro e y2 ⟨rfl, f2⟩
  have u0 := f2.keepc b0
  have u1 := f2.keepc b1
  have u2 := f2.keepc b2
  have u3 := f2.keepc b3
  have u4 := f2.keepc b4
  have u5 := f2.keepc b5
  have u6 := f2.keepc m0
  have u7 := f2.keepc m1
  have u8 := f2.keepc m2
  have u9 := f2.keepc m3
  have u10 := f2.keepc m4
  have u11 := f2.keepc m5
  have u12 := f2.keepc x0
  have u13 := f2.keepc x1
  have u14 := f2.keepc x2
  have u15 := f2.keepc x3
  have u16 := f2.keepc x4
  have HF2 := Lib.hid f2
  clear f2 b0 b1 b2 b3 b4 b5 m0 m1 m2 m3 m4 m5 x0 x1 x2 x3 x4 a0 a1 a2 a3 a4 a5 g0 g1 g2 g3 g4 g5 e0 e1 e2 e3 e4 e5 z0 z1 z2 z3 z4 z5
  have KS2 := Lib.hid (show ∀ w0 w' : World, Fr no w0 w' → w0.cell? ⟨w.heap.size + 1 + 1, 0, none⟩ = some (.slice (some ⟨w.heap.size, 0, none⟩) 2 2) → w0.cell? ⟨w.heap.size + 1 + 1, 1, none⟩ = some (.slice (some ⟨w.heap.size + 1, 0, none⟩) 2 2) → w0.cell? ⟨w.heap.size + 1 + 1, 2, none⟩ = some (.slice (some ⟨y1.heap.size, 0, none⟩) 1 1) → w0.cell? ⟨w.heap.size + 1 + 1, 3, none⟩ = some (.int .i64 4) → w0.cell? ⟨w.heap.size + 1 + 1, 4, none⟩ = some (.int .i64 1) → w0.cell? ⟨w.heap.size + 1 + 1, 5, none⟩ = some (.int .i64 1000) → w0.cell? ⟨w.heap.size, 0, none⟩ = some (.int .i64 0) → w0.cell? ⟨w.heap.size, 1, none⟩ = some (.int .i64 50) → w0.cell? ⟨w.heap.size, 2, none⟩ = some (.int .i64 30) → w0.cell? ⟨w.heap.size, 3, none⟩ = some (.int .i64 50) → w0.cell? ⟨w.heap.size + 1, 0, none⟩ = some (.int .i64 90000) → w0.cell? ⟨w.heap.size + 1, 1, none⟩ = some (.int .i64 90000) → w0.cell? ⟨y1.heap.size, 0, none⟩ = some (.int .i64 20) → w0.cell? ⟨y1.heap.size, 1, none⟩ = some (.int .i64 40) → w0.cell? ⟨y1.heap.size, 2, none⟩ = some (.int .i64 20) → w0.cell? ⟨y1.heap.size, 3, none⟩ = some (.int .i64 60) → w0.cell? ⟨y1.heap.size, 4, none⟩ = some (.int .i64 250) → (w'.cell? ⟨w.heap.size + 1 + 1, 0, none⟩ = some (.slice (some ⟨w.heap.size, 0, none⟩) 2 2) ∧ w'.cell? ⟨w.heap.size + 1 + 1, 1, none⟩ = some (.slice (some ⟨w.heap.size + 1, 0, none⟩) 2 2) ∧ w'.cell? ⟨w.heap.size + 1 + 1, 2, none⟩ = some (.slice (some ⟨y1.heap.size, 0, none⟩) 1 1) ∧ w'.cell? ⟨w.heap.size + 1 + 1, 3, none⟩ = some (.int .i64 4) ∧ w'.cell? ⟨w.heap.size + 1 + 1, 4, none⟩ = some (.int .i64 1) ∧ w'.cell? ⟨w.heap.size + 1 + 1, 5, none⟩ = some (.int .i64 1000) ∧ w'.cell? ⟨w.heap.size, 0, none⟩ = some (.int .i64 0) ∧ w'.cell? ⟨w.heap.size, 1, none⟩ = some (.int .i64 50) ∧ w'.cell? ⟨w.heap.size, 2, none⟩ = some (.int .i64 30) ∧ w'.cell? ⟨w.heap.size, 3, none⟩ = some (.int .i64 50) ∧ w'.cell? ⟨w.heap.size + 1, 0, none⟩ = some (.int .i64 90000) ∧ w'.cell? ⟨w.heap.size + 1, 1, none⟩ = some (.int .i64 90000) ∧ w'.cell? ⟨y1.heap.size, 0, none⟩ = some (.int .i64 20) ∧ w'.cell? ⟨y1.heap.size, 1, none⟩ = some (.int .i64 40) ∧ w'.cell? ⟨y1.heap.size, 2, none⟩ = some (.int .i64 20) ∧ w'.cell? ⟨y1.heap.size, 3, none⟩ = some (.int .i64 60) ∧ w'.cell? ⟨y1.heap.size, 4, none⟩ = some (.int .i64 250)) from fun _ _ h a0 a1 a2 a3 a4 a5 a6 a7 a8 a9 a10 a11 a12 a13 a14 a15 a16 => ⟨h.keepc a0, h.keepc a1, h.keepc a2, h.keepc a3, h.keepc a4, h.keepc a5, h.keepc a6, h.keepc a7, h.keepc a8, h.keepc a9, h.keepc a10, h.keepc a11, h.keepc a12, h.keepc a13, h.keepc a14, h.keepc a15, h.keepc a16⟩)
  have K3 := check_any (some ⟨w.heap.size, 0, none⟩) 2 2 (some ⟨w.heap.size + 1, 0, none⟩) 2 2 (some ⟨y1.heap.size, 0, none⟩) 1 1 4 1 1000 exP exZ exW y2.drew (pts_ex u6 u7 u8 u9) (ints_ex u10 u11) (wls_ex u12 u13 u14 u15 u16)
  rw [ex_c2] at K3
  have K3 := Lib.hid K3
  have K4 := fun w => square_any 0 50 30 50 w (by unfold nr; omega) (by unfold nr; omega) (by unfold nr; omega) (by unfold nr; omega)
  rw [ex_sq] at K4
  have K4 := Lib.hid K4
  have K5 := fun w => crosses_any 0 50 30 50 20 40 20 60 250 w (by unfold nr; omega) (by unfold nr; omega) (by unfold nr; omega) (by unfold nr; omega) (by unfold nr; omega) (by unfold nr; omega) (by unfold nr; omega) (by unfold nr; omega)
  rw [ex_cr] at K5
  have K5 := Lib.hid K5
  go_wp2_with fail
  have tokf3 : True := trivial
  have tokf4 : True := trivial
  have tokf5 : True := trivial
  go_region_held3 (fun w' => w'.cell? ⟨w.heap.size + 1 + 1, 0, none⟩ = some (.slice (some ⟨w.heap.size, 0, none⟩) 2 2) ∧ w'.cell? ⟨w.heap.size + 1 + 1, 1, none⟩ = some (.slice (some ⟨w.heap.size + 1, 0, none⟩) 2 2) ∧ w'.cell? ⟨w.heap.size + 1 + 1, 2, none⟩ = some (.slice (some ⟨y1.heap.size, 0, none⟩) 1 1) ∧ w'.cell? ⟨w.heap.size + 1 + 1, 3, none⟩ = some (.int .i64 4) ∧ w'.cell? ⟨w.heap.size + 1 + 1, 4, none⟩ = some (.int .i64 1) ∧ w'.cell? ⟨w.heap.size + 1 + 1, 5, none⟩ = some (.int .i64 1000) ∧ w'.cell? ⟨w.heap.size, 0, none⟩ = some (.int .i64 0) ∧ w'.cell? ⟨w.heap.size, 1, none⟩ = some (.int .i64 50) ∧ w'.cell? ⟨w.heap.size, 2, none⟩ = some (.int .i64 30) ∧ w'.cell? ⟨w.heap.size, 3, none⟩ = some (.int .i64 50) ∧ w'.cell? ⟨w.heap.size + 1, 0, none⟩ = some (.int .i64 90000) ∧ w'.cell? ⟨w.heap.size + 1, 1, none⟩ = some (.int .i64 90000) ∧ w'.cell? ⟨y1.heap.size, 0, none⟩ = some (.int .i64 20) ∧ w'.cell? ⟨y1.heap.size, 1, none⟩ = some (.int .i64 40) ∧ w'.cell? ⟨y1.heap.size, 2, none⟩ = some (.int .i64 20) ∧ w'.cell? ⟨y1.heap.size, 3, none⟩ = some (.int .i64 60) ∧ w'.cell? ⟨y1.heap.size, 4, none⟩ = some (.int .i64 250)) (go_keep)
    (first
      | (go_at_call 24; have _tk := tokf3; refine (K3.out).mono ?_; rintro e w3 ⟨rfl, f3⟩; clear _tk tokf3; obtain ⟨kf30, kf31, kf32, kf33, kf34, kf35, kf36, kf37, kf38, kf39, kf310, kf311, kf312, kf313, kf314, kf315, kf316⟩ := KS2.out _ _ f3 u0 u1 u2 u3 u4 u5 u6 u7 u8 u9 u10 u11 u12 u13 u14 u15 u16)
      | (go_at_call 13; have _tk := tokf4; refine (K4.out _).mono ?_; rintro e w4 ⟨rfl, f4⟩; clear _tk tokf4; obtain ⟨kf40, kf41, kf42, kf43, kf44, kf45, kf46, kf47, kf48, kf49, kf410, kf411, kf412, kf413, kf414, kf415, kf416⟩ := KS2.out _ _ f4 kf30 kf31 kf32 kf33 kf34 kf35 kf36 kf37 kf38 kf39 kf310 kf311 kf312 kf313 kf314 kf315 kf316)
      | (go_at_call 15; have _tk := tokf5; refine (K5.out _).mono ?_; rintro e w5 ⟨rfl, f5⟩; clear _tk tokf5; obtain ⟨kf50, kf51, kf52, kf53, kf54, kf55, kf56, kf57, kf58, kf59, kf510, kf511, kf512, kf513, kf514, kf515, kf516⟩ := KS2.out _ _ f5 kf40 kf41 kf42 kf43 kf44 kf45 kf46 kf47 kf48 kf49 kf410 kf411 kf412 kf413 kf414 kf415 kf416))
  have HF5 := Lib.hid (((HF2.out.drew.noTrans f3).noTrans f4).noTrans f5)
  clear f3 f4 f5
  go_wp2_with fail
  go_ret
  exact ⟨rfl, (HF1.out.trans HFB.out (fun i hi h => by simp only [only] at h; omega)).noTrans HF5.out⟩
end Go.Proofs.Ytljfdoabgbioiaa
