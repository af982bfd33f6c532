/- The document: Next, all ways. -/
import Derived.Test.YtpaoacdgmfaolaaNxR
namespace Go.Proofs.Ytpaoacdgmfaolaa
set_option linter.unusedVariables false
open Go.RowKit


theorem second_at (w : World) (A B : Obj) : ((w.alloc A).alloc B).heap[w.heap.size + 1]? = some B := by
  have := heap_alloc_new (w.alloc A) B
  simpa using this
set_option maxRecDepth 20000 in
set_option maxHeartbeats 16000000 in
theorem nextR_f (v f u : Int) (ca : Option Addr) (ck : Nat) (zs : List Int) (t : Int) (xa : Option Addr) (xn xc : Nat) (xs : List Int) (w : World) (hz : IntsIn w ca zs.length zs) (hl : zs.length ≤ 100) (hlc : zs.length ≤ ck) (hB : hlB v f u zs = false) :
    Calls Try.prog 29 #[.agg #[.int .i64 v, .int .i64 f, .int .i64 u, .slice ca zs.length ck], .int .i64 t, .slice xa xn xc] w fun e w' => NxRes w w' (nxV v f u zs t xs) (nxE v f u zs t xs) e := by
  obtain ⟨W, hW⟩ : ∃ W, W = (w.alloc (.cells #[.int .i64 v, .int .i64 f, .int .i64 u, .slice ca zs.length ck] 24 (0, 0))).alloc (.cells #[.int .i64 0, .int .i64 0, .int .i64 0, .slice none 0 0] 24 (0, 0)) := ⟨_, rfl⟩
  have hF : Fr no w W := by rw [hW]; exact ((Fr.refl no w).alloc _).alloc _
  have hA : W.heap[w.heap.size]? = some (.cells #[.int .i64 v, .int .i64 f, .int .i64 u, .slice ca zs.length ck] 24 (0, 0)) := by rw [hW]; exact alloc_keeps (heap_alloc_new w _) _
  have hR : W.heap[w.heap.size + 1]? = some (.cells #[.int .i64 0, .int .i64 0, .int .i64 0, .slice none 0 0] 24 (0, 0)) := by rw [hW]; simpa using heap_alloc_new (w.alloc (.cells #[.int .i64 v, .int .i64 f, .int .i64 u, .slice ca zs.length ck] 24 (0, 0))) (.cells #[.int .i64 0, .int .i64 0, .int .i64 0, .slice none 0 0] 24 (0, 0))
  obtain ⟨a0, a1, a2, a3⟩ := four_cells hA
  have HF := Lib.hid hF
  have HW := Lib.hid hW
  have HB := Lib.hid hR
  have HSZ := Lib.hid (show W.heap.size = w.heap.size + 2 by rw [hW]; simp)
  have KC := Lib.hid (show Calls Try.prog 17 #[.agg #[.int .i64 v, .int .i64 f, .int .i64 u, .slice ca zs.length ck]] W (fun e w' => e = .returned (.int .i64 1) ∧ Fr no W w') by
    have := checkR_any v f u ca ck zs W (hz.kept hF) hl hlc
    rwa [show hlE v f u zs = 1 by simp [hlE, hB]] at this)
  have HNE := Lib.hid (show nxE v f u zs t xs = 1 by simp [nxE, nxB, hB])
  have HNV := Lib.hid (show nxV v f u zs t xs = ⟨0, 0, 0, []⟩ by simp [nxV, nxB, hB])
  obtain ⟨ln, hln⟩ : ∃ ln, ln = zs.length := ⟨_, rfl⟩
  simp only [← hln] at KC ⊢
  rw [← hln] at HW a3
  clear hz hF hA hR hW hl hlc hln hB
  go_enter Try.func29, Try.ntmps29
  go_wp2_with fail
  rw [← HW.out]
  go_wp2_with fail
  refine KC.out.mono ?_
  rintro e w2 ⟨rfl, f2⟩
  have hr := f2.blk HB.out (fun h => h)
  have HF2 := Lib.hid (HF.out.noTrans f2)
  have HR2 := Lib.hid hr
  obtain ⟨y0, y1, y2, y3⟩ := four_cells hr
  obtain ⟨g0, g1, g2, g3⟩ := four_frz hr
  clear f2 hr a0 a1 a2 a3
  go_wp2_with fail
  obtain ⟨q0, q1, q2, q3⟩ := four_cells (set_four HR2.out (.int .i64 0) (.int .i64 0) (.int .i64 0) (.slice none 0 0))
  refine bodyPost_ret (v := .tuple #[.agg #[.int .i64 0, .int .i64 0, .int .i64 0, .slice none 0 0], .int .i64 1]) (by simp [results, Try.results29, go_sem, q0, q1, q2, q3]) rfl ?_
  rw [HNE.out, HNV.out]
  exact ⟨none, 0, rfl, World.ownsRow_nil _ _ _ _, set_four_fr HF2.out (by omega) _ _ _ _⟩

set_option maxRecDepth 20000 in
set_option maxHeartbeats 16000000 in
theorem nextR_0 (v f u : Int) (ca : Option Addr) (ck : Nat) (zs : List Int) (t : Int) (xa : Option Addr) (xc : Nat) (w : World) (hz : IntsIn w ca zs.length zs) (hl : zs.length ≤ 100) (hlc : zs.length ≤ ck) (hB : hlB v f u zs = true) :
    Calls Try.prog 29 #[.agg #[.int .i64 v, .int .i64 f, .int .i64 u, .slice ca zs.length ck], .int .i64 t, .slice xa 0 xc] w fun e w' => NxRes w w' (nxV v f u zs t []) (nxE v f u zs t []) e := by
  obtain ⟨W, hW⟩ : ∃ W, W = (w.alloc (.cells #[.int .i64 v, .int .i64 f, .int .i64 u, .slice ca zs.length ck] 24 (0, 0))).alloc (.cells #[.int .i64 0, .int .i64 0, .int .i64 0, .slice none 0 0] 24 (0, 0)) := ⟨_, rfl⟩
  have hF : Fr no w W := by rw [hW]; exact ((Fr.refl no w).alloc _).alloc _
  have hA : W.heap[w.heap.size]? = some (.cells #[.int .i64 v, .int .i64 f, .int .i64 u, .slice ca zs.length ck] 24 (0, 0)) := by rw [hW]; exact alloc_keeps (heap_alloc_new w _) _
  have hR : W.heap[w.heap.size + 1]? = some (.cells #[.int .i64 0, .int .i64 0, .int .i64 0, .slice none 0 0] 24 (0, 0)) := by rw [hW]; simpa using heap_alloc_new (w.alloc (.cells #[.int .i64 v, .int .i64 f, .int .i64 u, .slice ca zs.length ck] 24 (0, 0))) (.cells #[.int .i64 0, .int .i64 0, .int .i64 0, .slice none 0 0] 24 (0, 0))
  obtain ⟨a0, a1, a2, a3⟩ := four_cells hA
  have HF := Lib.hid hF
  have HW := Lib.hid hW
  have HB := Lib.hid hR
  have HSZ := Lib.hid (show W.heap.size = w.heap.size + 2 by rw [hW]; simp)
  have KC := Lib.hid (show Calls Try.prog 17 #[.agg #[.int .i64 v, .int .i64 f, .int .i64 u, .slice ca zs.length ck]] W (fun e w' => e = .returned (.int .i64 0) ∧ Fr no W w') by
    have := checkR_any v f u ca ck zs W (hz.kept hF) hl hlc
    rwa [show hlE v f u zs = 0 by simp [hlE, hB]] at this)
  have hch : ∀ a b c, hlB a b c [] = false := fun a b c => by
    have : chB [] = false := by decide
    unfold hlB
    rw [this]; simp
  have HNE := Lib.hid (show nxE v f u zs t [] = 1 by simp [nxE, nxB, hch])
  have HNV := Lib.hid (show nxV v f u zs t [] = ⟨0, 0, 0, []⟩ by simp [nxV, nxB, hch])
  have KD := Lib.hid (fun (n : Int) (g : Option Addr) (cap : Nat) y => show Calls Try.prog 17 #[.agg #[.int .i64 n, .int .i64 u, .int .i64 t, .slice g 0 cap]] y (fun e y' => e = .returned (.int .i64 1) ∧ Fr no y y') by
    have := checkR_any n u t g cap [] y ⟨rfl, fun i hi => by simp at hi⟩ (by simp) (by simp)
    rwa [show hlE n u t [] = 1 by simp [hlE, hch]] at this)
  obtain ⟨v0, v1, -, -, -, -⟩ := hlB_t hB
  obtain ⟨ln, hln⟩ : ∃ ln, ln = zs.length := ⟨_, rfl⟩
  have hw1 : IntKind.i64.wrap (v + 1) = v + 1 := IntWalk.i64_in _ (by omega)
  have hwt : Int.tmod (v + 1) 256 = (v + 1) % 256 := Int.tmod_eq_emod_of_nonneg (by omega)
  have hw2 : IntKind.i64.wrap ((v + 1) % 256) = (v + 1) % 256 := IntWalk.i64_in _ (by omega)
  simp only [← hln] at KC ⊢
  rw [← hln] at HW a3
  clear hz hF hA hR hW hl hlc hln hB hch v0 v1
  generalize (v + 1) % 256 = n at *
  go_enter Try.func29, Try.ntmps29
  go_wp2_with fail
  rw [← HW.out]
  go_wp2_with fail
  refine KC.out.mono ?_
  rintro e wp ⟨rfl, f1⟩
  have F1 := Lib.hid f1
  replace a0 := f1.keepc a0
  replace a2 := f1.keepc a2
  have HR1 := Lib.hid (f1.blk HB.out (fun h => h))
  have HSC := Lib.hid (show W.heap.size ≤ wp.heap.size from f1.size)
  clear f1 a1 a3 KC
  go_upto_region 3 with fail
  go_cut [8] (fun s8 wx => ∃ (c : Nat) (g : Option Addr) (cap : Nat), s8 = .pointer (some ⟨c, 0, none⟩) ∧ wx.heap[c]? = some (.cells #[.int .i64 n, .int .i64 u, .int .i64 t, .slice g 0 cap] 24 (0, 0)) ∧ Fr no wp wx ∧ wp.heap.size ≤ c)
  case first =>
    have n0 := World.new_ne wp _ a0
    have n2 := World.new_ne wp _ a2
    have d0 : w.heap.size < wp.heap.size := by have := HSC.out; have := HSZ.out; omega
    have d1 : w.heap.size ≠ wp.heap.size := by omega
    have d2 : wp.heap.size ≠ w.heap.size := by omega
    have d3 : w.heap.size ≠ wp.heap.size + 1 := by omega
    have d4 : wp.heap.size + 1 ≠ w.heap.size := by omega
    rcases xa with _ | ⟨xb, xo, xs⟩
    · go_region_held3 (fun w' => w'.cell? ⟨w.heap.size, 0, none⟩ = some (.int .i64 v) ∧ w'.cell? ⟨w.heap.size, 2, none⟩ = some (.int .i64 u)) (go_keep) (fail)
      all_goals go_wp2_with fail
      all_goals go_meet
      all_goals (first | exact ⟨_, _, _, rfl, second_at wp _ _, (((Fr.refl no wp).alloc _).alloc _).drew, by omega⟩ | exact ⟨_, _, _, rfl, alloc_keeps (heap_alloc_new wp _) _, (((Fr.refl no wp).alloc _).alloc _).drew, by omega⟩)
    · go_region_held3 (fun w' => w'.cell? ⟨w.heap.size, 0, none⟩ = some (.int .i64 v) ∧ w'.cell? ⟨w.heap.size, 2, none⟩ = some (.int .i64 u)) (go_keep) (fail)
      all_goals go_wp2_with fail
      all_goals go_meet
      all_goals (first | exact ⟨_, _, _, rfl, second_at wp _ _, (((Fr.refl no wp).alloc _).alloc _).drew, by omega⟩ | exact ⟨_, _, _, rfl, alloc_keeps (heap_alloc_new wp _) _, (((Fr.refl no wp).alloc _).alloc _).drew, by omega⟩)
  case rest =>
    obtain ⟨c, g, cap, rfl, hC, hf, hc⟩ := hcut
    have HF1 := Lib.hid (HF.out.noTrans (F1.out.noTrans hf))
    have HR2_ := Lib.hid (hf.blk HR1.out (fun h => h))
    have KD := Lib.hid (KD.out n g cap)
    obtain ⟨b0, b1, b2, b3⟩ := four_cells hC
    clear hC hf hc a0 a2
    go_wp2_with fail
    refine (KD.out _).mono ?_
    rintro e w2 ⟨rfl, f2⟩
    have hr := f2.blk HR2_.out (fun h => h)
    have HF2 := Lib.hid (HF1.out.noTrans f2)
    have HR2 := Lib.hid hr
    obtain ⟨y0, y1, y2, y3⟩ := four_cells hr
    obtain ⟨g0, g1, g2, g3⟩ := four_frz hr
    clear f2 hr b0 b1 b2 b3
    go_wp2_with fail
    obtain ⟨q0, q1, q2, q3⟩ := four_cells (set_four HR2.out (.int .i64 0) (.int .i64 0) (.int .i64 0) (.slice none 0 0))
    refine bodyPost_ret (v := .tuple #[.agg #[.int .i64 0, .int .i64 0, .int .i64 0, .slice none 0 0], .int .i64 1]) (by simp [results, Try.results29, go_sem, q0, q1, q2, q3]) rfl ?_
    rw [HNE.out, HNV.out]
    exact ⟨none, 0, rfl, World.ownsRow_nil _ _ _ _, set_four_fr HF2.out (by omega) _ _ _ _⟩
theorem nextR_any (v f u : Int) (ca : Option Addr) (ck : Nat) (zs : List Int) (t : Int) (xa : Option Addr) (xc : Nat) (xs : List Int) (w : World) (hz : IntsIn w ca zs.length zs) (hx : IntsIn w xa xs.length xs) (hl : zs.length ≤ 100) (hl2 : xs.length ≤ 100) (hlc : zs.length ≤ ck) :
    Calls Try.prog 29 #[.agg #[.int .i64 v, .int .i64 f, .int .i64 u, .slice ca zs.length ck], .int .i64 t, .slice xa xs.length xc] w fun e w' => NxRes w w' (nxV v f u zs t xs) (nxE v f u zs t xs) e := by
  cases hB : hlB v f u zs
  · exact nextR_f v f u ca ck zs t xa xs.length xc xs w hz hl hlc hB
  · by_cases h0 : xs.length = 0
    · have e : xs = [] := List.length_eq_zero_iff.1 h0
      subst e
      exact nextR_0 v f u ca ck zs t xa xc w hz hl hlc hB
    · obtain ⟨b, off, rfl, -⟩ := hx.2 0 (by omega)
      exact nextR_1 v f u ca ck zs t b off xc xs w hz hx hl hl2 hlc (by omega) hB

end Go.Proofs.Ytpaoacdgmfaolaa
