/- The document: Next. -/
import Derived.Test.YtpaoacdgmfaolaaNxt
import Derived.Test.YtpaoacdgmfaolaaChT
import Derived.Deep.RegionHeld3
import Derived.Deep.RegionWith
import Derived.Deep.DeepCutAuto
import Derived.Deep.AppendLies
namespace Go.Proofs.Ytpaoacdgmfaolaa
set_option linter.unusedVariables false
open Go.RowKit


theorem rowI_oth {B g c n cap : Nat} {w w' : World} {l : List Int} (h : RowI B w (.slice (some ⟨g, 0, none⟩) n cap) l) (hf : Fr (only c) w w') (hg : g ≠ c) : RowI B w' (.slice (some ⟨g, 0, none⟩) n cap) l := by
  have h' : World.ownsRow w B 3 1 (.slice (some ⟨g, 0, none⟩) n cap) l.length (Ints l) := h
  rcases h'.2 with ⟨e, h0⟩ | ⟨g', cap', cur, e, hq1, hq2, hq3, hq4, hq5⟩
  · cases e
  · cases e
    refine ⟨h'.1, .inr ⟨_, _, cur, rfl, hq1, ?_, hq3, hq4, hq5⟩⟩
    exact hf.blk hq2 hg
theorem row_of_app {B : Nat} {w : World} {g n cap : Nat} {l : List Int} (hl : n = l.length) (h : World.ownsRow w B 3 1 (.slice (some ⟨g, 0, none⟩) n cap) n (Ints l)) : RowI B w (.slice (some ⟨g, 0, none⟩) n cap) l := by
  subst hl; exact h
set_option maxRecDepth 20000 in
set_option maxHeartbeats 16000000 in
theorem nextR_1 (v f u : Int) (ca : Option Addr) (ck : Nat) (zs : List Int) (t : Int) (xb xo : Nat) (xc : Nat) (xs : List Int) (w : World) (hz : IntsIn w ca zs.length zs) (hx : IntsIn w (some ⟨xb, xo, none⟩) xs.length xs) (hl : zs.length ≤ 100) (hl2 : xs.length ≤ 100) (hlc : zs.length ≤ ck) (hx1 : 0 < xs.length) (hB : hlB v f u zs = true) :
    Calls Try.prog 29 #[.agg #[.int .i64 v, .int .i64 f, .int .i64 u, .slice ca zs.length ck], .int .i64 t, .slice (some ⟨xb, xo, none⟩) xs.length xc] w fun e w' => NxRes w w' (nxV v f u zs t xs) (nxE v f u zs t xs) e := by
  obtain ⟨W, hW⟩ : ∃ W, W = (w.alloc (.cells #[.int .i64 v, .int .i64 f, .int .i64 u, .slice ca zs.length ck] 24 (0, 0))).alloc (.cells #[.int .i64 0, .int .i64 0, .int .i64 0, .slice none 0 0] 24 (0, 0)) := ⟨_, rfl⟩
  have hF : Fr no w W := by rw [hW]; exact ((Fr.refl no w).alloc _).alloc _
  have hA : W.heap[w.heap.size]? = some (.cells #[.int .i64 v, .int .i64 f, .int .i64 u, .slice ca zs.length ck] 24 (0, 0)) := by rw [hW]; exact alloc_keeps (heap_alloc_new w _) _
  have hR : W.heap[w.heap.size + 1]? = some (.cells #[.int .i64 0, .int .i64 0, .int .i64 0, .slice none 0 0] 24 (0, 0)) := by rw [hW]; simpa using heap_alloc_new (w.alloc (.cells #[.int .i64 v, .int .i64 f, .int .i64 u, .slice ca zs.length ck] 24 (0, 0))) (.cells #[.int .i64 0, .int .i64 0, .int .i64 0, .slice none 0 0] 24 (0, 0))
  obtain ⟨a0, a1, a2, a3⟩ := four_cells hA
  have HF := Lib.hid hF
  have HW := Lib.hid hW
  have HA := Lib.hid hA
  have HB := Lib.hid hR
  have HSZ := Lib.hid (show W.heap.size = w.heap.size + 2 by rw [hW]; simp)
  have HX := Lib.hid (hx.kept hF)
  have HXN := Lib.hid hl2
  obtain ⟨v0, v1, -, -, -, -⟩ := hlB_t hB
  have KC := Lib.hid (show Calls Try.prog 17 #[.agg #[.int .i64 v, .int .i64 f, .int .i64 u, .slice ca zs.length ck]] W (fun e w' => e = .returned (.int .i64 0) ∧ Fr no W w') by
    have := checkR_any v f u ca ck zs W (hz.kept hF) hl hlc
    rwa [show hlE v f u zs = 0 by simp [hlE, hB]] at this)
  have HNB := Lib.hid (show nxB v f u zs t xs = hlB ((v + 1) % 256) u t xs by simp [nxB, hB])
  have HNE := Lib.hid (show nxE v f u zs t xs = if nxB v f u zs t xs then 0 else 1 from rfl)
  have HNV := Lib.hid (show nxV v f u zs t xs = if nxB v f u zs t xs then ⟨(v + 1) % 256, u, t, xs⟩ else ⟨0, 0, 0, []⟩ from rfl)
  have KD := Lib.hid (fun (g cap : Nat) y (h : IntsIn y (some ⟨g, 0, none⟩) xs.length xs) (hc : xs.length ≤ cap) => checkR_any ((v + 1) % 256) u t (some ⟨g, 0, none⟩) cap xs y h hl2 hc)
  have HE2 := Lib.hid (show hlE ((v + 1) % 256) u t xs = if hlB ((v + 1) % 256) u t xs then 0 else 1 from rfl)
  obtain ⟨ln, hln⟩ : ∃ ln, ln = zs.length := ⟨_, rfl⟩
  obtain ⟨xn, hxn⟩ : ∃ xn, xn = xs.length := ⟨_, rfl⟩
  have hw1 : IntKind.i64.wrap (v + 1) = v + 1 := IntWalk.i64_in _ (by omega)
  have hwt : Int.tmod (v + 1) 256 = (v + 1) % 256 := Int.tmod_eq_emod_of_nonneg (by omega)
  have hw2 : IntKind.i64.wrap ((v + 1) % 256) = (v + 1) % 256 := IntWalk.i64_in _ (by omega)
  simp only [← hln] at KC ⊢
  simp only [← hxn] at KD HX HXN hx1 ⊢
  rw [← hln] at HA HW a3
  have HLXE := Lib.hid hxn
  have HLX := Lib.hid (show (Ints xs).length = xn * 1 by rw [ints_len, ← hxn]; omega)
  have hxp := hx1
  clear hz hx hF hA hR hW hl hl2 hlc hln hxn hB v0 v1 hx1
  generalize (v + 1) % 256 = n at *
  go_enter Try.func29, Try.ntmps29
  go_wp2_with fail
  rw [← HW.out]
  go_wp2_with fail
  refine KC.out.mono ?_
  rintro e wp ⟨rfl, f1⟩
  have F1 := Lib.hid f1
  have HXW := Lib.hid (fun y (hf : Fr no wp y) => (HX.out.kept F1.out).kept hf)
  replace a0 := f1.keepc a0
  replace a2 := f1.keepc a2
  have HR1 := Lib.hid (f1.blk HB.out (fun h => h))
  have HSC := Lib.hid (show W.heap.size ≤ wp.heap.size from f1.size)
  clear f1 a1 a3 KC
  go_upto_region 3 with fail
  go_cut [8] (fun s8 wx => ∃ (c g cap : Nat), s8 = .pointer (some ⟨c, 0, none⟩) ∧ wx.heap[c]? = some (.cells #[.int .i64 n, .int .i64 u, .int .i64 t, .slice (some ⟨g, 0, none⟩) xn cap] 24 (0, 0)) ∧ RowI wp.heap.size wx (.slice (some ⟨g, 0, none⟩) xn cap) xs ∧ Fr no wp wx ∧ wp.heap.size ≤ c)
  case first =>
    obtain ⟨i0, hi, hz0, hz1, hz2⟩ := info_parts info3
    have r0 : World.ownsRow (wp.alloc (.cells #[] 3 (0, 0))) wp.heap.size 3 1 (.slice (some ⟨wp.heap.size, 0, none⟩) 0 0) 0 [] := World.ownsRow_made wp #[] 0 (Nat.le_refl _) (Nat.zero_le _) (by simp)
    have r1 : World.ownsRow ((wp.alloc (.cells #[] 3 (0, 0))).alloc (.cells #[.int .i64 0, .int .i64 0, .int .i64 0, .slice none 0 0] 24 (0, 0))) wp.heap.size 3 1 (.slice (some ⟨wp.heap.size, 0, none⟩) 0 0) 0 [] := r0.alloc _
    have r2 : World.ownsRow ((wp.alloc (.cells #[.int .i64 0, .int .i64 0, .int .i64 0, .slice none 0 0] 24 (0, 0))).alloc (.cells #[] 3 (0, 0))) (wp.heap.size + 1) 3 1 (.slice (some ⟨wp.heap.size + 1, 0, none⟩) 0 0) 0 [] := by
      have := World.ownsRow_made (e := 3) (size := 1) (wp.alloc (.cells #[.int .i64 0, .int .i64 0, .int .i64 0, .slice none 0 0] 24 (0, 0))) #[] 0 (Nat.le_refl _) (Nat.zero_le _) (by simp)
      simpa using this
    have zb1 : ((wp.alloc (.cells #[] 3 (0, 0))).alloc (.cells #[.int .i64 0, .int .i64 0, .int .i64 0, .slice none 0 0] 24 (0, 0))).heap[wp.heap.size + 1]? = some (.cells #[.int .i64 0, .int .i64 0, .int .i64 0, .slice none 0 0] 24 (0, 0)) := by simpa using heap_alloc_new (wp.alloc (.cells #[] 3 (0, 0))) (.cells #[.int .i64 0, .int .i64 0, .int .i64 0, .slice none 0 0] 24 (0, 0))
    have zb2 : ((wp.alloc (.cells #[.int .i64 0, .int .i64 0, .int .i64 0, .slice none 0 0] 24 (0, 0))).alloc (.cells #[] 3 (0, 0))).heap[wp.heap.size]? = some (.cells #[.int .i64 0, .int .i64 0, .int .i64 0, .slice none 0 0] 24 (0, 0)) := alloc_keeps (heap_alloc_new wp _) _
    have n0 := World.new_ne wp _ a0
    have n2 := World.new_ne wp _ a2
    have d0 : w.heap.size < wp.heap.size := by have := HSC.out; have := HSZ.out; omega
    have d1 : w.heap.size ≠ wp.heap.size := by omega
    have d2 : wp.heap.size ≠ w.heap.size := by omega
    have d3 : w.heap.size ≠ wp.heap.size + 1 := by omega
    have d4 : wp.heap.size + 1 ≠ w.heap.size := by omega
    go_region_held3 (fun w' => w'.cell? ⟨w.heap.size, 0, none⟩ = some (.int .i64 v) ∧ w'.cell? ⟨w.heap.size, 2, none⟩ = some (.int .i64 u)) (go_keep)
      (first
        | (refine step_append_lies _ (by rfl) (.tmp 20) (.tmp 21) 22 (by rfl) _ 3 i0 _ 1 8 Try.underlying22 hi hz0 hz1 hz2 rfl (by decide) _ 0 [] (by simp [Act.eval]) (World.ownsRow.kept r0 ((Fr.refl no _).drewN _).growNo (Classical.em _)) ⟨xb, xo, none⟩ xn xc (Ints xs) (by simp [Act.eval]) HLX.out (ints_cells (HXW.out _ (((Fr.refl no wp).alloc _).drewN _))) (ints_one xs) hxp (by have := HXN.out; unfold maxLen; omega) (by have := HXN.out; omega) (by simp <;> omega) _ rfl ?_; intro g cap w9 hown9 hgrow9 hat9 hlt9; have f9 : Fr no wp w9 := Fr.grown (((Fr.refl no wp).alloc _).drewN _) hgrow9 (fun k hk => .inr (by simp [Value.ownBlock] at hk; omega)); have rG : RowI wp.heap.size w9 (.slice (some ⟨g, 0, none⟩) xn cap) xs := (row_of_app HLXE.out (by simpa using hown9)); have q0_ := f9.keepc a0; have q2_ := f9.keepc a2; have m0_ := World.new_ne w9 _ q0_; have m2_ := World.new_ne w9 _ q2_)
        | (refine step_append_lies _ (by rfl) (.tmp 20) (.tmp 21) 22 (by rfl) _ 3 i0 _ 1 8 Try.underlying22 hi hz0 hz1 hz2 rfl (by decide) _ 0 [] (by simp [Act.eval]) (World.ownsRow.kept r1 ((Fr.refl no _).drewN _).growNo (Classical.em _)) ⟨xb, xo, none⟩ xn xc (Ints xs) (by simp [Act.eval]) HLX.out (ints_cells (HXW.out _ ((((Fr.refl no wp).alloc _).alloc _).drewN _))) (ints_one xs) hxp (by have := HXN.out; unfold maxLen; omega) (by have := HXN.out; omega) (by simp <;> omega) _ rfl ?_; intro g cap w9 hown9 hgrow9 hat9 hlt9; have f9 : Fr no wp w9 := Fr.grown ((((Fr.refl no wp).alloc _).alloc _).drewN _) hgrow9 (fun k hk => .inr (by simp [Value.ownBlock] at hk; omega)); have rG : RowI wp.heap.size w9 (.slice (some ⟨g, 0, none⟩) xn cap) xs := (row_of_app HLXE.out (by simpa using hown9)); have q0_ := f9.keepc a0; have q2_ := f9.keepc a2; have m0_ := World.new_ne w9 _ q0_; have m2_ := World.new_ne w9 _ q2_; have hz6 := (hgrow9.block (wp.heap.size + 1) (by simp) (by simp [Value.ownBlock])).trans zb1; obtain ⟨y0, y1, y2, y3⟩ := four_cells hz6; obtain ⟨k0, k1, k2, k3⟩ := four_frz hz6; have HZ6 := Lib.hid hz6; clear hz6)
        | (refine step_append_lies _ (by rfl) (.tmp 20) (.tmp 21) 22 (by rfl) _ 3 i0 _ 1 8 Try.underlying22 hi hz0 hz1 hz2 rfl (by decide) _ 0 [] (by simp [Act.eval]) (World.ownsRow.kept r2 ((Fr.refl no _).drewN _).growNo (Classical.em _)) ⟨xb, xo, none⟩ xn xc (Ints xs) (by simp [Act.eval]) HLX.out (ints_cells (HXW.out _ ((((Fr.refl no wp).alloc _).alloc _).drewN _))) (ints_one xs) hxp (by have := HXN.out; unfold maxLen; omega) (by have := HXN.out; omega) (by simp <;> omega) _ rfl ?_; intro g cap w9 hown9 hgrow9 hat9 hlt9; have f9 : Fr no wp w9 := Fr.grown ((((Fr.refl no wp).alloc _).alloc _).drewN _) hgrow9 (fun k hk => .inr (by simp [Value.ownBlock] at hk; omega)); have rG : RowI wp.heap.size w9 (.slice (some ⟨g, 0, none⟩) xn cap) xs := (row_of_app HLXE.out (World.ownsRow.mono (by simpa using hown9) (by simp))); have q0_ := f9.keepc a0; have q2_ := f9.keepc a2; have m0_ := World.new_ne w9 _ q0_; have m2_ := World.new_ne w9 _ q2_; have hz6 := (hgrow9.block wp.heap.size (by simp; omega) (by simp [Value.ownBlock])).trans zb2; obtain ⟨y0, y1, y2, y3⟩ := four_cells hz6; obtain ⟨k0, k1, k2, k3⟩ := four_frz hz6; have HZ6 := Lib.hid hz6; clear hz6))
    all_goals go_wp2_with fail
    all_goals go_meet
    · exact ⟨_, g, cap, rfl, heap_alloc_new w9 _, rG.kept ((Fr.refl no _).alloc _), f9.alloc _, f9.size⟩
    · exact ⟨_, g, cap, rfl, set_four HZ6.out _ _ _ _, rowI_oth rG (((((Fr.refl (only (wp.heap.size + 1)) w9).setCell (p := ⟨wp.heap.size + 1, 0, none⟩) (.inl rfl) _).setCell (p := ⟨wp.heap.size + 1, 1, none⟩) (.inl rfl) _).setCell (p := ⟨wp.heap.size + 1, 2, none⟩) (.inl rfl) _).setCell (p := ⟨wp.heap.size + 1, 3, none⟩) (.inl rfl) _) (fun e => by subst e; rcases hat9 with h | h <;> simp [Value.ownBlock] at h <;> omega), set_four_fr f9 (by omega) _ _ _ _, by omega⟩
    · exact ⟨_, g, cap, rfl, set_four HZ6.out _ _ _ _, rowI_oth rG (((((Fr.refl (only (wp.heap.size)) w9).setCell (p := ⟨wp.heap.size, 0, none⟩) (.inl rfl) _).setCell (p := ⟨wp.heap.size, 1, none⟩) (.inl rfl) _).setCell (p := ⟨wp.heap.size, 2, none⟩) (.inl rfl) _).setCell (p := ⟨wp.heap.size, 3, none⟩) (.inl rfl) _) (fun e => by subst e; rcases hat9 with h | h <;> simp [Value.ownBlock] at h <;> omega), set_four_fr f9 (by omega) _ _ _ _, by omega⟩
  case rest =>
    obtain ⟨c, g, cap, rfl, hC, hrow, hf, hc⟩ := hcut
    have HF1 := Lib.hid (HF.out.noTrans (F1.out.noTrans hf))
    have HCC := Lib.hid hc
    have HCB := Lib.hid hC
    have HRW := Lib.hid hrow
    have HR2_ := Lib.hid (hf.blk HR1.out (fun h => h))
    obtain ⟨a1, c1, e1, hcap, hii⟩ := rowI_ints hrow
    obtain ⟨rfl, -, rfl⟩ : some (⟨g, 0, none⟩ : Addr) = a1 ∧ xn = xs.length ∧ cap = c1 := by simpa using e1
    clear e1
    rw [← HLXE.out] at hii hcap
    have KD := Lib.hid (KD.out g cap _ hii hcap)
    obtain ⟨b0, b1, b2, b3⟩ := four_cells hC
    have hcR : c ≠ w.heap.size + 1 := by have := HCC.out; have := HSC.out; have := HSZ.out; omega
    have hRc : w.heap.size + 1 ≠ c := fun h => hcR h.symm
    generalize hlE n u t xs = E2 at *
    clear hC hrow hf hc hii hcap a0 a2
    go_wp2_with fail
    refine KD.out.mono ?_
    rintro e w2 ⟨rfl, f2⟩
    have hr := f2.blk HR2_.out (fun h => h)
    have hcb := f2.blk HCB.out (fun h => h)
    have HF2 := Lib.hid (HF1.out.noTrans f2)
    have HRW2 := Lib.hid (HRW.out.kept f2)
    have HR2 := Lib.hid hr
    obtain ⟨y0, y1, y2, y3⟩ := four_cells hr
    obtain ⟨g0, g1, g2, g3⟩ := four_frz hr
    clear b0 b1 b2 b3
    obtain ⟨b0, b1, b2, b3⟩ := four_cells hcb
    clear f2 hr hcb
    cases hb2 : hlB n u t xs
    · rw [hb2] at HE2 HNB
      have hE2 : E2 = 1 := HE2.out
      rw [HNB.out] at HNE HNV
      replace HNE := Lib.hid (show nxE v f u zs t xs = 1 from HNE.out)
      replace HNV := Lib.hid (show nxV v f u zs t xs = ⟨0, 0, 0, []⟩ from HNV.out)
      subst hE2
      clear hb2
      go_wp2_with fail
      obtain ⟨q0, q1, q2, q3⟩ := four_cells (set_four HR2.out (.int .i64 0) (.int .i64 0) (.int .i64 0) (.slice none 0 0))
      refine bodyPost_ret (v := .tuple #[.agg #[.int .i64 0, .int .i64 0, .int .i64 0, .slice none 0 0], .int .i64 1]) (by simp [results, Try.results29, go_sem, q0, q1, q2, q3]) rfl ?_
      rw [HNE.out, HNV.out]
      exact ⟨none, 0, rfl, World.ownsRow_nil _ _ _ _, set_four_fr HF2.out (by omega) _ _ _ _⟩
    · rw [hb2] at HE2 HNB
      have hE2 : E2 = 0 := HE2.out
      rw [HNB.out] at HNE HNV
      replace HNE := Lib.hid (show nxE v f u zs t xs = 0 from HNE.out)
      replace HNV := Lib.hid (show nxV v f u zs t xs = ⟨n, u, t, xs⟩ from HNV.out)
      subst hE2
      clear hb2
      have HGR := Lib.hid (show g ≠ w.heap.size + 1 from fun e => by
        have h' : World.ownsRow w2 wp.heap.size 3 1 (.slice (some ⟨g, 0, none⟩) xn cap) xs.length (Ints xs) := HRW2.out
        have := own_geN h' g (by simp [Value.ownBlock])
        have := HSC.out
        have := HSZ.out
        omega)
      go_wp2_with fail
      obtain ⟨q0, q1, q2, q3⟩ := four_cells (set_four HR2.out (.int .i64 n) (.int .i64 u) (.int .i64 t) (.slice (some ⟨g, 0, none⟩) xn cap))
      refine bodyPost_ret (v := .tuple #[.agg #[.int .i64 n, .int .i64 u, .int .i64 t, .slice (some ⟨g, 0, none⟩) xn cap], .int .i64 0]) (by simp [results, Try.results29, go_sem, q0, q1, q2, q3]) rfl ?_
      rw [HNE.out, HNV.out]
      refine ⟨some ⟨g, 0, none⟩, cap, by rw [HLXE.out], ?_, set_four_fr HF2.out (by omega) _ _ _ _⟩
      refine RowI.mono ?_ (show w.heap.size ≤ wp.heap.size by have := HSC.out; have := HSZ.out; omega)
      show RowI wp.heap.size _ (.slice (some ⟨g, 0, none⟩) xs.length cap) xs
      rw [← HLXE.out]
      exact rowI_oth HRW2.out (((((Fr.refl (only (w.heap.size + 1)) w2).setCell (p := ⟨w.heap.size + 1, 0, none⟩) (.inl rfl) _).setCell (p := ⟨w.heap.size + 1, 1, none⟩) (.inl rfl) _).setCell (p := ⟨w.heap.size + 1, 2, none⟩) (.inl rfl) _).setCell (p := ⟨w.heap.size + 1, 3, none⟩) (.inl rfl) _) HGR.out

end Go.Proofs.Ytpaoacdgmfaolaa
