/- SpectrumFades. -/
import Derived.Test.YtdenlinehjigaaaClF
import Derived.Test.YtdenlinehjigaaaFaM
import Derived.BigGuardPart
import Derived.Deep.DeepCutAuto
import Derived.BigRegion
import Derived.Deep.RegionHeld3
import Derived.Deep.AppendLies
namespace Go.Proofs.Ytdenlinehjigaaa
open Go.RowKit
set_option linter.unusedVariables false

theorem more_cells {w : World} {B T : Nat} {v0 v1 v2 v3 v4 v5 v6 v7 v8 v9 v10 v11 v12 v13 v14 v15 v16 v17 v18 : Value} (h : w.heap[B]? = some (.cells #[v0, v1, v2, v3, v4, v5, v6, v7, v8, v9, v10, v11, v12, v13, v14, v15, v16, v17, v18] T (0, 0))) :
    w.cell? ⟨B, 0, none⟩ = some v0 ∧ w.cell? ⟨B, 1, none⟩ = some v1 ∧ w.cell? ⟨B, 2, none⟩ = some v2 ∧ w.cell? ⟨B, 3, none⟩ = some v3 ∧ w.cell? ⟨B, 4, none⟩ = some v4 ∧ w.cell? ⟨B, 13, none⟩ = some v13 ∧ w.cell? ⟨B, 14, none⟩ = some v14 ∧ w.cell? ⟨B, 15, none⟩ = some v15 ∧ w.cell? ⟨B, 16, none⟩ = some v16 ∧ w.cell? ⟨B, 17, none⟩ = some v17 ∧ w.cell? ⟨B, 18, none⟩ = some v18 := by
  simp [World.cell?, h]
/-- The query and the fading, each in its own block. -/
structure QF (w : World) (c d : Nat) (qa qb qc qf qt : Int) (f : Fd) : Prop where
  x0 : w.cell? ⟨c, 0, none⟩ = some (.int .i64 qa)
  x1 : w.cell? ⟨c, 1, none⟩ = some (.int .i64 qb)
  x2 : w.cell? ⟨c, 2, none⟩ = some (.int .i64 qc)
  x3 : w.cell? ⟨c, 3, none⟩ = some (.int .i64 qf)
  x4 : w.cell? ⟨c, 4, none⟩ = some (.int .i64 qt)
  x5 : w.cell? ⟨d, 0, none⟩ = some (.int .i64 f.fr)
  x6 : w.cell? ⟨d, 1, none⟩ = some (.int .i64 f.to)
  x7 : w.cell? ⟨d, 2, none⟩ = some (.int .i64 f.ch)
  x8 : w.cell? ⟨d, 3, none⟩ = some (.int .i64 f.fi)
  x9 : w.cell? ⟨d, 4, none⟩ = some (.int .i64 f.un)
  x10 : w.cell? ⟨d, 5, none⟩ = some (.int .i64 f.fa)
theorem QF.kept {w w' : World} {c d : Nat} {qa qb qc qf qt : Int} {f : Fd} (h : QF w c d qa qb qc qf qt f) (k : Fr no w w') : QF w' c d qa qb qc qf qt f := ⟨k.keepc h.x0, k.keepc h.x1, k.keepc h.x2, k.keepc h.x3, k.keepc h.x4, k.keepc h.x5, k.keepc h.x6, k.keepc h.x7, k.keepc h.x8, k.keepc h.x9, k.keepc h.x10⟩
theorem FdsIn.other {w w' : World} {g len : Nat} {fs : List Fd} {S : Nat → Prop} (h : FdsIn w (some ⟨g, 0, none⟩) len fs) (hf : Fr S w w') (hn : ¬ S g) : FdsIn w' (some ⟨g, 0, none⟩) len fs := ⟨h.1, fun i hi => by
  obtain ⟨b, off, ha, h0, h1, h2, h3, h4, h5⟩ := h.2 i hi
  cases ha
  exact ⟨g, 0, rfl, hf.keepc0 h0 hn, hf.keepc0 h1 hn, hf.keepc0 h2 hn, hf.keepc0 h3 hn, hf.keepc0 h4 hn, hf.keepc0 h5 hn⟩⟩
theorem own_geF {w : World} {B n : Nat} {v : Value} {xs : List Value} (h : w.ownsRow B 66 6 v n xs) (k : Nat) (hk : v.ownBlock = some k) : B ≤ k := by
  rcases h.2 with ⟨rfl, _⟩ | ⟨g, cap', cur, rfl, hB, _⟩
  · simp [Value.ownBlock] at hk
  · simp only [Value.ownBlock, Option.some.injEq] at hk
    omega
theorem two_cellsF {w : World} {B T : Nat} {a b : Value} (h : w.heap[B]? = some (.cells #[a, b] T (0, 0))) : w.frozen? ⟨B, 0, none⟩ = false ∧ w.frozen? ⟨B, 1, none⟩ = false := by
  simp [World.frozen?, h]
theorem ft_iff (qa qb qc qf : Int) (f : Fd) : ftP qa qb qc qf f = true ↔ (f.fr = -1 ∨ f.fr = qa) ∧ (f.to = -1 ∨ f.to = qb) ∧ (f.ch = -1 ∨ f.ch = qc) ∧ f.fi ≤ qf ∧ qf < f.un := by
  rw [show ftP qa qb qc qf f = ((f.fr == -1 || f.fr == qa) && (f.to == -1 || f.to == qb) && (f.ch == -1 || f.ch == qc) && (decide (f.fi ≤ qf) && decide (qf < f.un))) from rfl]
  simp only [Bool.and_eq_true, Bool.or_eq_true, beq_iff_eq, decide_eq_true_eq]
  constructor
  · rintro ⟨⟨⟨h1, h2⟩, h3⟩, h4, h5⟩
    exact ⟨h1, h2, h3, h4, h5⟩
  · rintro ⟨h1, h2, h3, h4, h5⟩
    exact ⟨⟨⟨h1, h2⟩, h3⟩, h4, h5⟩
theorem sg_no {CS CB : Bool} {m0 : Nat} {e : Int} {ps : List Pt} {zs : List Int} {ws : List Wl} {a b c t : Int} {fs : List Fd} (h : sgE CS CB m0 a b c t ≠ 0) : sgV CS CB m0 e ps zs ws a b c t fs = 0 := by
  unfold sgV
  refine if_neg fun ⟨h1, h2⟩ => h ?_
  simp [sgE, h1, h2]
theorem sg_yes {CS CB : Bool} {m0 : Nat} {a b c t : Int} (h : sgE CS CB m0 a b c t = 0) : unE CS CB m0 a b = 0 ∧ chT c t = true := by
  unfold sgE at h
  split at h
  · rename_i h1
    refine ⟨h1, ?_⟩
    cases hc : chT c t
    · simp [hc] at h
    · rfl
  · rename_i h1
    exact absurd h h1
set_option maxRecDepth 20000 in
set_option maxHeartbeats 16000000 in
theorem fades_law (n0 : Option Addr) (m0 h0 : Nat) (n1 : Option Addr) (m1 h1 : Nat) (n2 : Option Addr) (m2 h2 : Nat) (e o th : Int) (ps : List Pt) (zs : List Int) (ws : List Wl) (a0 : Option Addr) (l0 k0 : Nat) (a1 : Option Addr) (l1 k1 : Nat) (ss : List Src) (fs : List Fd) (qa qb qc qf qt lo : Int) (ca : Option Addr) (ck : Nat) (s : Src) (f : Fd) (w : World) (hst : StIn w n0 m0 n1 m1 n2 m2 ps zs ws) (hs : SrcsIn w a0 l0 ss) (hf : FdsIn w a1 l1 fs) :
    Calls Try.prog 9 #[.agg #[.slice n0 m0 h0, .slice n1 m1 h1, .slice n2 m2 h2, .int .i64 e, .int .i64 o, .int .i64 th], .agg #[.slice a0 l0 k0, .slice a1 l1 k1], .agg #[.int .i64 qa, .int .i64 qb, .int .i64 qc, .int .i64 qf, .int .i64 qt, .int .i64 lo, .int .i64 s.x, .int .i64 s.y, .int .i64 s.pw, .slice ca s.chs.length ck, .int .i64 s.per, .int .i64 s.fr, .int .i64 s.to, .int .i64 f.fr, .int .i64 f.to, .int .i64 f.ch, .int .i64 f.fi, .int .i64 f.un, .int .i64 f.fa]] w fun e' w' => e' = .returned (.bool true) ∧ Fr no w w' := by
  have hB := box3 w (.cells #[.slice n0 m0 h0, .slice n1 m1 h1, .slice n2 m2 h2, .int .i64 e, .int .i64 o, .int .i64 th] 26 (0, 0)) (.cells #[.slice a0 l0 k0, .slice a1 l1 k1] 47 (0, 0)) (.cells #[.int .i64 qa, .int .i64 qb, .int .i64 qc, .int .i64 qf, .int .i64 qt, .int .i64 lo, .int .i64 s.x, .int .i64 s.y, .int .i64 s.pw, .slice ca s.chs.length ck, .int .i64 s.per, .int .i64 s.fr, .int .i64 s.to, .int .i64 f.fr, .int .i64 f.to, .int .i64 f.ch, .int .i64 f.fi, .int .i64 f.un, .int .i64 f.fa] 68 (0, 0))
  obtain ⟨W, hW⟩ : ∃ W, W = ((w.alloc (.cells #[.slice n0 m0 h0, .slice n1 m1 h1, .slice n2 m2 h2, .int .i64 e, .int .i64 o, .int .i64 th] 26 (0, 0))).alloc (.cells #[.slice a0 l0 k0, .slice a1 l1 k1] 47 (0, 0))).alloc (.cells #[.int .i64 qa, .int .i64 qb, .int .i64 qc, .int .i64 qf, .int .i64 qt, .int .i64 lo, .int .i64 s.x, .int .i64 s.y, .int .i64 s.pw, .slice ca s.chs.length ck, .int .i64 s.per, .int .i64 s.fr, .int .i64 s.to, .int .i64 f.fr, .int .i64 f.to, .int .i64 f.ch, .int .i64 f.fi, .int .i64 f.un, .int .i64 f.fa] 68 (0, 0)) := ⟨_, rfl⟩
  rw [← hW] at hB
  have HB := Lib.hid hB
  have HW := Lib.hid hW
  have HST := Lib.hid (hst.kept hB.f)
  have HS := Lib.hid (hs.kept hB.f)
  have HFD := Lib.hid (hf.kept hB.f)
  clear hB hW hs hf hst
  go_enter Try.func9, Try.ntmps9
  go_wp2_with fail
  rw [← HW.out]
  refine (awake6_any W).mono ?_
  rintro e w1 ⟨rfl, f1⟩
  have HB1 := Lib.hid (HB.out.kept f1)
  have HST1 := Lib.hid (HST.out.kept f1)
  have HS1 := Lib.hid (HS.out.kept f1)
  have HFD1 := Lib.hid (HFD.out.kept f1)
  clear f1 HB HST HS HFD HW
  obtain ⟨s0, s1, s2, s3, s4, s5⟩ := six_cellsS HB1.out.a
  go_wp2_with fail
  refine (fewG_any n0 m0 h0 n1 m1 h1 n2 m2 h2 e o th w1).mono ?_
  rintro e w2 ⟨rfl, f2⟩
  have HB2 := Lib.hid (HB1.out.kept f2)
  have HST2 := Lib.hid (HST1.out.kept f2)
  have HS2 := Lib.hid (HS1.out.kept f2)
  have HFD2 := Lib.hid (HFD1.out.kept f2)
  obtain ⟨x0, x1⟩ := two_cells HB2.out.b
  clear f2 s0 s1 s2 s3 s4 s5 HB1 HST1 HS1 HFD1
  by_cases hg : m0 ≤ 40 ∧ m1 ≤ 40 ∧ m2 ≤ 40
  case neg =>
    have hgd : decide (m0 ≤ 40 ∧ m1 ≤ 40 ∧ m2 ≤ 40) = false := decide_eq_false hg
    clear hg
    rw [hgd]
    go_wp2_with fail
    go_ret
    exact ⟨rfl, HB2.out.f⟩
  have hgd : decide (m0 ≤ 40 ∧ m1 ≤ 40 ∧ m2 ≤ 40) = true := decide_eq_true hg
  clear hg
  rw [hgd]
  clear hgd
  go_wp2_with fail
  refine (fewS_any a0 l0 k0 a1 l1 k1 ss w2 HS2.out).mono ?_
  rintro e w3 ⟨rfl, f3⟩
  have HB3 := Lib.hid (HB2.out.kept f3)
  have HST3 := Lib.hid (HST2.out.kept f3)
  have HS3 := Lib.hid (HS2.out.kept f3)
  have HFD3 := Lib.hid (HFD2.out.kept f3)
  clear f3 x0 x1 HB2 HST2 HS2 HFD2
  obtain ⟨x0, x1⟩ := two_cells HB3.out.b
  cases hfew : fewB l0 l1 ss
  case false =>
    clear hfew
    go_wp2_with fail
    go_ret
    exact ⟨rfl, HB3.out.f⟩
  have HSP3 := Lib.hid (show SpIn w3 a0 l0 a1 l1 ss fs from ⟨HS3.out, HFD3.out, fun i hi => by have := (fewB_t HS3.out.1 hfew).2.2 i hi; omega⟩)
  clear hfew HS3 HFD3
  by_cases h63 : 63 < l1
  · have h63i : (63 : Int) < (l1 : Int) := by omega
    go_wp2_with fail
    go_ret
    exact ⟨rfl, HB3.out.f⟩
  have h63i : (l1 : Int) ≤ 63 := by omega
  have HL63 := Lib.hid (show l1 ≤ 63 by omega)
  clear h63
  obtain ⟨y0, y1, y2, y3, y4, y5, y6, y7, y8, y9, y10⟩ := more_cells HB3.out.c
  have r0 := World.block_lt_of_cell? w3 _ y0
  go_upto_region 5 with fail
  clear h63i
  go_cut [7, 8] (fun s7 s8 wx => ∃ c d : Nat, s7 = .pointer (some ⟨c, 0, none⟩) ∧ s8 = .pointer (some ⟨d, 0, none⟩) ∧ QF wx c d qa qb qc qf qt f ∧ Fr no w3 wx)
  case first =>
    go_region_held3 (fun w' => w'.cell? ⟨w.heap.size + 1 + 1, 0, none⟩ = some (.int .i64 qa) ∧ w'.cell? ⟨w.heap.size + 1 + 1, 1, none⟩ = some (.int .i64 qb) ∧ w'.cell? ⟨w.heap.size + 1 + 1, 2, none⟩ = some (.int .i64 qc) ∧ w'.cell? ⟨w.heap.size + 1 + 1, 3, none⟩ = some (.int .i64 qf) ∧ w'.cell? ⟨w.heap.size + 1 + 1, 4, none⟩ = some (.int .i64 qt) ∧ w'.cell? ⟨w.heap.size + 1 + 1, 13, none⟩ = some (.int .i64 f.fr) ∧ w'.cell? ⟨w.heap.size + 1 + 1, 14, none⟩ = some (.int .i64 f.to) ∧ w'.cell? ⟨w.heap.size + 1 + 1, 15, none⟩ = some (.int .i64 f.ch) ∧ w'.cell? ⟨w.heap.size + 1 + 1, 16, none⟩ = some (.int .i64 f.fi) ∧ w'.cell? ⟨w.heap.size + 1 + 1, 17, none⟩ = some (.int .i64 f.un) ∧ w'.cell? ⟨w.heap.size + 1 + 1, 18, none⟩ = some (.int .i64 f.fa)) (go_keep) (fail)
    all_goals go_wp2_with fail
    all_goals go_meet
    all_goals (refine ⟨_, _, rfl, rfl, ⟨?_, ?_, ?_, ?_, ?_, ?_, ?_, ?_, ?_, ?_, ?_⟩, (((Fr.refl no w3).alloc _).alloc _).drew⟩ <;> go_simp)
  case rest =>
  obtain ⟨c, d, rfl, rfl, hq, f4⟩ := hcut
  obtain ⟨w4, hw4⟩ : ∃ w4, w4 = wc := ⟨_, rfl⟩
  subst hw4
  have HB4 := Lib.hid (HB3.out.kept f4)
  have HST4 := Lib.hid (HST3.out.kept f4)
  have HSP4 := Lib.hid (HSP3.out.kept f4)
  have HQ4 := Lib.hid hq
  clear f4 hq r0 x0 x1 y0 y1 y2 y3 y4 y5 y6 y7 y8 y9 y10 HB3 HST3 HSP3
  have K1 := signal_any n0 m0 h0 n1 m1 h1 n2 m2 h2 e o th ps zs ws a0 l0 k0 a1 l1 k1 ss fs qa qb qc qf w4 HST4.out HSP4.out
  obtain ⟨s0, s1, s2, s3, s4, s5⟩ := six_cellsS HB4.out.a
  obtain ⟨x0, x1⟩ := two_cells HB4.out.b
  obtain ⟨j0, j1, j2, j3, j4, j5, j6, j7, j8, j9, j10⟩ := HQ4.out
  by_cases hE : sgE (ckS l0 l1 ss fs) (ckB m0 m1 m2 e o th ps zs ws) m0 qa qb qc qf = 0
  case neg =>
    rw [sg_no hE] at K1
    generalize sgE (ckS l0 l1 ss fs) (ckB m0 m1 m2 e o th ps zs ws) m0 qa qb qc qf = r at *
    have K1 := Lib.hid K1
    go_wp2_with fail
    refine K1.out.mono ?_
    rintro e w5 ⟨rfl, f5⟩
    have HF5 := Lib.hid (HB4.out.f.noTrans f5)
    clear f5 s0 s1 s2 s3 s4 s5 x0 x1 j0 j1 j2 j3 j4 j5 j6 j7 j8 j9 j10 HST4 HSP4
    go_wp2_with fail
    go_ret
    exact ⟨rfl, HF5.out⟩
  obtain ⟨hU, hC⟩ := sg_yes hE
  have hck := (unE_0 hU).1
  obtain ⟨l16, l64, hss, hfs⟩ := ckS_len hck
  have hV := unV_bd (e := e) (o := o) (th := th) (ps := ps) (zs := zs) (ws := ws) (ss := ss) (fs := fs) HST4.out.z.1 hU
  have K3 := fun (w : World) (h1_ : StIn w n0 m0 n1 m1 n2 m2 ps zs ws) (h2_ : SpIn w a0 l0 a1 l1 ss fs) => worst_any n0 m0 h0 n1 m1 h1 n2 m2 h2 e o th ps zs ws a0 l0 k0 a1 l1 k1 ss fs qa qb w h1_ h2_
  rw [hE, hck] at K1
  simp only [hU] at K3
  simp only [hck] at K3
  rw [hck] at hV hU hE
  have FN := fades_facts f hV.1 hV.2 hU hC hfs
  have K2 := Lib.hid (show ∀ (w : World), StIn w n0 m0 n1 m1 n2 m2 ps zs ws → Calls Try.prog 37 #[.agg #[.slice n0 m0 h0, .slice n1 m1 h1, .slice n2 m2 h2, .int .i64 e, .int .i64 o, .int .i64 th], .agg #[.slice none 0 0, .slice none 0 0], .int .i64 qa, .int .i64 qb, .int .i64 qc, .int .i64 qf] w (fun e' w' => e' = .returned (.tuple #[.int .i64 (sgV true (ckB m0 m1 m2 e o th ps zs ws) m0 e ps zs ws qa qb qc qf []), .int .i64 0]) ∧ Fr no w w') from by
    intro w h1_
    have := signal_any n0 m0 h0 n1 m1 h1 n2 m2 h2 e o th ps zs ws none 0 0 none 0 0 [] [] qa qb qc qf w h1_ ⟨⟨rfl, fun i hi => absurd hi (by omega)⟩, ⟨rfl, fun i hi => absurd hi (by omega)⟩, fun i hi => absurd hi (by omega)⟩
    rw [show ckS 0 0 [] [] = true from rfl, hE] at this
    exact this)
  have K4 := Lib.hid (show ∀ (w : World) (g cap : Nat), StIn w n0 m0 n1 m1 n2 m2 ps zs ws → SpIn w a0 l0 (some ⟨g, 0, none⟩) (l1 + 1) ss (fs ++ [f]) → Calls Try.prog 37 #[.agg #[.slice n0 m0 h0, .slice n1 m1 h1, .slice n2 m2 h2, .int .i64 e, .int .i64 o, .int .i64 th], .agg #[.slice a0 l0 k0, .slice (some ⟨g, 0, none⟩) (l1 + 1) cap], .int .i64 qa, .int .i64 qb, .int .i64 qc, .int .i64 qf] w (fun e' w' => e' = .returned (.tuple #[.int .i64 (if fdB f then sgV true (ckB m0 m1 m2 e o th ps zs ws) m0 e ps zs ws qa qb qc qf (fs ++ [f]) else 0), .int .i64 (if fdB f then 0 else 1)]) ∧ Fr no w w') from by
    intro w g cap h1_ h2_
    have := signal_any n0 m0 h0 n1 m1 h1 n2 m2 h2 e o th ps zs ws a0 l0 k0 (some ⟨g, 0, none⟩) (l1 + 1) cap ss (fs ++ [f]) qa qb qc qf w h1_ h2_
    rw [ckS_snoc f hck HL63.out] at this
    cases hfd : fdB f
    · rw [hfd, show sgE false (ckB m0 m1 m2 e o th ps zs ws) m0 qa qb qc qf = 1 from by simp [sgE, unE], sg_no (by simp [sgE, unE])] at this
      exact this
    · rw [hfd, hE] at this
      exact this)
  have K5 := Lib.hid (show ∀ (w : World) (g cap : Nat), SpIn w a0 l0 (some ⟨g, 0, none⟩) (l1 + 1) ss (fs ++ [f]) → Calls Try.prog 29 #[.agg #[.slice a0 l0 k0, .slice (some ⟨g, 0, none⟩) (l1 + 1) cap]] w (fun e' w' => e' = .returned (.int .i64 (ckE (fdB f))) ∧ Fr no w w') from by
    intro w g cap h2_
    have := checkS_any a0 l0 k0 (some ⟨g, 0, none⟩) (l1 + 1) cap ss (fs ++ [f]) w h2_.s h2_.f h2_.c
    rw [ckS_snoc f hck HL63.out] at this
    exact this)
  have HFB := Lib.hid (show fdB f = true → 0 ≤ f.fa ∧ f.fa ≤ 1000 from fun h => by
    simp only [fdB, Bool.and_eq_true] at h
    exact inR_t.1 h.2)
  clear hV hU hE hck hss hfs l16 l64 hC
  generalize sgV true (ckB m0 m1 m2 e o th ps zs ws) m0 e ps zs ws qa qb qc qf fs = P at *
  generalize sgV true (ckB m0 m1 m2 e o th ps zs ws) m0 e ps zs ws qa qb qc qf [] = FU at *
  generalize wsV true (ckB m0 m1 m2 e o th ps zs ws) m0 e ps zs ws qa qb fs = WO at *
  generalize sgV true (ckB m0 m1 m2 e o th ps zs ws) m0 e ps zs ws qa qb qc qf (fs ++ [f]) = AF at *
  have K1 := Lib.hid K1
  have K3 := Lib.hid K3
  go_wp2_with fail
  refine K1.out.mono ?_
  rintro e' w5 ⟨rfl, f5⟩
  have HB5 := Lib.hid (HB4.out.kept f5)
  have HST5 := Lib.hid (HST4.out.kept f5)
  have HSP5 := Lib.hid (HSP4.out.kept f5)
  have HQ5 := Lib.hid (HQ4.out.kept f5)
  clear f5
  clear s0 s1 s2 s3 s4 s5 x0 x1 j0 j1 j2 j3 j4 j5 j6 j7 j8 j9 j10 HB4 HST4 HSP4 HQ4 K1
  obtain ⟨s0, s1, s2, s3, s4, s5⟩ := six_cellsS HB5.out.a
  obtain ⟨x0, x1⟩ := two_cells HB5.out.b
  obtain ⟨j0, j1, j2, j3, j4, j5, j6, j7, j8, j9, j10⟩ := HQ5.out
  go_wp2_with fail
  refine (K2.out w5 HST5.out).mono ?_
  rintro e' w6 ⟨rfl, f6⟩
  have HB6 := Lib.hid (HB5.out.kept f6)
  have HST6 := Lib.hid (HST5.out.kept f6)
  have HSP6 := Lib.hid (HSP5.out.kept f6)
  have HQ6 := Lib.hid (HQ5.out.kept f6)
  clear f6
  clear s0 s1 s2 s3 s4 s5 x0 x1 j0 j1 j2 j3 j4 j5 j6 j7 j8 j9 j10 HB5 HST5 HSP5 HQ5 K2
  obtain ⟨s0, s1, s2, s3, s4, s5⟩ := six_cellsS HB6.out.a
  obtain ⟨x0, x1⟩ := two_cells HB6.out.b
  obtain ⟨j0, j1, j2, j3, j4, j5, j6, j7, j8, j9, j10⟩ := HQ6.out
  go_wp2_with fail
  refine (K3.out w6 HST6.out HSP6.out).mono ?_
  rintro e' w7 ⟨rfl, f7⟩
  have HB7 := Lib.hid (HB6.out.kept f7)
  have HST7 := Lib.hid (HST6.out.kept f7)
  have HSP7 := Lib.hid (HSP6.out.kept f7)
  have HQ7 := Lib.hid (HQ6.out.kept f7)
  clear f7
  clear s0 s1 s2 s3 s4 s5 x0 x1 j0 j1 j2 j3 j4 j5 j6 j7 j8 j9 j10 HB6 HST6 HSP6 HQ6 K3
  obtain ⟨s0, s1, s2, s3, s4, s5⟩ := six_cellsS HB7.out.a
  obtain ⟨x0, x1⟩ := two_cells HB7.out.b
  obtain ⟨j0, j1, j2, j3, j4, j5, j6, j7, j8, j9, j10⟩ := HQ7.out
  have p1 : ¬ P < WO := by have := FN.wp; omega
  have p2 : ¬ FU < P := by have := FN.pf; omega
  have p3 : ¬ WO < 0 := by have := FN.w0; omega
  obtain ⟨YM, hYM⟩ : ∃ Y, Y = w7.alloc (.cells #[.slice a0 l0 k0, .slice a1 l1 k1] 47 (0, 0)) := ⟨_, rfl⟩
  have hbM : YM.heap[w7.heap.size]? = some (.cells #[.slice a0 l0 k0, .slice a1 l1 k1] 47 (0, 0)) := by rw [hYM]; exact heap_alloc_new w7 _
  have hfM : Fr no w7 YM := by rw [hYM]; exact (Fr.refl no w7).alloc _
  have hszM : YM.heap.size = w7.heap.size + 1 := by rw [hYM]; simp
  have m0_ := World.block_lt_of_cell? w7 _ x1
  have m1_ := World.block_lt_of_cell? w7 _ j5
  have HYM := Lib.hid hYM
  have HBM := Lib.hid hbM
  have HSZ := Lib.hid hszM
  have HFM := Lib.hid hfM
  have h2c := hfM.keepc x1
  have p0_ := hfM.keepc j5
  have p1_ := hfM.keepc j6
  have p2_ := hfM.keepc j7
  have p3_ := hfM.keepc j8
  have p4_ := hfM.keepc j9
  have p5_ := hfM.keepc j10
  clear hYM hbM hszM hfM
  go_upto_region 14 with fail
  have HFN0 := Lib.hid FN
  clear FN
  rw [← HYM.out]
  clear s0 s1 s2 s3 s4 s5 x0 x1 j0 j1 j2 j3 j4 j5 j6 j7 j8 j9 j10 p1 p2 p3
  go_cut [] (fun wx => ∃ g cap : Nat, wx.heap[w7.heap.size]? = some (.cells #[.slice a0 l0 k0, .slice (some ⟨g, 0, none⟩) (l1 + 1) cap] 47 (0, 0)) ∧ FdsIn wx (some ⟨g, 0, none⟩) (l1 + 1) (fs ++ [f]) ∧ Fr no w7 wx)
  case first =>
    obtain ⟨i0, hi, hz0, hz1, hz2⟩ := info_parts info66
    have n0_ : w.heap.size + 1 ≠ w7.heap.size := by have m0t : w.heap.size + 1 < w7.heap.size := m0_; omega
    have n1_ : d ≠ w7.heap.size := by have m1t : d < w7.heap.size := m1_; omega
    have n0s : w7.heap.size ≠ w.heap.size + 1 := by have m0t : w.heap.size + 1 < w7.heap.size := m0_; omega
    have n1s : w7.heap.size ≠ d := by have m1t : d < w7.heap.size := m1_; omega
    go_region_held3 (fun w' => w'.cell? ⟨w.heap.size + 1, 1, none⟩ = some (.slice a1 l1 k1) ∧ w'.cell? ⟨d, 0, none⟩ = some (.int .i64 f.fr) ∧ w'.cell? ⟨d, 1, none⟩ = some (.int .i64 f.to) ∧ w'.cell? ⟨d, 2, none⟩ = some (.int .i64 f.ch) ∧ w'.cell? ⟨d, 3, none⟩ = some (.int .i64 f.fi) ∧ w'.cell? ⟨d, 4, none⟩ = some (.int .i64 f.un) ∧ w'.cell? ⟨d, 5, none⟩ = some (.int .i64 f.fa)) (go_keep)
      (first
        | (go_at_call 47; refine (clone_fds a1 l1 k1 fs _ (HSP7.out.f.kept (by first | exact HFM.out.drew | exact HFM.out.drew.alloc _)) (by have := HL63.out; omega)).mono ?_; rintro e' w8 ⟨v6, rfl, ho8, f8⟩; have q0_ := f8.keepc (v := .slice a1 l1 k1) (p := ⟨w.heap.size + 1, 1, none⟩) (by first | exact h2c | exact ((Fr.refl no YM).drew.alloc _).keepc h2c); have q1_ := f8.keepc (p := ⟨d, 0, none⟩) (v := .int .i64 f.fr) (by first | exact p0_ | exact ((Fr.refl no YM).drew.alloc _).keepc p0_); have q2_ := f8.keepc (p := ⟨d, 1, none⟩) (v := .int .i64 f.to) (by first | exact p1_ | exact ((Fr.refl no YM).drew.alloc _).keepc p1_); have q3_ := f8.keepc (p := ⟨d, 2, none⟩) (v := .int .i64 f.ch) (by first | exact p2_ | exact ((Fr.refl no YM).drew.alloc _).keepc p2_); have q4_ := f8.keepc (p := ⟨d, 3, none⟩) (v := .int .i64 f.fi) (by first | exact p3_ | exact ((Fr.refl no YM).drew.alloc _).keepc p3_); have q5_ := f8.keepc (p := ⟨d, 4, none⟩) (v := .int .i64 f.un) (by first | exact p4_ | exact ((Fr.refl no YM).drew.alloc _).keepc p4_); have q6_ := f8.keepc (p := ⟨d, 5, none⟩) (v := .int .i64 f.fa) (by first | exact p5_ | exact ((Fr.refl no YM).drew.alloc _).keepc p5_))
        | (refine step_append_lies _ (by rfl) (.tmp 104) (.tmp 106) 45 (by rfl) _ 66 i0 _ 6 48 Try.underlying45 hi hz0 hz1 hz2 rfl (by decide) v6 l1 (flatF fs) (by simp [Act.eval]) (ho8.alloc _) ⟨w8.heap.size, 0, none⟩ 1 1 [.int .i64 f.fr, .int .i64 f.to, .int .i64 f.ch, .int .i64 f.fi, .int .i64 f.un, .int .i64 f.fa] (by simp [Act.eval]) (by rfl) (World.news_of_block (cs := #[.int .i64 f.fr, .int .i64 f.to, .int .i64 f.ch, .int .i64 f.fi, .int .i64 f.un, .int .i64 f.fa]) (t := 66) (fr := (0, 0)) (heap_alloc_new w8 _)) (by simp [Value.oneCell']) (by decide) (by have := HL63.out; unfold maxLen; omega) (by have := HL63.out; omega) (by simp; have := f8.size; simp at this; omega) (w8.heap.size + 1) (by simp) ?_; intro g cap w9 hown9 hgrow9 hat9 hlt9; have f9 : Fr no YM w9 := (((Fr.refl no YM).drew.noTrans f8).alloc _).grown hgrow9 (fun k hk => .inr (by have := own_geF ho8 k hk; simpa using this)); have hgM : w7.heap.size < g := (by have hs6 := f8.size; have hsz := HSZ.out; rcases hat9 with h | h; (· have := own_geF ho8 g h; simp at this; omega); (· simp at hs6; omega)); have s0_ := f9.keepc h2c; have s1_ := f9.keepc p0_; have s2_ := f9.keepc p1_; have s3_ := f9.keepc p2_; have s4_ := f9.keepc p3_; have s5_ := f9.keepc p4_; have s6_ := f9.keepc p5_; obtain ⟨M0, M1⟩ := two_cells (f9.blk HBM.out (fun h => h)); obtain ⟨N0, N1⟩ := two_cellsF (f9.blk HBM.out (fun h => h)); have HO9 := Lib.hid hown9; have HF9 := Lib.hid f9; have HG9 := Lib.hid hgM; clear hown9 hgrow9 hat9 hlt9 f9 hgM)
        | (refine step_append_lies _ (by rfl) (.tmp 104) (.tmp 106) 45 (by rfl) _ 66 i0 _ 6 48 Try.underlying45 hi hz0 hz1 hz2 rfl (by decide) v6 l1 (flatF fs) (by simp [Act.eval]) ho8 ⟨YM.heap.size, 0, none⟩ 1 1 [.int .i64 f.fr, .int .i64 f.to, .int .i64 f.ch, .int .i64 f.fi, .int .i64 f.un, .int .i64 f.fa] (by simp [Act.eval]) (by rfl) (World.news_of_block (cs := #[.int .i64 f.fr, .int .i64 f.to, .int .i64 f.ch, .int .i64 f.fi, .int .i64 f.un, .int .i64 f.fa]) (t := 66) (fr := (0, 0)) (f8.blk (heap_alloc_new YM.drew _) (fun h => h))) (by simp [Value.oneCell']) (by decide) (by have := HL63.out; unfold maxLen; omega) (by have := HL63.out; omega) (by have := f8.size; simp at this; simp; omega) w8.heap.size rfl ?_; intro g cap w9 hown9 hgrow9 hat9 hlt9; have f9 : Fr no YM w9 := (((Fr.refl no YM).drew.alloc _).noTrans f8).grown hgrow9 (fun k hk => .inr (by have := own_geF ho8 k hk; simp at this; omega)); have hgM : w7.heap.size < g := (by have hs6 := f8.size; have hsz := HSZ.out; rcases hat9 with h | h; (· have := own_geF ho8 g h; simp at this; omega); (· simp at hs6; omega)); have s0_ := f9.keepc h2c; have s1_ := f9.keepc p0_; have s2_ := f9.keepc p1_; have s3_ := f9.keepc p2_; have s4_ := f9.keepc p3_; have s5_ := f9.keepc p4_; have s6_ := f9.keepc p5_; obtain ⟨M0, M1⟩ := two_cells (f9.blk HBM.out (fun h => h)); obtain ⟨N0, N1⟩ := two_cellsF (f9.blk HBM.out (fun h => h)); have HO9 := Lib.hid hown9; have HF9 := Lib.hid f9; have HG9 := Lib.hid hgM; clear hown9 hgrow9 hat9 hlt9 f9 hgM))
    all_goals
      go_wp2_with fail
      go_meet
      refine ⟨g, cap, by simpa using three_set (HF9.out.blk HBM.out (fun h => h)) 1 (.slice (some ⟨g, 0, none⟩) (l1 + 1) cap), ?_, (HFM.out.noTrans HF9.out).setCell (p := ⟨w7.heap.size, 1, none⟩) (.inr (Nat.le_refl _)) _⟩
      have hh := HO9.out
      rw [show flatF fs ++ [.int .i64 f.fr, .int .i64 f.to, .int .i64 f.ch, .int .i64 f.fi, .int .i64 f.un, .int .i64 f.fa] = flatF (fs ++ [f]) by simp [flatF, fdVals]] at hh
      exact (own_fds hh (by simp [HSP7.out.f.1])).other ((Fr.refl (only w7.heap.size) w9).setCell (p := ⟨w7.heap.size, 1, none⟩) (.inl rfl) _) (by have := HG9.out; simp only [only]; omega)
  case rest =>
  obtain ⟨g, cap, hbX, hwX, f8⟩ := hcut
  clear h2c m0_ m1_ p0_ p1_ p2_ p3_ p4_ p5_ HYM HBM HSZ HFM
  have HBX := Lib.hid hbX
  have HSQ8 := Lib.hid (show SpIn wc a0 l0 (some ⟨g, 0, none⟩) (l1 + 1) ss (fs ++ [f]) from ⟨HSP7.out.s.kept f8, hwX, HSP7.out.c⟩)
  clear hbX hwX
  have HB8 := Lib.hid (HB7.out.kept f8)
  have HST8 := Lib.hid (HST7.out.kept f8)
  have HSP8 := Lib.hid (HSP7.out.kept f8)
  have HQ8 := Lib.hid (HQ7.out.kept f8)
  clear f8
  clear HB7 HST7 HSP7 HQ7
  obtain ⟨s0, s1, s2, s3, s4, s5⟩ := six_cellsS HB8.out.a
  obtain ⟨x0, x1⟩ := two_cells HBX.out
  obtain ⟨j0, j1, j2, j3, j4, j5, j6, j7, j8, j9, j10⟩ := HQ8.out
  have K4 := Lib.hid (K4.out wc g cap HST8.out HSQ8.out)
  have K5 := Lib.hid (fun u h => K5.out u g cap h)
  cases hfd : fdB f
  · rw [hfd] at K4
    have K4 := Lib.hid (show Calls Try.prog 37 _ _ (fun e' w' => e' = .returned (.tuple #[.int .i64 0, .int .i64 1]) ∧ Fr no wc w') from K4.out)
    rw [hfd] at K5
    have K5 := Lib.hid (show ∀ u, SpIn u a0 l0 (some ⟨g, 0, none⟩) (l1 + 1) ss (fs ++ [f]) → Calls Try.prog 29 #[.agg #[.slice a0 l0 k0, .slice (some ⟨g, 0, none⟩) (l1 + 1) cap]] u (fun e' w' => e' = .returned (.int .i64 1) ∧ Fr no u w') from K5.out)
    go_wp2_with fail
    refine K4.out.mono ?_
    rintro e' w9 ⟨rfl, f9⟩
    have HF9 := Lib.hid (HB8.out.f.noTrans f9)
    have HSQ9 := Lib.hid (show SpIn w9 a0 l0 (some ⟨g, 0, none⟩) (l1 + 1) ss (fs ++ [f]) from HSQ8.out.kept f9)
    have HBY := Lib.hid (f9.blk HBX.out (fun h => h))
    clear f9 s0 s1 s2 s3 s4 s5 x0 x1 j0 j1 j2 j3 j4 j5 j6 j7 j8 j9 j10
    obtain ⟨x0, x1⟩ := two_cells HBY.out
    go_wp2_with fail
    refine (K5.out w9 HSQ9.out).mono ?_
    rintro e' wz ⟨rfl, fz⟩
    have HFZ := Lib.hid (HF9.out.noTrans fz)
    clear fz x0 x1
    go_wp2_with fail
    go_ret
    exact ⟨rfl, HFZ.out⟩
  · rw [hfd] at K4
    have K4 := Lib.hid (show Calls Try.prog 37 _ _ (fun e' w' => e' = .returned (.tuple #[.int .i64 AF, .int .i64 0]) ∧ Fr no wc w') from K4.out)
    obtain ⟨a0_, a1_⟩ := HFB.out hfd
    go_wp2_with fail
    refine K4.out.mono ?_
    rintro e' w9 ⟨rfl, f9⟩
    have HF9 := Lib.hid (HB8.out.f.noTrans f9)
    have HQ9 := Lib.hid (HQ8.out.kept f9)
    clear f9 s0 s1 s2 s3 s4 s5 x0 x1 j0 j1 j2 j3 j4 j5 j6 j7 j8 j9 j10 HBX HSQ8 HB8 HST8 HSP8 HQ8 K4 K5 HFB hfd
    obtain ⟨j0, j1, j2, j3, j4, j5, j6, j7, j8, j9, j10⟩ := HQ9.out
    have FN := HFN0.out
    have u0 : 0 ≤ FU := by have := FN.w0; have := FN.wp; have := FN.pf; omega
    have u1 := FN.fm
    have HFN := Lib.hid FN
    have um : 0 ≤ FU * f.fa ∧ FU * f.fa ≤ 68719476736 * 1000 := ⟨Int.mul_nonneg u0 a0_, Int.mul_le_mul u1 a1_ a0_ (by omega)⟩
    obtain ⟨um0, um1⟩ := um
    have HA := Lib.hid (show ftP qa qb qc qf f = ((f.fr == -1 || f.fr == qa) && (f.to == -1 || f.to == qb) && (f.ch == -1 || f.ch == qc) && (decide (f.fi ≤ qf) && decide (qf < f.un))) from rfl)
    clear FN
    go_wp2_with fail
    all_goals
      go_ret
      refine ⟨congrArg Ending.returned (congrArg Value.bool ?_), HF9.out⟩
      have HT := ft_iff qa qb qc qf f
      have ln := HFN.out.no
      have ll := HFN.out.le
      have ly := HFN.out.yes
      clear HA HFN HFN0
      first
        | (exfalso; omega)
        | (cases hb : ftP qa qb qc qf f
           · first
               | (rw [ln hb]; simp; done)
               | (exfalso; have hun := ‹(!decide (qf < f.un)) = false›; have hq : ftP qa qb qc qf f = true := HT.2 ⟨by omega, by omega, by omega, by omega, by simpa using hun⟩; rw [hb] at hq; cases hq)
           · obtain ⟨x1, x2, x3, x4, x5⟩ := HT.1 hb
             first
               | exact decide_eq_true (ly hb)
               | (exfalso; omega)
               | (exfalso; have hun := ‹(!decide (qf < f.un)) = true›; simp [x5] at hun))
end Go.Proofs.Ytdenlinehjigaaa
