/- SpectrumWorst. -/
import Derived.Test.YtdenlinehjigaaaLwG
import Derived.Test.YtdenlinehjigaaaWoM
import Derived.Laws.OwnMore
import Derived.Deep.AppendLies
namespace Go.Proofs.Ytdenlinehjigaaa
open Go.RowKit
set_option linter.unusedVariables false

def tmL (fs : List Fd) (k : Nat) : List Int := 0 :: 1099511627776 :: (fs.take k).map fun f => f.fi
def tmA (fs : List Fd) (i : Nat) : Int := (tmL fs fs.length).getD i 0
theorem tmL_len (fs : List Fd) (k : Nat) (h : k ≤ fs.length) : (tmL fs k).length = k + 2 := by simp [tmL, Nat.min_eq_left h]
theorem tmL_succ (fs : List Fd) (k : Nat) (hk : k < fs.length) : tmL fs (k + 1) = tmL fs k ++ [(fdAt fs k).fi] := by
  unfold tmL
  have h : fdAt fs k = fs[k] := by simp [fdAt, List.getD_eq_getElem?_getD, hk]
  rw [List.take_succ_eq_append_getElem hk, List.map_append, h]
  rfl
theorem tmA_fd (fs : List Fd) (k : Nat) (hk : k < fs.length) : tmA fs (k + 2) = (fdAt fs k).fi := by
  simp [tmA, tmL, hk, fdAt, List.getD_eq_getElem?_getD]
theorem tmA_in (fs : List Fd) (i : Nat) (hi : i < fs.length + 2) (hf : fs.all fdB = true) : inR (tmA fs i) 0 1099511627776 = true := by
  rcases i with _ | _ | k
  · exact inR_t.2 (by simp [tmA, tmL])
  · exact inR_t.2 (by simp [tmA, tmL])
  · rw [tmA_fd fs k (by omega)]
    have hv := List.all_eq_true.1 hf (fdAt fs k) (by simp [fdAt, List.getD_eq_getElem?_getD, show k < fs.length by omega])
    simp only [fdB, ivB, Bool.and_eq_true, decide_eq_true_eq] at hv
    exact inR_t.2 ⟨by omega, by omega⟩
theorem worst_facts {CS CB : Bool} {m0 : Nat} {e : Int} {ps : List Pt} {zs : List Int} {ws : List Wl} {a b : Int} {fs : List Fd} (h0 : 0 ≤ unV CS CB m0 e ps zs ws a b) (hE : unE CS CB m0 a b = 0) (hf : fs.all fdB = true) :
    ∃ (G : Nat → Nat → Int) (Wv : Int), 0 ≤ Wv ∧ wsV CS CB m0 e ps zs ws a b fs = Wv ∧ (∀ i j : Nat, i < fs.length + 2 → j < 16 → Wv ≤ G i j ∧ sgV CS CB m0 e ps zs ws a b j (tmA fs i) fs = G i j ∧ sgE CS CB m0 a b j (tmA fs i) = 0) ∧ ∃ i j, i < fs.length + 2 ∧ j < 16 ∧ G i j = Wv := by
  refine ⟨fun i j => unV CS CB m0 e ps zs ws a b * ftF a b j (tmA fs i) fs / 1000, unV CS CB m0 e ps zs ws a b * wtF a b fs / 1000, ?_, ?_, ?_, ?_⟩
  · exact Int.ediv_nonneg (Int.mul_nonneg h0 (lsF_bd _ fs hf).1) (by omega)
  · simp [wsV, hE]
  · intro i j hi hj
    have hc : chT j (tmA fs i) = true := by
      have h1 : inR (j : Int) 0 15 = true := inR_t.2 ⟨by omega, by omega⟩
      simp [chT, h1, tmA_in fs i hi hf]
    exact ⟨Int.ediv_le_ediv (by omega) (Int.mul_le_mul_of_nonneg_left (ft_ge _ _ _ _ _) h0), by simp [sgV, hE, hc], by simp [sgE, hE, hc]⟩
  · rcases ft_at a b fs hf with h | ⟨k, c, hk, hc, h⟩
    · exact ⟨0, 0, by omega, by omega, by simp only [h]⟩
    · exact ⟨k + 2, c, by omega, hc, by simp only [tmA_fd fs k hk, h]⟩
/-- The least so far, as the slot's value. -/
def LsV (n : Nat) (G : Nat → Nat → Int) (W : Int) (l : Value) (k c : Nat) : Prop := ∃ z, l = .int .i64 z ∧ LsI n G W z k c
theorem valsI_get (L : List Int) (i : Nat) (hi : i < L.length) : (valsI L)[i]? = some (.int .i64 (L.getD i 0)) := by
  simp [valsI, List.getD_eq_getElem?_getD, hi]
set_option maxRecDepth 20000 in
set_option maxHeartbeats 16000000 in
theorem worst_law (n0 : Option Addr) (m0 h0 : Nat) (n1 : Option Addr) (m1 h1 : Nat) (n2 : Option Addr) (m2 h2 : Nat) (e o th : Int) (ps : List Pt) (zs : List Int) (ws : List Wl) (a0 : Option Addr) (l0 k0 : Nat) (a1 : Option Addr) (l1 k1 : Nat) (ss : List Src) (fs : List Fd) (qa qb : Int) (w : World) (hst : StIn w n0 m0 n1 m1 n2 m2 ps zs ws) (hs : SrcsIn w a0 l0 ss) (hf : FdsIn w a1 l1 fs) :
    Calls Try.prog 10 #[.agg #[.slice n0 m0 h0, .slice n1 m1 h1, .slice n2 m2 h2, .int .i64 e, .int .i64 o, .int .i64 th], .agg #[.slice a0 l0 k0, .slice a1 l1 k1], .agg #[.int .i64 qa, .int .i64 qb]] w fun e' w' => e' = .returned (.bool true) ∧ Fr no w w' := by
  have hB := box3 w (.cells #[.slice n0 m0 h0, .slice n1 m1 h1, .slice n2 m2 h2, .int .i64 e, .int .i64 o, .int .i64 th] 26 (0, 0)) (.cells #[.slice a0 l0 k0, .slice a1 l1 k1] 47 (0, 0)) (.cells #[.int .i64 qa, .int .i64 qb] 72 (0, 0))
  obtain ⟨W, hW⟩ : ∃ W, W = ((w.alloc (.cells #[.slice n0 m0 h0, .slice n1 m1 h1, .slice n2 m2 h2, .int .i64 e, .int .i64 o, .int .i64 th] 26 (0, 0))).alloc (.cells #[.slice a0 l0 k0, .slice a1 l1 k1] 47 (0, 0))).alloc (.cells #[.int .i64 qa, .int .i64 qb] 72 (0, 0)) := ⟨_, rfl⟩
  rw [← hW] at hB
  have HB := Lib.hid hB
  have HW := Lib.hid hW
  have HST := Lib.hid (hst.kept hB.f)
  have HS := Lib.hid (hs.kept hB.f)
  have HFD := Lib.hid (hf.kept hB.f)
  clear hB hW hs hf hst
  go_enter Try.func10, Try.ntmps10
  go_wp2_with fail
  rw [← HW.out]
  refine (awake6_any W).mono ?_
  rintro e w0 ⟨rfl, f1⟩
  have HB0 := Lib.hid (HB.out.kept f1)
  have HST0 := Lib.hid (HST.out.kept f1)
  have HS0 := Lib.hid (HS.out.kept f1)
  have HFD0 := Lib.hid (HFD.out.kept f1)
  clear f1 HB HST HS HFD HW
  go_wp2_with fail
  have y0 : ∀ p : Past w0, p.u.cell? ⟨w.heap.size + 1 + 1, 0, none⟩ = some (.int .i64 qa) := fun p => (two_cells (HB0.out.kept p.h).c).1
  have y1 : ∀ p : Past w0, p.u.cell? ⟨w.heap.size + 1 + 1, 1, none⟩ = some (.int .i64 qb) := fun p => (two_cells (HB0.out.kept p.h).c).2
  refine wp_region_past (by kernel_rfl) (by kernel_rfl) ?_
  repeat (go_big_quiet_step (first | rfl))
  refine wpQuiet_nil ?_
  intro w1 hp
  have hu := past_out hp
  have HB1 := Lib.hid (HB0.out.kept hu)
  have HST1 := Lib.hid (HST0.out.kept hu)
  have HS1 := Lib.hid (HS0.out.kept hu)
  have HFD1 := Lib.hid (HFD0.out.kept hu)
  clear hp hu y0 y1 HB0 HST0 HS0 HFD0
  obtain ⟨s0, s1, s2, s3, s4, s5⟩ := six_cellsS HB1.out.a
  go_wp2_with fail
  refine (fewG_any n0 m0 h0 n1 m1 h1 n2 m2 h2 e o th w1).mono ?_
  rintro e w2 ⟨rfl, f2⟩
  have HB2 := Lib.hid (HB1.out.kept f2)
  have HST2 := Lib.hid (HST1.out.kept f2)
  have HS2 := Lib.hid (HS1.out.kept f2)
  have HFD2 := Lib.hid (HFD1.out.kept f2)
  obtain ⟨x0, x1⟩ := two_cells HB2.out.b
  clear f2 s0 s1 s2 s3 s4 s5 HB1 HST1 HS1 HFD1
  by_cases hg : m0 ≤ 40 ∧ m1 ≤ 40 ∧ m2 ≤ 40
  case neg =>
    have hgd : decide (m0 ≤ 40 ∧ m1 ≤ 40 ∧ m2 ≤ 40) = false := decide_eq_false hg
    clear hg
    rw [hgd]
    go_wp2_with fail
    go_ret
    exact ⟨rfl, HB2.out.f⟩
  have hgd : decide (m0 ≤ 40 ∧ m1 ≤ 40 ∧ m2 ≤ 40) = true := decide_eq_true hg
  clear hg
  rw [hgd]
  clear hgd
  go_wp2_with fail
  refine (fewS_any a0 l0 k0 a1 l1 k1 ss w2 HS2.out).mono ?_
  rintro e w3 ⟨rfl, f3⟩
  have HB3 := Lib.hid (HB2.out.kept f3)
  have HST3 := Lib.hid (HST2.out.kept f3)
  have HS3 := Lib.hid (HS2.out.kept f3)
  have HFD3 := Lib.hid (HFD2.out.kept f3)
  clear f3 x0 x1 HB2 HST2 HS2 HFD2
  cases hfew : fewB l0 l1 ss
  case false =>
    clear hfew
    go_wp2_with fail
    go_ret
    exact ⟨rfl, HB3.out.f⟩
  have HSP3 := Lib.hid (show SpIn w3 a0 l0 a1 l1 ss fs from ⟨HS3.out, HFD3.out, fun i hi => by have := (fewB_t HS3.out.1 hfew).2.2 i hi; omega⟩)
  clear hfew HS3 HFD3
  have K5 := worst_any n0 m0 h0 n1 m1 h1 n2 m2 h2 e o th ps zs ws a0 l0 k0 a1 l1 k1 ss fs qa qb w3 HST3.out HSP3.out
  obtain ⟨s0, s1, s2, s3, s4, s5⟩ := six_cellsS HB3.out.a
  obtain ⟨x0, x1⟩ := two_cells HB3.out.b
  by_cases hE : unE (ckS l0 l1 ss fs) (ckB m0 m1 m2 e o th ps zs ws) m0 qa qb = 0
  case neg =>
    have hW0 : wsV (ckS l0 l1 ss fs) (ckB m0 m1 m2 e o th ps zs ws) m0 e ps zs ws qa qb fs = 0 := by simp [wsV, hE]
    rw [hW0] at K5
    clear hW0
    generalize unE (ckS l0 l1 ss fs) (ckB m0 m1 m2 e o th ps zs ws) m0 qa qb = r at *
    have K5 := Lib.hid K5
    go_wp2_with fail
    refine K5.out.mono ?_
    rintro e w4 ⟨rfl, f4⟩
    have HF4 := Lib.hid (HB3.out.f.noTrans f4)
    clear f4 s0 s1 s2 s3 s4 s5 x0 x1 HST3 HSP3
    go_wp2_with fail
    go_ret
    exact ⟨rfl, HF4.out⟩
  have hck := (unE_0 hE).1
  obtain ⟨l16, l64, hss, hfs⟩ := ckS_len hck
  have hV := (unV_bd (e := e) (o := o) (th := th) (ps := ps) (zs := zs) (ws := ws) (ss := ss) (fs := fs) HST3.out.z.1 hE).1
  obtain ⟨G, Wv, hW0, hWv, hG, hX⟩ := worst_facts hV hE hfs
  have hfl : fs.length = l1 := HSP3.out.f.1
  rw [hfl] at hG hX
  have K3 := Lib.hid (show ∀ (w : World) (i j : Nat), i < l1 + 2 → j < 16 → StIn w n0 m0 n1 m1 n2 m2 ps zs ws → SpIn w a0 l0 a1 l1 ss fs → Calls Try.prog 37 #[.agg #[.slice n0 m0 h0, .slice n1 m1 h1, .slice n2 m2 h2, .int .i64 e, .int .i64 o, .int .i64 th], .agg #[.slice a0 l0 k0, .slice a1 l1 k1], .int .i64 qa, .int .i64 qb, .int .i64 (j : Int), .int .i64 (tmA fs i)] w (fun e' w' => e' = .returned (.tuple #[.int .i64 (G i j), .int .i64 0]) ∧ Fr no w w') from by
    intro w i j hi hj h1_ h2_
    have := signal_any n0 m0 h0 n1 m1 h1 n2 m2 h2 e o th ps zs ws a0 l0 k0 a1 l1 k1 ss fs qa qb (j : Int) (tmA fs i) w h1_ h2_
    rw [(hG i j hi hj).2.1, (hG i j hi hj).2.2] at this
    exact this)
  rw [hWv, hE] at K5
  have HG := Lib.hid (fun i j hi hj => (hG i j hi hj).1)
  have HX := Lib.hid hX
  have HL := Lib.hid hfl
  have HTM := Lib.hid (show ∀ i, i < l1 + 2 → (tmL fs l1).getD i 0 = tmA fs i from fun i hi => by rw [← hfl]; rfl)
  clear hck l16 hss hfs hV hG hX hWv hE hfl
  have K5 := Lib.hid K5
  go_wp2_with fail
  refine K5.out.mono ?_
  rintro e w4 ⟨rfl, f4⟩
  have HB4 := Lib.hid (HB3.out.kept f4)
  have HST4 := Lib.hid (HST3.out.kept f4)
  have HSP4 := Lib.hid (HSP3.out.kept f4)
  clear f4 s0 s1 s2 s3 s4 s5 x0 x1 HST3 HSP3 HB3 K5
  obtain ⟨x0, x1⟩ := two_cells HB4.out.b
  have hltx := World.block_lt_of_cell? w4 _ x1
  obtain ⟨i0, hi, hz0, hz1, hz2⟩ := info_parts info3N
  go_wp2_with fail
  go_loopw [11, 13, 50] (fun v _ i wr => ∃ k : Nat, k ≤ l1 ∧ i = .int .i64 k ∧ Hid (OwnI w4.heap.size wr v (tmL fs k)) ∧ Hid (Fr no w4 wr)) (fun _ _ i _ => l1 - (intOf i).toNat)
  case atStart => exact ⟨0, by omega, rfl, Lib.hid (by show World.ownsRow _ _ 3 1 _ 2 _; exact World.ownsRow_lit w4 #[.int .i64 0, .int .i64 1099511627776] 2 (Nat.le_refl _) (by decide) rfl), Lib.hid ((Fr.refl _ _).alloc _)⟩
  case round =>
    obtain ⟨k, hk, rfl, ho, F⟩ := hrel
    by_cases hlt : k < l1
    · obtain ⟨b, off, rfl, e0, e1, e2, e3, e4, e5⟩ := (HSP4.out.kept F.out).f.2 k hlt
      have HN := Lib.hid (tmL_succ fs k (by have := HL.out; omega))
      have HLn := Lib.hid (tmL_len fs k (by have := HL.out; omega))
      have hkI : (k : Int) < (l1 : Int) := by omega
      have hlt0 := World.block_lt_of_cell? wr _ e0
      generalize tmL fs k = L at *
      generalize fdAt fs k = f at *
      have hown : World.ownsRow wr w4.heap.size 3 1 _ L.length (valsI L) := ho.out
      clear x0 x1 hltx
      go_wp2_with (at_builtin; refine wpList_append_own _ rfl (.tmp 54) (.tmp 57) 23 rfl w4.heap.size 3 i0 (.int .i64 0) 1 8 Try.underlying23 hi hz0 hz1 hz2 rfl (by decide) _ _ _ rfl ((hown.alloc _).alloc _) _ 1 1 [.int .i64 f.fi] rfl rfl ?c1 ?c2 ?c3 ?c4 ?c5 ?_)
      try (case c1 => exact World.news_of_block (cs := #[.int .i64 f.fi]) (t := 3) (fr := (0, 0)) (heap_alloc_new _ _))
      case c2 => simp [Value.oneCell']
      case c3 => have := HLn.out; unfold maxLen; omega
      case c4 => have := HLn.out; omega
      case c5 => have := F.out.size; simp; omega
      intro v' w7 hown7 hgrow7 _
      have F7 := Lib.hid (show Fr no w4 w7 from ((F.out.alloc _).alloc _).grown hgrow7 (fun j hj => .inr (own_geN hown j hj)))
      have HO7 := Lib.hid (show OwnI w4.heap.size w7 v' (L ++ [f.fi]) by
        unfold OwnI valsI
        rw [List.length_append, List.map_append]
        exact hown7)
      clear hown7 hgrow7 hown
      go_wp2_with fail
      exact ⟨⟨k + 1, by omega, by go_num, by rw [HN.out]; exact HO7, F7⟩, by simp [intOf]; omega⟩
    · obtain rfl : k = l1 := by omega
      have HLn := Lib.hid (tmL_len fs k (by have := HL.out; omega))
      obtain ⟨g, cap, hu, hg1, hg2⟩ := World.ownsRow.form ho.out (by rw [HLn.out]; omega)
      subst hu
      have HOW := Lib.hid (show ∀ (u : World) (i : Nat), Fr no wr u → i < k + 2 → u.cell? ⟨g, i, none⟩ = some (.int .i64 (tmA fs i)) from by
        intro u i hu hi
        have h1 := World.ownsRow.cellAt (OwnI.kept ho.out hu) i (by rw [HLn.out]; omega)
        rw [h1, valsI_get _ _ (by rw [HLn.out]; exact hi), HTM.out i hi])
      rw [HLn.out] at *
      have HB5 := Lib.hid (HB4.out.kept F.out)
      have HST5 := Lib.hid (HST4.out.kept F.out)
      have HSP5 := Lib.hid (HSP4.out.kept F.out)
      clear HB4 HST4 HSP4 F ho HTM HLn x0 x1 hg1 hltx
      obtain ⟨wt, hwt⟩ : ∃ wt : World, wt = wr := ⟨_, rfl⟩
      subst hwt
      go_wp2_with fail
      go_loopw [14, 16, 17, 18, 19, 62] (fun l _ _ _ _ i wq => ∃ q : Nat, q ≤ k + 2 ∧ i = .int .i64 q ∧ Hid (LsV (k + 2) G Wv l q 0) ∧ Hid (Fr no wt wq)) (fun _ _ _ _ _ i _ => (k + 2) - (intOf i).toNat)
      case atStart => exact ⟨0, by omega, rfl, Lib.hid ⟨-1, rfl, LsI.start⟩, Lib.hid (Fr.refl _ _)⟩
      case round =>
        obtain ⟨q, hq, rfl, HI0, F⟩ := hrel
        obtain ⟨z, rfl, hI0⟩ := HI0.out
        have HI := Lib.hid hI0
        clear HI0 hI0
        by_cases hlq : q < k + 2
        · have hqI : (q : Int) < ((k + 2 : Nat) : Int) := by omega
          have dq : decide ((q : Int) < (k : Int) + 2) = true := decide_eq_true (by omega)
          have c0 := HOW.out _ q F.out hlq
          have HB6 := Lib.hid (HB5.out.kept F.out)
          have HST6 := Lib.hid (HST5.out.kept F.out)
          have HSP6 := Lib.hid (HSP5.out.kept F.out)
          have HF6 := Lib.hid F.out
          clear F
          obtain ⟨wo, hwo⟩ : ∃ wo : World, wo = wr := ⟨_, rfl⟩
          subst hwo
          have HT := Lib.hid (fun w j hj h1_ h2_ => K3.out w q j hlq hj h1_ h2_)
          have HGq := Lib.hid (fun j hj => HG.out q j hlq hj)
          generalize tmA fs q = t at *
          go_wp2_with fail
          go_loopw [14, 17, 18, 19, 66] (fun l _ _ _ i wq => ∃ c : Nat, c ≤ 16 ∧ i = .int .i64 c ∧ Hid (LsV (k + 2) G Wv l q c) ∧ Hid (Fr no wo wq)) (fun _ _ _ _ i _ => 16 - (intOf i).toNat)
          case atStart => exact ⟨0, by omega, rfl, Lib.hid ⟨z, rfl, HI.out⟩, Lib.hid (Fr.refl _ _)⟩
          case round =>
            obtain ⟨c, hc, rfl, HI0, F⟩ := hrel
            obtain ⟨z, rfl, hI0⟩ := HI0.out
            have HI := Lib.hid hI0
            clear HI0 hI0
            by_cases hlc : c < 16
            · have hcI : (c : Int) < 16 := by omega
              obtain ⟨s0, s1, s2, s3, s4, s5⟩ := six_cellsS (HB6.out.kept F.out).a
              obtain ⟨x0, x1⟩ := two_cells (HB6.out.kept F.out).b
              have HC := Lib.hid (HT.out wr c hlc (HST6.out.kept F.out) (HSP6.out.kept F.out))
              have HN := Lib.hid (HI.out.step hW0 (HGq.out c hlc))
              have hg := HGq.out c hlc
              generalize G q c = y at *
              go_wp2_with fail
              refine HC.out.mono ?_
              rintro e' w7 ⟨rfl, f7⟩
              have F7 := Lib.hid (F.out.noTrans f7)
              clear f7 s0 s1 s2 s3 s4 s5 x0 x1 F HC
              by_cases h1 : z < 0
              · have HV := Lib.hid (show LsI (k + 2) G Wv y q (c + 1) by have := HN.out; rwa [if_pos (.inl h1)] at this)
                have HL := Lib.hid (show LsV (k + 2) G Wv (.int .i64 y) q (c + 1) from ⟨y, rfl, HV.out⟩)
                have d1 : decide (z < 0) = true := decide_eq_true h1
                clear HN
                go_wp2_with fail
                all_goals first
                  | (exfalso; omega)
                  | exact ⟨⟨_, _, _, _, _, _, ⟨c + 1, by omega, by go_num, HL⟩, rfl, rfl, rfl, rfl, rfl, rfl⟩, by simp [intOf]; omega⟩
                  | (go_roundw
                     case rel => exact ⟨c + 1, by omega, by go_num, HL, F7⟩
                     case measure => simp [intOf]; omega)
              · by_cases h2 : y < z
                · have HV := Lib.hid (show LsI (k + 2) G Wv y q (c + 1) by have := HN.out; rwa [if_pos (.inr h2)] at this)
                  have HL := Lib.hid (show LsV (k + 2) G Wv (.int .i64 y) q (c + 1) from ⟨y, rfl, HV.out⟩)
                  have d1 : decide (z < 0) = false := decide_eq_false h1
                  have d2 : decide (y < z) = true := decide_eq_true h2
                  clear HN
                  go_wp2_with fail
                  all_goals first
                    | (exfalso; omega)
                    | exact ⟨⟨_, _, _, _, _, _, ⟨c + 1, by omega, by go_num, HL⟩, rfl, rfl, rfl, rfl, rfl, rfl⟩, by simp [intOf]; omega⟩
                    | (go_roundw
                       case rel => exact ⟨c + 1, by omega, by go_num, HL, F7⟩
                       case measure => simp [intOf]; omega)
                · have HV := Lib.hid (show LsI (k + 2) G Wv z q (c + 1) by have := HN.out; rwa [if_neg (by omega)] at this)
                  have HL := Lib.hid (show LsV (k + 2) G Wv (.int .i64 z) q (c + 1) from ⟨z, rfl, HV.out⟩)
                  have d1 : decide (z < 0) = false := decide_eq_false h1
                  have d2 : decide (y < z) = false := decide_eq_false h2
                  clear HN
                  go_wp2_with fail
                  all_goals first
                    | (exfalso; omega)
                    | exact ⟨⟨_, _, _, _, _, _, ⟨c + 1, by omega, by go_num, HL⟩, rfl, rfl, rfl, rfl, rfl, rfl⟩, by simp [intOf]; omega⟩
                    | (go_roundw
                       case rel => exact ⟨c + 1, by omega, by go_num, HL, F7⟩
                       case measure => simp [intOf]; omega)
            · obtain rfl : c = 16 := by omega
              have HV := Lib.hid HI.out.row
              have F7 := Lib.hid (HF6.out.noTrans F.out)
              clear F HI
              go_wp2_with fail
              all_goals first | exact ⟨⟨q + 1, by omega, by go_num, Lib.hid ⟨z, rfl, HV.out⟩, F7⟩, by simp [intOf]; omega⟩ | exact ⟨⟨_, _, _, _, _, _, _, ⟨q + 1, by omega, by go_num, Lib.hid ⟨z, rfl, HV.out⟩, F7⟩, rfl, rfl, rfl, rfl, rfl, rfl, rfl⟩, by simp [intOf]; omega⟩
        · obtain rfl : q = k + 2 := by omega
          have HF9 := Lib.hid (HB5.out.f.noTrans F.out)
          obtain ⟨i, j, hi2, hj2, hij⟩ := HX.out
          obtain rfl : z = Wv := HI.out.done (by omega) i j hi2 hj2 hij
          clear F HI hij
          go_wp2_with fail
          go_ret
          exact ⟨by simp, HF9.out⟩
end Go.Proofs.Ytdenlinehjigaaa
