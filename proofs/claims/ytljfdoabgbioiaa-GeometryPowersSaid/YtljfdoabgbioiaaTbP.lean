/- The program's table. -/
import Derived.Test.YtljfdoabgbioiaaEqf
import Derived.OwnWalk
import Derived.Laws.OwnMore
namespace Go.Proofs.Ytljfdoabgbioiaa
open Go.RowKit
set_option linter.unusedVariables false

theorem own_at {w w' : World} {B e s n T : Nat} {v : Value} {xs : List Value} (h : w.ownsRow B e s v n xs) (hf : Fr (only T) w w') (hn : v.ownBlock ≠ some T) : w'.ownsRow B e s v n xs :=
  World.ownsRow.kept h (hf.grownBy (some T) (fun k _ hk => by rw [show k = T from hk])) (.inr hn)
theorem take_set (L : List Int) (m : Nat) (s : Int) (h : m < L.length) : (L.set m s).take (m + 1) = L.take m ++ [s] := by
  induction L generalizing m with
  | nil => simp at h
  | cons a l ih =>
    cases m with
    | zero => simp
    | succ m => simp [ih m (by simpa using h)]
theorem made_ints (n : Nat) : (madeCells #[Value.int .i64 0] n).toList = (List.replicate n (0 : Int)).map fun z : Int => Value.int .i64 z := by
  refine List.ext_getElem (by simp [madeCells]) fun i h1 h2 => ?_
  simp [madeCells, Nat.mod_one]
/-- The first k values of a list are rows of a table. -/
def Some (B : Nat) (w : World) (vs : List Value) (k : Nat) (r : Nat → List Int) : Prop := ∀ i v, i < k → vs[i]? = some v → RowI B w v (r i)
theorem Some.kept {B k : Nat} {w w' : World} {vs : List Value} {r : Nat → List Int} (h : Some B w vs k r) (hf : Fr no w w') : Some B w' vs k r := fun i v hi hv => (h i v hi hv).kept hf
set_option maxHeartbeats 8000000 in
theorem table_1 (a0 : Option Addr) (l0 k0 : Nat) (a1 : Option Addr) (l1 k1 : Nat) (a2 : Option Addr) (l2 k2 : Nat) (e o t : Int) (ps : List Pt) (zs : List Int) (ws : List Wl) (w : World) (hp : PtsIn w a0 l0 ps) (hz : IntsIn w a1 l1 zs) (hw : WlsIn w a2 l2 ws) (g0 : (ckB l0 l1 l2 e o t ps zs ws) = true) : Calls Try.prog 22 #[.agg #[.slice a0 l0 k0, .slice a1 l1 k1, .slice a2 l2 k2, .int .i64 e, .int .i64 o, .int .i64 t]] w fun e' w' => TabRes w w' 0 (tabF e ps zs ws l0 l0) e' := by
  have KS := Lib.hid (show ∀ w0 w' : World, Fr no w0 w' → w0.cell? ⟨w.heap.size, 0, none⟩ = some (.slice a0 l0 k0) → w0.cell? ⟨w.heap.size, 1, none⟩ = some (.slice a1 l1 k1) → w0.cell? ⟨w.heap.size, 2, none⟩ = some (.slice a2 l2 k2) → w0.cell? ⟨w.heap.size, 3, none⟩ = some (.int .i64 e) → w0.cell? ⟨w.heap.size, 4, none⟩ = some (.int .i64 o) → w0.cell? ⟨w.heap.size, 5, none⟩ = some (.int .i64 t) → (w'.cell? ⟨w.heap.size, 0, none⟩ = some (.slice a0 l0 k0) ∧ w'.cell? ⟨w.heap.size, 1, none⟩ = some (.slice a1 l1 k1) ∧ w'.cell? ⟨w.heap.size, 2, none⟩ = some (.slice a2 l2 k2) ∧ w'.cell? ⟨w.heap.size, 3, none⟩ = some (.int .i64 e) ∧ w'.cell? ⟨w.heap.size, 4, none⟩ = some (.int .i64 o) ∧ w'.cell? ⟨w.heap.size, 5, none⟩ = some (.int .i64 t)) from fun _ _ h a0 a1 a2 a3 a4 a5 => ⟨h.keepc a0, h.keepc a1, h.keepc a2, h.keepc a3, h.keepc a4, h.keepc a5⟩)
  obtain ⟨W, hW⟩ : ∃ W, W = (w.alloc (.cells #[.slice a0 l0 k0, .slice a1 l1 k1, .slice a2 l2 k2, .int .i64 e, .int .i64 o, .int .i64 t] 34 (0, 0))) := ⟨_, rfl⟩
  have HF := Lib.hid (show Fr no w W by rw [hW]; exact (Fr.refl no w).alloc _)
  have c0 : W.cell? ⟨w.heap.size, 0, none⟩ = some (.slice a0 l0 k0) := by rw [hW]; go_simp
  have c1 : W.cell? ⟨w.heap.size, 1, none⟩ = some (.slice a1 l1 k1) := by rw [hW]; go_simp
  have c2 : W.cell? ⟨w.heap.size, 2, none⟩ = some (.slice a2 l2 k2) := by rw [hW]; go_simp
  have c3 : W.cell? ⟨w.heap.size, 3, none⟩ = some (.int .i64 e) := by rw [hW]; go_simp
  have c4 : W.cell? ⟨w.heap.size, 4, none⟩ = some (.int .i64 o) := by rw [hW]; go_simp
  have c5 : W.cell? ⟨w.heap.size, 5, none⟩ = some (.int .i64 t) := by rw [hW]; go_simp
  have HW := Lib.hid hW
  clear hW
  have K24 := fun w' (h : Fr no w w') => check_any a0 l0 k0 a1 l1 k1 a2 l2 k2 e o t ps zs ws w' (hp.kept h) (hz.kept h) (hw.kept h)
  rw [g0, show ckE true = 0 from rfl] at K24
  have K24 := Lib.hid K24
  have hg := ckB_t g0
  have KB := Lib.hid (fun (a b : Nat) (ha : a < l0) (hb : b < l0) w' (h : Fr no w w') => between_any a0 l0 k0 a1 l1 k1 a2 l2 k2 e o t ps zs ws a b w' (hp.kept h) (hz.kept h) (hw.kept h) hg ha hb)
  have q2 : (2 : Int) ≤ (l0 : Int) := by have := hg.n0; omega
  have q3 : (l0 : Int) ≤ 32 := by have := hg.n1; omega
  clear hp hz hw g0 hg
  obtain ⟨i0, hi, hz0, hz1, hz2⟩ := info_parts info3
  obtain ⟨i1, hj, hj0, hj1, hj2⟩ := info_parts info31
  go_enter Try.func22, Try.ntmps22
  go_wp2_with fail
  rw [← HW.out]
  refine (K24.out _ HF.out).mono ?_
  rintro e y1 ⟨rfl, f1⟩
  obtain ⟨d1_0, d1_1, d1_2, d1_3, d1_4, d1_5⟩ := KS.out _ _ f1 c0 c1 c2 c3 c4 c5
  have HF1 := Lib.hid (HF.out.noTrans f1)
  clear f1 c0 c1 c2 c3 c4 c5
  have HC0 := Lib.hid d1_0
  have HC1 := Lib.hid d1_1
  have HC2 := Lib.hid d1_2
  have HC3 := Lib.hid d1_3
  have HC4 := Lib.hid d1_4
  have HC5 := Lib.hid d1_5
  go_wp2_with (refine wpList_make_full _ rfl (.tmp 12) (.tmp 12) 42 rfl y1.heap.size 31 i1 (.slice none 0 0) 1 Try.underlying42 hj hj0 hj1 .i64 .i64 (l0 : Int) (l0 : Int) l0 rfl rfl rfl rfl ?m1 ?m2 ?m3 ?_)
  case m1 => rw [hj2]; omega
  case m2 => unfold maxLen; omega
  case m3 => exact Nat.le_refl _
  intro y2 hown2 hgrow2
  obtain ⟨vs0, hv0⟩ : ∃ vs0 : List Value, y2.ownsRow y1.heap.size 31 1 (.slice (some ⟨y1.heap.size, 0, none⟩) l0 l0) l0 vs0 := ⟨_, hown2⟩
  have hvl : vs0.length = l0 := by have := hv0.1; simpa using this
  have HL2 := Lib.hid (show ListV y1.heap.size y2 (.slice (some ⟨y1.heap.size, 0, none⟩) l0 l0) vs0 by unfold ListV; rw [hvl]; exact hv0)
  have f2 : Fr no y1 y2 := (Fr.refl no y1).grown hgrow2 (fun k hk => by cases hk)
  have HF2 := Lib.hid (HF1.out.noTrans f2)
  have HF2r := Lib.hid f2
  have HS := Lib.hid (show w.heap.size ≤ y1.heap.size from HF1.out.size)
  have HB0 := Lib.hid (show w.heap.size < y1.heap.size from blt d1_0)
  clear hown2 hv0 f2 hgrow2 d1_0 d1_1 d1_2 d1_3 d1_4 d1_5
  go_wp2_with fail
  go_loopw [5, 6, 16] (fun _ _ i wr => ∃ (k : Nat) (vs : List Value), k ≤ l0 ∧ i = .int .i64 k ∧ vs.length = l0 ∧ Hid (ListV y1.heap.size wr (.slice (some ⟨y1.heap.size, 0, none⟩) l0 l0) vs) ∧ Hid (Some y1.heap.size wr vs k (fun a => rowF e ps zs ws a l0)) ∧ Fr no y1 wr) (fun _ _ i _ => l0 - (intOf i).toNat)
  case atStart => exact ⟨0, vs0, by omega, rfl, hvl, HL2, Lib.hid (fun i v h _ => by omega), HF2r.out⟩
  case round =>
    obtain ⟨k, vs, hk, rfl, hvl', ho, hr, hf⟩ := hrel
    have HFr := Lib.hid hf
    have HVL := Lib.hid hvl'
    clear hf hvl hvl'
    have r0 := HFr.out.keepc HC0.out
    have r1 := HFr.out.keepc HC1.out
    have r2 := HFr.out.keepc HC2.out
    have r3 := HFr.out.keepc HC3.out
    have r4 := HFr.out.keepc HC4.out
    have r5 := HFr.out.keepc HC5.out
    by_cases hlt : k < l0
    · obtain ⟨wo, hwo⟩ : ∃ wo : World, wo = wr := ⟨_, rfl⟩
      subst hwo
      have hkI : (k : Int) < (l0 : Int) := by omega
      have HSo := Lib.hid (show y1.heap.size ≤ wo.heap.size from HFr.out.size)
      have hLo : World.ownsRow wo y1.heap.size 31 1 (.slice (some ⟨y1.heap.size, 0, none⟩) l0 l0) l0 vs := by have := ho.out; unfold ListV at this; rwa [HVL.out] at this
      have hTl := (World.ownsRow.lt hLo y1.heap.size rfl).2
      have HLo := Lib.hid hLo
      have HTl := Lib.hid hTl
      clear hLo hTl
      go_wp2_with (refine wpList_make_full _ rfl (.tmp 23) (.tmp 23) 31 rfl wo.heap.size 3 i0 (.int .i64 0) 1 Try.underlying31 hi hz0 hz1 .i64 .i64 (l0 : Int) (l0 : Int) l0 rfl rfl rfl rfl ?p1 ?p2 ?p3 ?_)
      case p1 => rw [hz2]; omega
      case p2 => unfold maxLen; omega
      case p3 => exact Nat.le_refl _
      intro w2 hown3 hgrow3
      rw [made_ints] at hown3
      have f3 : Fr no wo w2 := (Fr.refl no wo).grown hgrow3 (fun k hk => by cases hk)
      have hL2 := World.ownsRow.kept HLo.out f3.growNo (Classical.em _)
      have cT : ∃ v, w2.cell? ⟨y1.heap.size, k, none⟩ = some v := ⟨_, (hL2.cellAt k (by omega)).trans (List.getElem?_eq_getElem (by have := HVL.out; omega))⟩
      obtain ⟨vT, cT⟩ := cT
      have fT := hL2.frozenAt k
      obtain ⟨W3, hW3⟩ : ∃ W, W = w2.setCell ⟨y1.heap.size, k, none⟩ (.slice (some ⟨wo.heap.size, 0, none⟩) l0 l0) := ⟨_, rfl⟩
      have F3 : Fr (only y1.heap.size) wo W3 := by rw [hW3]; exact (f3.mono (S' := only y1.heap.size) (fun i _ h => h.elim)).setCell (p := ⟨y1.heap.size, k, none⟩) (.inl rfl) _
      have hL3 := (hL2.stored k (.slice (some ⟨wo.heap.size, 0, none⟩) l0 l0)).1
      have hW3' : W3.ownsRow wo.heap.size 3 1 (.slice (some ⟨wo.heap.size, 0, none⟩) l0 l0) l0 ((List.replicate l0 (0 : Int)).map fun z : Int => Value.int .i64 z) := by
        rw [hW3]
        exact own_at hown3 ((Fr.refl (only y1.heap.size) w2).setCell (p := ⟨y1.heap.size, k, none⟩) (.inl rfl) _) (by have := HTl.out; simp [Value.ownBlock]; omega)
      rw [← hW3] at hL3
      have c3 : W3.cell? ⟨y1.heap.size, k, none⟩ = some (.slice (some ⟨wo.heap.size, 0, none⟩) l0 l0) := by
        rw [hL3.cellAt k (by omega)]
        simp [HVL.out, hlt]
      have n0 : w.heap.size ≠ y1.heap.size := by have := HB0.out; omega
      have HL3 := Lib.hid hL3
      have HW3o := Lib.hid hW3'
      have HF3 := Lib.hid F3
      have HW3 := Lib.hid hW3
      have Hc3 := Lib.hid c3
      have Hn0 := Lib.hid n0
      clear hown3 hgrow3 f3 hL2 hL3 hW3' F3 hW3 c3
      go_wp2_with fail
      rw [← HW3.out]
      clear cT fT n0
      go_loopw [6, 31] (fun _ j wr => ∃ (m : Nat) (L : List Int), m ≤ l0 ∧ j = .int .i64 m ∧ L.length = l0 ∧ Hid (wr.ownsRow wo.heap.size 3 1 (.slice (some ⟨wo.heap.size, 0, none⟩) l0 l0) l0 (L.map fun z : Int => Value.int .i64 z)) ∧ Hid (L.take m = rowF e ps zs ws k m) ∧ Fr (only wo.heap.size) W3 wr) (fun _ j _ => l0 - (intOf j).toNat)
      case atStart => exact ⟨0, List.replicate l0 0, by omega, rfl, by simp, HW3o, Lib.hid (by simp [rowF]), Fr.refl _ _⟩
      case round =>
        obtain ⟨m, L, hm, rfl, hLl, hq, ht, hf⟩ := hrel
        have HFi := Lib.hid hf
        have HLl := Lib.hid hLl
        have g1 : w.heap.size ≠ wo.heap.size := by have := HB0.out; have := HSo.out; omega
        have g2 : y1.heap.size ≠ wo.heap.size := by have := HTl.out; omega
        have tc := HFi.out.keepc0 Hc3.out g2.symm.symm
        have g1s := g1.symm
        have g2s := g2.symm
        clear hf hLl r0 r1 r2 r3 r4 r5
        have s0 := HFi.out.keepc0 (HF3.out.keepc0 (HFr.out.keepc HC0.out) Hn0.out) g1
        have s1 := HFi.out.keepc0 (HF3.out.keepc0 (HFr.out.keepc HC1.out) Hn0.out) g1
        have s2 := HFi.out.keepc0 (HF3.out.keepc0 (HFr.out.keepc HC2.out) Hn0.out) g1
        have s3 := HFi.out.keepc0 (HF3.out.keepc0 (HFr.out.keepc HC3.out) Hn0.out) g1
        have s4 := HFi.out.keepc0 (HF3.out.keepc0 (HFr.out.keepc HC4.out) Hn0.out) g1
        have s5 := HFi.out.keepc0 (HF3.out.keepc0 (HFr.out.keepc HC5.out) Hn0.out) g1
        have s6 := tc
        by_cases hlm : m < l0
        · have HN := Lib.hid (rowF_succ e ps zs ws k m)
          have hmI : (m : Int) < (l0 : Int) := by omega
          have FW : Fr no w wr := ((HF1.out.noTrans HFr.out).trans HF3.out (fun i hi h => by have := HB0.out; have := HS.out; simp only [only] at h; omega)).trans HFi.out (fun i hi h => by have := HS.out; have := HSo.out; simp only [only] at h; omega)
          have K5 := KB.out k m hlt hlm _ FW.drew
          generalize btF e ps zs ws k m = s at *
          have K5 := Lib.hid K5
          clear FW
          go_wp2_with fail
          have KR := Lib.hid (show ∀ w0 w' : World, Fr no w0 w' → w0.cell? ⟨w.heap.size, 0, none⟩ = some (.slice a0 l0 k0) → w0.cell? ⟨w.heap.size, 1, none⟩ = some (.slice a1 l1 k1) → w0.cell? ⟨w.heap.size, 2, none⟩ = some (.slice a2 l2 k2) → w0.cell? ⟨w.heap.size, 3, none⟩ = some (.int .i64 e) → w0.cell? ⟨w.heap.size, 4, none⟩ = some (.int .i64 o) → w0.cell? ⟨w.heap.size, 5, none⟩ = some (.int .i64 t) → w0.cell? ⟨y1.heap.size, k, none⟩ = some (.slice (some ⟨wo.heap.size, 0, none⟩) l0 l0) → (w'.cell? ⟨w.heap.size, 0, none⟩ = some (.slice a0 l0 k0) ∧ w'.cell? ⟨w.heap.size, 1, none⟩ = some (.slice a1 l1 k1) ∧ w'.cell? ⟨w.heap.size, 2, none⟩ = some (.slice a2 l2 k2) ∧ w'.cell? ⟨w.heap.size, 3, none⟩ = some (.int .i64 e) ∧ w'.cell? ⟨w.heap.size, 4, none⟩ = some (.int .i64 o) ∧ w'.cell? ⟨w.heap.size, 5, none⟩ = some (.int .i64 t) ∧ w'.cell? ⟨y1.heap.size, k, none⟩ = some (.slice (some ⟨wo.heap.size, 0, none⟩) l0 l0)) from fun _ _ h a0 a1 a2 a3 a4 a5 a6 => ⟨h.keepc a0, h.keepc a1, h.keepc a2, h.keepc a3, h.keepc a4, h.keepc a5, h.keepc a6⟩)
          have tokf5 : True := trivial
          go_region_held3 (fun w' => w'.cell? ⟨w.heap.size, 0, none⟩ = some (.slice a0 l0 k0) ∧ w'.cell? ⟨w.heap.size, 1, none⟩ = some (.slice a1 l1 k1) ∧ w'.cell? ⟨w.heap.size, 2, none⟩ = some (.slice a2 l2 k2) ∧ w'.cell? ⟨w.heap.size, 3, none⟩ = some (.int .i64 e) ∧ w'.cell? ⟨w.heap.size, 4, none⟩ = some (.int .i64 o) ∧ w'.cell? ⟨w.heap.size, 5, none⟩ = some (.int .i64 t) ∧ w'.cell? ⟨y1.heap.size, k, none⟩ = some (.slice (some ⟨wo.heap.size, 0, none⟩) l0 l0)) (go_keep)
            (first
              | (go_at_call 52; have _tk := tokf5; refine (K5.out).mono ?_; rintro e w5 ⟨rfl, f5⟩; clear _tk tokf5; obtain ⟨kf50, kf51, kf52, kf53, kf54, kf55, kf56⟩ := KR.out _ _ f5 s0 s1 s2 s3 s4 s5 s6; have hrow5 := World.ownsRow.kept (World.ownsRow.drew hq.out) f5.growNo (Classical.em _); obtain ⟨vg, cg⟩ : ∃ v, w5.cell? ⟨wo.heap.size, m, none⟩ = some v := ⟨_, (hrow5.cellAt m (by omega)).trans (List.getElem?_eq_getElem (by have := HLl.out; simp; omega))⟩; have fg := hrow5.frozenAt m))
          have hO := (hrow5.stored m (.int .i64 s)).1
          rw [← List.map_set (f := fun z : Int => Value.int .i64 z)] at hO
          have HO := Lib.hid hO
          have HFn := Lib.hid ((HFi.out.drew.trans f5 (fun _ _ h => h.elim)).setCell (p := ⟨wo.heap.size, m, none⟩) (.inl rfl) (.int .i64 s))
          have HT2 := Lib.hid (show (L.set m s).take (m + 1) = rowF e ps zs ws k (m + 1) by rw [take_set L m s (by have := HLl.out; omega), ht.out, HN.out])
          clear hO hrow5 cg fg f5 s0 s1 s2 s3 s4 s5 s6 kf50 kf51 kf52 kf53 kf54 kf55 kf56
          go_wp2_with fail
          exact ⟨⟨m + 1, L.set m s, by omega, by go_num, by rw [List.length_set]; exact HLl.out, HO, HT2, HFn.out⟩, by simp [intOf]; omega⟩
        · obtain rfl : m = l0 := by omega
          have hLr : L = rowF e ps zs ws k m := by rw [← ht.out, List.take_of_length_le (by have := HLl.out; omega)]
          have hlv : ListV y1.heap.size wr (.slice (some ⟨y1.heap.size, 0, none⟩) m m) (vs.set k (.slice (some ⟨wo.heap.size, 0, none⟩) m m)) := by
            unfold ListV
            rw [List.length_set, HVL.out]
            exact own_at HL3.out HFi.out (by simp [Value.ownBlock]; omega)
          have hsm : Some y1.heap.size wr (vs.set k (.slice (some ⟨wo.heap.size, 0, none⟩) m m)) (k + 1) (fun a => rowF e ps zs ws a m) := by
            intro i v hi hv
            by_cases hik : i = k
            · subst hik
              rw [List.getElem?_set_self (by have := HVL.out; omega)] at hv
              cases hv
              show wr.ownsRow y1.heap.size 3 1 _ (rowF e ps zs ws i m).length ((rowF e ps zs ws i m).map fun z : Int => Value.int .i64 z)
              rw [rowF_len, ← hLr]
              exact World.ownsRow.mono hq.out HSo.out
            · rw [List.getElem?_set_ne (by omega)] at hv
              have h1 := hr.out i v (by omega) hv
              have h2 : v.ownBlock ≠ some y1.heap.size := by
                rcases own_ne h1 HLo.out (by decide) with h | h
                · rw [h]; simp
                · exact h
              have h3 : v.ownBlock ≠ some wo.heap.size := fun h => by
                have := (World.ownsRow.lt h1 _ h).2
                omega
              exact own_at (own_at h1 HF3.out h2) HFi.out h3
          have HLV := Lib.hid hlv
          have HSM := Lib.hid hsm
          have HFo := Lib.hid ((HFr.out.trans HF3.out (fun i hi h => by simp only [only] at h; omega)).trans HFi.out (fun i hi h => by have := HSo.out; simp only [only] at h; omega))
          have hln : (vs.set k (.slice (some ⟨wo.heap.size, 0, none⟩) m m)).length = m := by rw [List.length_set]; exact HVL.out
          have HLN := Lib.hid hln
          clear hLr hlv hsm hln
          go_wp2_with fail
          exact ⟨⟨k + 1, _, by omega, by go_num, HLN.out, HLV, HSM, HFo.out⟩, by simp [intOf]; omega⟩
    · obtain rfl : k = l0 := by omega
      have hv := HVL.out
      go_wp2_with fail
      go_ret2
      refine ⟨_, vs, rfl, World.ownsRow.mono ho.out HS.out, ⟨by rw [hv, tabF_len], fun i v l h1 h2 => ?_⟩, HF1.out.noTrans HFr.out⟩
      have hi' : i < k := by rw [← hv]; exact (List.getElem?_eq_some_iff.1 h1).1
      have := hr.out i v hi' h1
      have e2 : l = rowF e ps zs ws i k := by
        simp only [tabF, List.getElem?_map, List.getElem?_range hi', Option.map_some, Option.some.injEq] at h2
        exact h2.symm
      rw [e2]
      exact this.mono HS.out
end Go.Proofs.Ytljfdoabgbioiaa
