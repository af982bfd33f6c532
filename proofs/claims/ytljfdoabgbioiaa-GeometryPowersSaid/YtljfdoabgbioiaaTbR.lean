/- The document's own table. -/
import Derived.Test.YtljfdoabgbioiaaTab
namespace Go.Proofs.Ytljfdoabgbioiaa
open Go.RowKit
set_option linter.unusedVariables false

theorem info31 : (Try.prog.info? 31).map (fun i => (i.zero, i.size, i.bytes)) = some (some (.slice none 0 0), 1, 24) := by kernel_rfl
def TabRes (w w' : World) (E : Int) (zss : List (List Int)) (e : Ending) : Prop := ∃ v vs, e = .returned (.tuple #[v, .int .i64 E]) ∧ ListV w.heap.size w' v vs ∧ RowsI w.heap.size w' vs zss ∧ Fr no w w'
theorem RowsI.mono {B B' : Nat} {w : World} {vs : List Value} {zss : List (List Int)} (h : RowsI B w vs zss) (hb : B' ≤ B) : RowsI B' w vs zss := ⟨h.1, fun i v l h1 h2 => (h.2 i v l h1 h2).mono hb⟩
set_option maxHeartbeats 8000000 in
theorem tableR_1 (a0 : Option Addr) (l0 k0 : Nat) (a1 : Option Addr) (l1 k1 : Nat) (a2 : Option Addr) (l2 k2 : Nat) (e o t : Int) (ps : List Pt) (zs : List Int) (ws : List Wl) (w : World) (hp : PtsIn w a0 l0 ps) (hz : IntsIn w a1 l1 zs) (hw : WlsIn w a2 l2 ws) (g0 : (ckB l0 l1 l2 e o t ps zs ws) = true) : Calls Try.prog 23 #[.agg #[.slice a0 l0 k0, .slice a1 l1 k1, .slice a2 l2 k2, .int .i64 e, .int .i64 o, .int .i64 t]] w fun e' w' => TabRes w w' 0 (tabF e ps zs ws l0 l0) e' := by
  have KS := Lib.hid (show ∀ w0 w' : World, Fr no w0 w' → w0.cell? ⟨w.heap.size, 0, none⟩ = some (.slice a0 l0 k0) → w0.cell? ⟨w.heap.size, 1, none⟩ = some (.slice a1 l1 k1) → w0.cell? ⟨w.heap.size, 2, none⟩ = some (.slice a2 l2 k2) → w0.cell? ⟨w.heap.size, 3, none⟩ = some (.int .i64 e) → w0.cell? ⟨w.heap.size, 4, none⟩ = some (.int .i64 o) → w0.cell? ⟨w.heap.size, 5, none⟩ = some (.int .i64 t) → (w'.cell? ⟨w.heap.size, 0, none⟩ = some (.slice a0 l0 k0) ∧ w'.cell? ⟨w.heap.size, 1, none⟩ = some (.slice a1 l1 k1) ∧ w'.cell? ⟨w.heap.size, 2, none⟩ = some (.slice a2 l2 k2) ∧ w'.cell? ⟨w.heap.size, 3, none⟩ = some (.int .i64 e) ∧ w'.cell? ⟨w.heap.size, 4, none⟩ = some (.int .i64 o) ∧ w'.cell? ⟨w.heap.size, 5, none⟩ = some (.int .i64 t)) from fun _ _ h a0 a1 a2 a3 a4 a5 => ⟨h.keepc a0, h.keepc a1, h.keepc a2, h.keepc a3, h.keepc a4, h.keepc a5⟩)
  obtain ⟨W, hW⟩ : ∃ W, W = (w.alloc (.cells #[.slice a0 l0 k0, .slice a1 l1 k1, .slice a2 l2 k2, .int .i64 e, .int .i64 o, .int .i64 t] 34 (0, 0))) := ⟨_, rfl⟩
  have HF := Lib.hid (show Fr no w W by rw [hW]; exact (Fr.refl no w).alloc _)
  have c0 : W.cell? ⟨w.heap.size, 0, none⟩ = some (.slice a0 l0 k0) := by rw [hW]; go_simp
  have c1 : W.cell? ⟨w.heap.size, 1, none⟩ = some (.slice a1 l1 k1) := by rw [hW]; go_simp
  have c2 : W.cell? ⟨w.heap.size, 2, none⟩ = some (.slice a2 l2 k2) := by rw [hW]; go_simp
  have c3 : W.cell? ⟨w.heap.size, 3, none⟩ = some (.int .i64 e) := by rw [hW]; go_simp
  have c4 : W.cell? ⟨w.heap.size, 4, none⟩ = some (.int .i64 o) := by rw [hW]; go_simp
  have c5 : W.cell? ⟨w.heap.size, 5, none⟩ = some (.int .i64 t) := by rw [hW]; go_simp
  have HW := Lib.hid hW
  clear hW
  have K24 := fun w' (h : Fr no w w') => checkR_any a0 l0 k0 a1 l1 k1 a2 l2 k2 e o t ps zs ws w' (hp.kept h) (hz.kept h) (hw.kept h)
  rw [g0, show ckE true = 0 from rfl] at K24
  have K24 := Lib.hid K24
  have hg := ckB_t g0
  have hnb : ∀ a : Nat, a < l0 → hnB l0 (a : Int) = true := fun a ha => by unfold hnB; rw [inR_t]; omega
  have KB := fun (a b : Nat) (ha : a < l0) (hb : b < l0) w' (h : Fr no w w') => betweenR_any a0 l0 k0 a1 l1 k1 a2 l2 k2 e o t ps zs ws a b w' (hp.kept h) (hz.kept h) (hw.kept h)
  have KB2 : ∀ (a b : Nat), a < l0 → b < l0 → ∀ w', Fr no w w' → Calls Try.prog 21 #[.agg #[.slice a0 l0 k0, .slice a1 l1 k1, .slice a2 l2 k2, .int .i64 e, .int .i64 o, .int .i64 t], .int .i64 (a : Int), .int .i64 (b : Int)] w' fun e' w'' => e' = .returned (.tuple #[.int .i64 (btF e ps zs ws a b), .int .i64 0]) ∧ Fr no w' w'' := fun a b ha hb w' h => by
    have := KB a b ha hb w' h
    rwa [show bwV (ckB l0 l1 l2 e o t ps zs ws) l0 e ps zs ws a b = btF e ps zs ws a b by unfold bwV bwB; rw [g0, hnb a ha, hnb b hb]; rfl, show bwE (ckB l0 l1 l2 e o t ps zs ws) l0 a b = 0 by unfold bwE bwB; rw [g0, hnb a ha, hnb b hb]; rfl] at this
  clear KB hnb
  have KB := Lib.hid KB2
  clear KB2
  have q2 : (2 : Int) ≤ (l0 : Int) := by have := hg.n0; omega
  have q3 : (l0 : Int) ≤ 32 := by have := hg.n1; omega
  clear hp hz hw g0 hg
  obtain ⟨i0, hi, hz0, hz1, hz2⟩ := info_parts info3
  obtain ⟨i1, hj, hj0, hj1, hj2⟩ := info_parts info31
  go_enter Try.func23, Try.ntmps23
  go_wp2_with fail
  rw [← HW.out]
  refine (K24.out _ HF.out).mono ?_
  rintro e y1 ⟨rfl, f1⟩
  obtain ⟨d1_0, d1_1, d1_2, d1_3, d1_4, d1_5⟩ := KS.out _ _ f1 c0 c1 c2 c3 c4 c5
  have HF1 := Lib.hid (HF.out.noTrans f1)
  clear f1 c0 c1 c2 c3 c4 c5
  go_wp2_with fail
  have HC0 := Lib.hid d1_0
  have HC1 := Lib.hid d1_1
  have HC2 := Lib.hid d1_2
  have HC3 := Lib.hid d1_3
  have HC4 := Lib.hid d1_4
  have HC5 := Lib.hid d1_5
  have HS := Lib.hid (show w.heap.size ≤ y1.heap.size from HF1.out.size)
  go_loopw [4, 5, 6, 7, 8, 9] (fun v i _ _ _ _ wr => ∃ (k : Nat) (vs : List Value), k ≤ l0 ∧ i = .int .i64 k ∧ Hid (ListV y1.heap.size wr v vs) ∧ Hid (RowsI y1.heap.size wr vs (tabF e ps zs ws l0 k)) ∧ Fr no y1 wr) (fun _ i _ _ _ _ _ => l0 - (intOf i).toNat)
  case atStart => exact ⟨0, [], by omega, rfl, Lib.hid (by show World.ownsRow _ _ 31 1 _ 0 []; exact World.ownsRow_made y1 #[] 0 (Nat.le_refl _) (Nat.zero_le _) (by simp)), Lib.hid ⟨rfl, fun i v l h _ => by simp at h⟩, (Fr.refl _ _).alloc _⟩
  case round =>
    obtain ⟨k, vs, hk, rfl, ho, hr, hf⟩ := hrel
    have HFr := Lib.hid hf
    clear hf d1_0 d1_1 d1_2 d1_3 d1_4 d1_5
    have r0 := HFr.out.keepc HC0.out
    have r1 := HFr.out.keepc HC1.out
    have r2 := HFr.out.keepc HC2.out
    have r3 := HFr.out.keepc HC3.out
    have r4 := HFr.out.keepc HC4.out
    have r5 := HFr.out.keepc HC5.out
    have hlen : vs.length = k := by have := hr.out.1; rwa [tabF_len] at this
    by_cases hlt : k < l0
    · obtain ⟨wo, hwo⟩ : ∃ wo : World, wo = wr := ⟨_, rfl⟩
      subst hwo
      have hkI : (k : Int) < (l0 : Int) := by omega
      have HLn := Lib.hid hlen
      have HSo := Lib.hid (show y1.heap.size ≤ wo.heap.size from HFr.out.size)
      have HT := Lib.hid (tabF_succ e ps zs ws l0 k)
      clear hlen
      go_wp2_with fail
      go_loopw [6, 7, 8, 9] (fun r j _ _ wr => ∃ m : Nat, m ≤ l0 ∧ j = .int .i64 m ∧ Hid (RowI wo.heap.size wr r (rowF e ps zs ws k m)) ∧ Fr no wo wr) (fun _ j _ _ _ => l0 - (intOf j).toNat)
      case atStart => exact ⟨0, by omega, rfl, Lib.hid (by show World.ownsRow _ _ 3 1 _ 0 []; exact World.ownsRow_made wo #[] 0 (Nat.le_refl _) (Nat.zero_le _) (by simp)), (Fr.refl _ _).alloc _⟩
      case round =>
        obtain ⟨m, hm, rfl, hq, hf⟩ := hrel
        have HFi := Lib.hid hf
        clear hf r0 r1 r2 r3 r4 r5
        have r0 := HFi.out.keepc (HFr.out.keepc HC0.out)
        have r1 := HFi.out.keepc (HFr.out.keepc HC1.out)
        have r2 := HFi.out.keepc (HFr.out.keepc HC2.out)
        have r3 := HFi.out.keepc (HFr.out.keepc HC3.out)
        have r4 := HFi.out.keepc (HFr.out.keepc HC4.out)
        have r5 := HFi.out.keepc (HFr.out.keepc HC5.out)
        by_cases hlm : m < l0
        · have HN := Lib.hid (rowF_succ e ps zs ws k m)
          have K5 := KB.out k m hlt hlm
          have HR := Lib.hid (rowF_len e ps zs ws k m)
          generalize btF e ps zs ws k m = s at *
          generalize rowF e ps zs ws k m = L at *
          have K5 := Lib.hid K5
          have hmI : (m : Int) < (l0 : Int) := by omega
          go_wp2_with fail
          refine (K5.out _ (HF1.out.noTrans (HFr.out.noTrans HFi.out))).mono ?_
          rintro e' w5 ⟨rfl, f5⟩
          have HF5 := Lib.hid (HFi.out.noTrans f5)
          have HO := Lib.hid (hq.out.kept f5)
          clear f5 r0 r1 r2 r3 r4 r5
          have hown : World.ownsRow w5 wo.heap.size 3 1 _ L.length (L.map fun z : Int => Value.int .i64 z) := HO.out
          go_wp2_with (at_builtin; refine wpList_append_own _ rfl (.tmp 36) (.tmp 38) 31 rfl wo.heap.size 3 i0 (.int .i64 0) 1 8 Try.underlying31 hi hz0 hz1 hz2 rfl (by decide) _ _ _ rfl (hown.alloc _) ⟨w5.heap.size, 0, none⟩ 1 1 [.int .i64 s] rfl rfl ?c1 ?c2 ?c3 ?c4 ?c5 ?_)
          try (case c1 => exact World.news_of_block (cs := #[.int .i64 s]) (t := 3) (fr := (0, 0)) (heap_alloc_new w5 _))
          case c2 => simp [Value.oneCell']
          case c3 => have := HR.out; unfold maxLen; omega
          case c4 => have := HR.out; omega
          case c5 => have := HF5.out.size; simp; omega
          intro v' w7 hown7 hgrow7 _
          have hF7 : Fr no wo w7 := (HF5.out.alloc _).grown hgrow7 (fun j hj => .inr (own_geI hown j hj))
          have HF7 := Lib.hid hF7
          have hO7 : RowI wo.heap.size w7 v' (L ++ [s]) := by
            unfold RowI
            rw [List.length_append, List.map_append]
            exact hown7
          have HO7 := Lib.hid hO7
          clear hF7 hO7 hown7 hgrow7
          go_wp2_with fail
          exact ⟨⟨m + 1, by omega, by go_num, by rw [HN.out]; exact HO7, HF7.out⟩, by simp [intOf]; omega⟩
        · obtain rfl : m = l0 := by omega
          obtain ⟨ra, rc, hu, _⟩ := rowI_ints hq.out
          rw [rowF_len] at hu
          subst hu
          have hL : World.ownsRow wr y1.heap.size 31 1 _ vs.length vs := ho.out.kept HFi.out
          have hr2 := hr.out.kept HFi.out
          have hq2 := hq.out.mono (show y1.heap.size ≤ wo.heap.size from HSo.out)
          have HR2 := Lib.hid hr2
          have HQ2 := Lib.hid hq2
          have HWr := Lib.hid (show wo.heap.size ≤ wr.heap.size from HFi.out.size)
          clear hr2 hq2
          go_wp2_with (at_builtin; refine wpList_append_own _ rfl (.tmp 40) (.tmp 42) 42 rfl y1.heap.size 31 i1 (.slice none 0 0) 1 24 Try.underlying42 hj hj0 hj1 hj2 rfl (by decide) u4 vs.length vs rfl (hL.alloc _) ⟨wr.heap.size, 0, none⟩ 1 1 [.slice ra m rc] rfl rfl ?e1 ?e2 ?e3 ?e4 ?e5 ?_)
          try (case e1 => exact World.news_of_block (cs := #[.slice ra m rc]) (t := 31) (fr := (0, 0)) (heap_alloc_new wr _))
          case e2 => simp [Value.oneCell']
          case e3 => have := HLn.out; unfold maxLen; omega
          case e4 => have := HLn.out; omega
          case e5 => have := HWr.out; have := HSo.out; simp; omega
          intro v' w7 hown7 hgrow7 _
          have hF7 : Fr no y1 w7 := ((HFr.out.noTrans HFi.out).alloc _).grown hgrow7 (fun j hj => .inr (World.ownsRow.lt hL j hj).1)
          have hO7 : ListV y1.heap.size w7 v' (vs ++ [.slice ra m rc]) := by
            unfold ListV
            rw [List.length_append]
            exact hown7
          have fal : Fr no wr (wr.alloc (.cells #[.slice ra m rc] 31)) := (Fr.refl no wr).alloc _
          have hR7 : RowsI y1.heap.size w7 (vs ++ [.slice ra m rc]) (tabF e ps zs ws m k ++ [rowF e ps zs ws k m]) :=
            ((HR2.out.snoc HQ2.out).kept fal).list (hL.alloc _) hgrow7
          have HF7 := Lib.hid hF7
          have HO7 := Lib.hid hO7
          have HR7 := Lib.hid hR7
          clear hF7 hO7 hR7 hown7 hgrow7 fal hL r0 r1 r2 r3 r4 r5
          go_wp2_with fail
          exact ⟨⟨k + 1, vs ++ [.slice ra m rc], by omega, by go_num, HO7, by rw [HT.out]; exact HR7, HF7.out⟩, by simp [intOf]; omega⟩
    · obtain rfl : k = l0 := by omega
      go_wp2_with fail
      go_ret2
      exact ⟨_, vs, rfl, World.ownsRow.mono ho.out HS.out, hr.out.mono HS.out, HF1.out.noTrans HFr.out⟩
end Go.Proofs.Ytljfdoabgbioiaa
