/- Depths: the document's. -/
import Derived.Test.YtmkmefcafpgphaaDep
namespace Go.Proofs.Ytmkmefcafpgphaa
set_option linter.unusedVariables false
open Go.RowKit


theorem pigeon (n : Nat) : ∀ (d : Nat) (f : Nat → Nat), (∀ m, m < d → f m < n) → (∀ a b, a < b → b < d → f a ≠ f b) → d ≤ n := by
  induction n with
  | zero =>
    intro d f h _
    by_cases h0 : d = 0
    · omega
    · exact absurd (h 0 (by omega)) (by omega)
  | succ n ih =>
    intro d f h g
    cases d with
    | zero => omega
    | succ d =>
      have hd := h d (by omega)
      have := ih d (fun m => if f m < f d then f m else f m - 1) (fun m hm => by
        have h1 := h m (by omega)
        have h2 := g m d hm (by omega)
        show (if f m < f d then f m else f m - 1) < n
        split <;> omega) (fun a b hab hb => by
        have h1 := g a b hab (by omega)
        have h2 := g a d (by omega) (by omega)
        have h3 := g b d (by omega) (by omega)
        show (if f a < f d then f a else f a - 1) ≠ (if f b < f d then f b else f b - 1)
        split <;> split <;> omega)
      omega
theorem an_add (zs : List Int) (i : Int) (a b : Nat) (h : an zs i a = an zs i b) (k : Nat) : an zs i (a + k) = an zs i (b + k) := by
  induction k with
  | zero => exact h
  | succ k ih => rw [← Nat.add_assoc, ← Nat.add_assoc, an, an, ih]
/-- A path to 0 has fewer steps than there are nodes. -/
theorem an_short {zs : List Int} {i : Int} {d : Nat} (hn : 1 ≤ zs.length) (h : ∀ m, m < d → 1 ≤ an zs i m ∧ an zs i m < zs.length) (h0 : an zs i d = 0) : d < zs.length := by
  have := pigeon (zs.length - 1) d (fun m => (an zs i m).toNat - 1) (fun m hm => by
    have := h m hm
    show (an zs i m).toNat - 1 < _
    omega) (fun a b hab hb he => by
    have h1 := h a (by omega)
    have h2 := h b hb
    have h3 : (an zs i a).toNat - 1 = (an zs i b).toNat - 1 := he
    have h4 := an_add zs i a b (by omega) (d - b)
    rw [show b + (d - b) = d by omega, h0] at h4
    have := h (a + (d - b)) (by omega)
    omega)
  omega
/-- The first k nodes lead to 0. -/
def Lead (zs : List Int) (k : Nat) : Prop := ∀ j : Nat, j < k → Dp zs j (dep zs j) ∧ (1 ≤ j → 0 ≤ zs.getD j 0 ∧ zs.getD j 0 < zs.length)
theorem lead_tree {zs : List Int} (h1 : 1 ≤ zs.length) (h2 : zs.length ≤ 32) (h3 : zs.getD 0 0 = -1) (h : Lead zs zs.length) : Tree zs := by
  refine ⟨?_, fun i hi => (h i hi).1⟩
  simp only [hpB, Bool.and_eq_true, decide_eq_true_eq, inR_t]
  refine ⟨⟨by omega, by omega⟩, h3, ?_⟩
  rw [List.all_eq_true]
  intro p hm
  obtain ⟨j, hj, rfl⟩ := List.mem_iff_getElem.1 hm
  simp at hj
  have := (h (j + 1) (by omega)).2 (by omega)
  rw [List.getElem_drop]
  rw [List.getD_eq_getElem?_getD, List.getElem?_eq_getElem (by omega)] at this
  simp only [Option.getD_some] at this
  rw [inR_t]
  have e : 1 + j = j + 1 := by omega
  simp only [e]
  omega
theorem own_geI {w : World} {B n : Nat} {v : Value} {xs : List Value} (h : w.ownsRow B 3 1 v n xs) (k : Nat) (hk : v.ownBlock = some k) : B ≤ k := by
  rcases h.2 with ⟨rfl, _⟩ | ⟨g, cap', cur, rfl, hB, _⟩
  · simp [Value.ownBlock] at hk
  · simp only [Value.ownBlock, Option.some.injEq] at hk
    omega
set_option maxHeartbeats 4000000 in
theorem depthsR_any (ao : Option Addr) (len cap : Nat) (zs : List Int) (w : World) (h : IntsIn w ao len zs) (hl : len ≤ 40) :
    Calls Try.prog 23 #[.slice ao len cap] w (fun e w' => DepR w w' zs e) := by
  have hzl := h.1
  by_cases h1 : 1 ≤ len ∧ len ≤ 32
  · obtain ⟨n1, n2⟩ := h1
    obtain ⟨b, off, rfl, -, hcell⟩ := slice_1 h n1
    have c0 := hcell 0 (by omega)
    rw [Nat.add_zero] at c0
    have i1 : ¬ ((len : Int) < 1) := by omega
    have i2 : ¬ ((32 : Int) < (len : Int)) := by omega
    have i3 : (0 : Int) < (len : Int) := by omega
    by_cases h2 : zs.getD 0 0 = -1
    · have HCL := Lib.hid hcell
      have HZL := Lib.hid hzl
      have HZ0 := Lib.hid h2
      rw [h2] at c0
      obtain ⟨i0, hi, hz0, hz1, hz2⟩ := info_parts info3
      clear h hcell hzl h2
      go_enter Try.func23, Try.ntmps23
      go_wp2_with fail
      go_loopw [5, 6, 7, 8] (fun v i _ _ wr => ∃ (k : Nat), k ≤ len ∧ i = .int .i64 k ∧ Hid (RowI w.heap.size wr v ((dpL zs).take k)) ∧ Hid (Lead zs k) ∧ Hid (Fr no w wr)) (fun _ i _ _ _ => len - (intOf i).toNat)
      case atStart => exact ⟨0, by omega, rfl, Lib.hid (by show World.ownsRow _ _ 3 1 _ 0 []; exact World.ownsRow_made w #[] 0 (Nat.le_refl _) (Nat.zero_le _) (by simp)), Lib.hid (fun j hj => by omega), Lib.hid ((Fr.refl no w).alloc _)⟩
      case round =>
        obtain ⟨k, hk, rfl, hO, hD, hF⟩ := hrel
        by_cases hlt : k < len
        · have hkz : (k : Int) < (len : Int) := by omega
          have HK := Lib.hid hlt
          obtain ⟨wo, hwo⟩ : ∃ wo : World, wo = wr := ⟨_, rfl⟩
          subst hwo
          go_wp2_with fail
          go_loopw [7, 8] (fun s7 s8 wy => ∃ j : Nat, j ≤ len + 1 ∧ s7 = .int .i64 j ∧ s8 = .int .i64 (an zs k j) ∧ Hid (0 ≤ an zs k j ∧ an zs k j < len) ∧ Hid (∀ m, m < j → 1 ≤ an zs k m ∧ an zs k m < zs.length) ∧ Hid (1 ≤ j → 0 ≤ an zs k 1 ∧ an zs k 1 < zs.length) ∧ wy = wo) (fun s7 _ _ => len + 1 - (intOf s7).toNat)
          case atStart => exact ⟨0, by omega, rfl, rfl, Lib.hid ⟨by show (0 : Int) ≤ k; omega, by show (k : Int) < len; omega⟩, Lib.hid (fun m hm => by omega), Lib.hid (fun h => by omega), rfl⟩
          case round =>
            obtain ⟨j, hj, rfl, rfl, hA, hN, hP, rfl⟩ := hrel
            by_cases h0 : an zs k j = 0
            · have hjn := an_short (by have := HZL.out; omega) hN.out h0
              have HDk := Lib.hid (show Dp zs k (dep zs k) from dp_of hjn h0)
              have HDe := Lib.hid (show dep zs k = j from Dp.eq ⟨hjn, h0, fun m hm he => by have := hN.out m hm; omega⟩)
              have HLd := Lib.hid (show Lead zs (k + 1) from fun m hm => by
                by_cases e : m = k
                · subst e
                  refine ⟨HDk.out, fun hm1 => ?_⟩
                  have hj1 : 1 ≤ j := by
                    apply Classical.byContradiction
                    intro hx
                    have e0 : j = 0 := by omega
                    rw [e0] at h0
                    have : (m : Int) = 0 := h0
                    omega
                  have := hP.out hj1
                  have e1 : an zs m 1 = zs.getD m 0 := by show zs.getD (m : Int).toNat 0 = _; rw [show (m : Int).toNat = m by omega]
                  rwa [e1] at this
                · exact hD.out m (by omega))
              rw [h0]
              have HL1 := Lib.hid (show ((dpL zs).take k).length = k by rw [List.length_take, dpL_len]; have := HZL.out; omega)
              have HTk := Lib.hid (dpL_take zs k (by have := HZL.out; omega))
              rw [HDe.out] at HTk
              have HO := Lib.hid hO.out
              generalize (dpL zs).take k = L at *
              clear h0 hjn hO hA hN hP HDe
              have hown : World.ownsRow wr w.heap.size 3 1 _ L.length (Ints L) := HO.out
              have HFo := Lib.hid hF.out.size
              go_wp2_with (at_builtin; refine wpList_append_own _ rfl (.tmp 50) (.tmp 52) 37 rfl w.heap.size 3 i0 (.int .i64 0) 1 8 Try.underlying37 hi hz0 hz1 hz2 rfl (by decide) _ _ _ rfl (hown.alloc _) ⟨wr.heap.size, 0, none⟩ 1 1 [.int .i64 (j : Int)] rfl rfl ?c1 ?c2 ?c3 ?c4 ?c5 ?_)
              try (case c1 => exact World.news_of_block (cs := #[.int .i64 (j : Int)]) (t := 3) (fr := (0, 0)) (heap_alloc_new wr _))
              case c2 => simp [Value.oneCell']
              case c3 => have := HL1.out; unfold maxLen; omega
              case c4 => have := HL1.out; omega
              case c5 => have := HFo.out; simp; omega
              intro v' w7 hown7 hgrow7 _
              have hF7 : Fr no w w7 := (hF.out.alloc _).grown hgrow7 (fun j hj => .inr (own_geI hown j hj))
              have HF7 := Lib.hid hF7
              have hO7 : RowI w.heap.size w7 v' (L ++ [(j : Int)]) := by
                unfold RowI
                rw [List.length_append, Ints, List.map_append]
                exact hown7
              have HO7 := Lib.hid hO7
              clear hF7 hO7 hown7 hgrow7 hown
              go_wp2_with fail
              exact ⟨⟨k + 1, by omega, by go_num, by rw [HTk.out]; exact HO7, HLd, HF7⟩, by simp [intOf]; omega⟩
            · obtain ⟨a0, a1⟩ := hA.out
              have cy := hF.out.keepc (HCL.out (an zs k j).toNat (by omega))
              have HNj := Lib.hid (show ∀ m, m < j + 1 → 1 ≤ an zs k m ∧ an zs k m < zs.length from fun m hm => by
                by_cases e : m = j
                · rw [e]; have := HZL.out; omega
                · exact hN.out m (by omega))
              have HX := Lib.hid (show ∀ ht : Tree zs, (0 ≤ an zs k (j + 1) ∧ an zs k (j + 1) < zs.length) ∧ ¬ zs.length ≤ j from fun ht => ⟨an_in ht.1 (i := (k : Int)) (by omega) (by have := HZL.out; omega) (j + 1) (fun m hm he => by have := HNj.out m hm; omega), fun hx => by
                obtain ⟨d1, d2, -⟩ := ht.2 k (by have := HZL.out; omega)
                have := HNj.out (dep zs k) (by omega)
                omega⟩)
              have HP2 := Lib.hid (show 0 ≤ an zs k (j + 1) → an zs k (j + 1) < len → 0 ≤ an zs k 1 ∧ an zs k 1 < zs.length from fun q0 q1 => by
                by_cases e : j = 0
                · rw [e] at q0 q1; have := HZL.out; have q2 : an zs k 1 < (len : Int) := q1; exact ⟨q0, by omega⟩
                · exact hP.out (by omega))
              have hcy : zs.getD (an zs k j).toNat 0 = an zs k (j + 1) := rfl
              rw [hcy] at cy
              have HAN := Lib.hid (show an zs k (j + 1) = an zs k (j + 1) from rfl)
              have h01 : (an zs k j == 0) = false := by simpa using h0
              have h02 : decide (an zs k j = 0) = false := by simpa using h0
              clear hcy
              generalize hyy : an zs k (j + 1) = y2 at *
              generalize hy1 : an zs k j = y at *
              have HYY := Lib.hid hyy
              clear hyy hy1 HAN
              by_cases g1 : y2 < 0
              · have HT := Lib.hid (show ¬ Tree zs from fun ht => by have := HX.out ht; omega)
                go_wp2_with fail
                go_ret2
                exact ⟨hF.out, .inr ⟨HT.out, rfl⟩⟩
              · by_cases g2 : (len : Int) ≤ y2
                · have HT := Lib.hid (show ¬ Tree zs from fun ht => by have := HX.out ht; have := HZL.out; omega)
                  go_wp2_with fail
                  go_ret2
                  exact ⟨hF.out, .inr ⟨HT.out, rfl⟩⟩
                · by_cases g3 : (len : Int) < (j : Int)
                  · have HT := Lib.hid (show ¬ Tree zs from fun ht => by have := HX.out ht; have := HZL.out; omega)
                    go_wp2_with fail
                    go_ret2
                    exact ⟨hF.out, .inr ⟨HT.out, rfl⟩⟩
                  · have HP3 := Lib.hid (HP2.out (by omega) (by omega))
                    have HA2 := Lib.hid (show 0 ≤ y2 ∧ y2 < len from ⟨by omega, by omega⟩)
                    go_wp2_with fail
                    exact ⟨⟨j + 1, by omega, by go_num, by rw [HYY.out], by rw [HYY.out]; exact HA2, HNj, Lib.hid (fun _ => HP3.out), trivial⟩, by simp [intOf]; omega⟩
        · have hkz : ¬ (k : Int) < (len : Int) := by omega
          obtain rfl : k = len := by omega
          have HT := Lib.hid (show Tree zs from lead_tree (by have := HZL.out; omega) (by have := HZL.out; omega) HZ0.out (by rw [HZL.out]; exact hD.out))
          have hT : (dpL zs).take k = dpL zs := List.take_of_length_le (by rw [dpL_len]; have := HZL.out; omega)
          rw [hT] at hO
          have HO := Lib.hid hO.out
          clear hO hT
          go_wp2_with fail
          go_ret2
          exact ⟨hF.out, .inl ⟨HT.out, _, rfl, HO.out⟩⟩
    · have HT := Lib.hid (show ¬ Tree zs from fun ht => h2 (hpB_t ht.1).2.1)
      have h3 : decide (zs.getD 0 0 = -1) = false := by simpa using h2
      have h4 : (zs.getD 0 0 == -1) = false := by simpa using h2
      generalize zs.getD 0 0 = y at *
      clear h hcell hzl
      go_enter Try.func23, Try.ntmps23
      go_wp2_with fail
      go_ret2
      exact ⟨Fr.refl no _, .inr ⟨HT.out, rfl⟩⟩
  · have HT := Lib.hid (show ¬ Tree zs from fun ht => by have := (hpB_t ht.1).1; omega)
    clear h
    by_cases h2 : (len : Int) < 1
    · go_enter Try.func23, Try.ntmps23
      go_wp2_with fail
      go_ret2
      exact ⟨Fr.refl no _, .inr ⟨HT.out, rfl⟩⟩
    · have h3 : (32 : Int) < (len : Int) := by omega
      go_enter Try.func23, Try.ntmps23
      go_wp2_with fail
      go_ret2
      exact ⟨Fr.refl no _, .inr ⟨HT.out, rfl⟩⟩

end Go.Proofs.Ytmkmefcafpgphaa
