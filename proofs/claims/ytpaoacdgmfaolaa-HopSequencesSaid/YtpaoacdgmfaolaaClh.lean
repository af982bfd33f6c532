/- Clones of lists of lists. -/
import Derived.Test.YtpaoacdgmfaolaaCal
namespace Go.Proofs.Ytpaoacdgmfaolaa
set_option linter.unusedVariables false
open Go.RowKit


/-- A list of hopping lists of the call's own. -/
def OwnH (B : Nat) (w : World) (ao : Option Addr) (len : Nat) (xs : List Hv) : Prop :=
  HvsIn w ao len xs ∧ ∀ i, i < len → ∃ g, ao = some ⟨g, 0, none⟩ ∧ B ≤ g ∧ ∀ j, j < len * 4 → w.frozen? ⟨g, j, none⟩ = false
def flatW (w : World) (a : Addr) (n : Nat) : List Value := (List.range n).map fun j => (w.cell? (a.add j)).getD undef
theorem flatW_len (w : World) (a : Addr) (n : Nat) : (flatW w a n).length = n := by simp [flatW]
theorem flatW_at (w : World) (a : Addr) (n j : Nat) (h : j < n) : (flatW w a n)[j]? = some ((w.cell? (a.add j)).getD undef) := by simp [flatW, h]
theorem hv_cell {w : World} {b off len : Nat} {xs : List Hv} (h : HvsIn w (some ⟨b, off, none⟩) len xs) (j : Nat) (hj : j < len * 4) : ∃ u, w.cell? ((⟨b, off, none⟩ : Addr).add j) = some u ∧ u.oneCell' = true := by
  obtain ⟨b', off', ca, ck, ha, -, -, h0, h1, h2, h3⟩ := h.2 (j / 4) (by omega)
  cases ha
  rw [add_at]
  have e : j = j / 4 * 4 + j % 4 := by omega
  have hm : j % 4 < 4 := by omega
  rw [e]
  generalize j / 4 = q at *
  generalize j % 4 = r at *
  rw [← Nat.add_assoc]
  match r, hm with
  | 0, _ => exact ⟨_, h0, rfl⟩
  | 1, _ => exact ⟨_, h1, rfl⟩
  | 2, _ => exact ⟨_, h2, rfl⟩
  | 3, _ => exact ⟨_, h3, rfl⟩
theorem info24 : (Try.prog.info? 24).map (fun i => (i.zero, i.size, i.bytes)) = some (some (.agg #[.int .i64 0, .int .i64 0, .int .i64 0, .slice none 0 0]), 4, 48) := by kernel_rfl
def CloneH (w w' : World) (len : Nat) (xs : List Hv) (e : Ending) : Prop := ∃ ao cap, e = .returned (.slice ao len cap) ∧ OwnH w.heap.size w' ao len xs ∧ len ≤ cap ∧ Fr no w w'
theorem own_hvs {w w' : World} {B b off len : Nat} {xs : List Hv} {v : Value} (h : HvsIn w (some ⟨b, off, none⟩) len xs) (ho : World.ownsRow w' B 24 4 v len (flatW w ⟨b, off, none⟩ (len * 4))) (hf : Fr no w w') :
    ∃ ao cap, v = .slice ao len cap ∧ OwnH B w' ao len xs ∧ len ≤ cap := by
  rcases ho.2 with ⟨rfl, h0⟩ | ⟨g, cap, cur, rfl, hq1, hq2, hq3, hq4, hq5⟩
  · have hl : len = 0 := h0
    subst hl
    exact ⟨none, 0, rfl, ⟨⟨h.1, fun i hi => by omega⟩, fun i hi => by omega⟩, by omega⟩
  · refine ⟨some ⟨g, 0, none⟩, cap, rfl, ⟨⟨h.1, fun i hi => ?_⟩, fun i hi => ⟨g, rfl, hq1, fun j hj => ho.frozenAt j⟩⟩, by omega⟩
    obtain ⟨b', off', ca, ck, ha, hI, hk, h0, h1, h2, h3⟩ := h.2 i hi
    cases ha
    have hc : ∀ r, r < 4 → w'.cell? ⟨g, 0 + i * 4 + r, none⟩ = some ((w.cell? ⟨b, off + i * 4 + r, none⟩).getD undef) := fun r hr => by
      rw [Nat.zero_add, ho.cellAt (i * 4 + r) (by omega), flatW_at _ _ _ _ (by omega), add_at, Nat.add_assoc]
    refine ⟨g, 0, ca, ck, rfl, hI.kept hf, hk, ?_, ?_, ?_, ?_⟩
    · have := hc 0 (by omega); rw [Nat.add_zero, Nat.add_zero, h0] at this; exact this
    · rw [hc 1 (by omega), h1]; rfl
    · rw [hc 2 (by omega), h2]; rfl
    · rw [hc 3 (by omega), h3]; rfl
set_option maxHeartbeats 2000000 in
theorem cloneH_some (b off : Nat) (len cap : Nat) (xs : List Hv) (w : World) (h : HvsIn w (some ⟨b, off, none⟩) len xs) (hl2 : len ≤ 40) :
    Calls Try.prog 42 #[.slice (some ⟨b, off, none⟩) len cap] w (fun e w' => CloneH w w' len xs e) := by
  obtain ⟨i0, hi, hz0, hz1, hz2⟩ := info_parts info24
  have H := Lib.hid h
  have A := Lib.hid (show ∀ j u, (flatW w ⟨b, off, none⟩ (len * 4))[j]? = some u → w.cell? ((⟨b, off, none⟩ : Addr).add j) = some u from fun j u hu => by
    have hj : j < len * 4 := by have := (List.getElem?_eq_some_iff.1 hu).1; rwa [flatW_len] at this
    obtain ⟨q, hq, -⟩ := hv_cell h j hj
    rw [flatW_at _ _ _ _ hj, hq] at hu
    rw [hq]; simpa using hu)
  have HONE := Lib.hid (show ∀ u ∈ flatW w ⟨b, off, none⟩ (len * 4), u.oneCell' = true from fun u hu => by
    simp only [flatW, List.mem_map, List.mem_range] at hu
    obtain ⟨j, hj, rfl⟩ := hu
    obtain ⟨q, hq, h1⟩ := hv_cell h j hj
    rw [hq]; exact h1)
  have HLF := Lib.hid (flatW_len w ⟨b, off, none⟩ (len * 4))
  have HL2 := Lib.hid hl2
  generalize hfl : flatW w ⟨b, off, none⟩ (len * 4) = FL at *
  have HFL := Lib.hid hfl
  clear hfl h hl2
  have q34 : ∀ (w : World) (a : Option Addr) (n c n' c' : Nat), (binOp .eql 34 (.slice a n c) (.slice none n' c')).run Try.prog w = .ok (.bool a.isNone) w := fun w a n c n' c' => Lib.run_eql_slice_nil w _ _ a n c n' c' Try.underlying34
  go_enter Try.func42, Try.ntmps42
  go_wp2_with (at_builtin; refine wpList_append_own _ rfl _ _ 34 rfl w.heap.size 24 i0 _ 4 48 Try.underlying34 hi hz0 hz1 hz2 rfl (by decide) _ _ _ rfl (World.ownsRow_made w #[] 0 (Nat.le_refl _) (Nat.zero_le _) (by simp)) ⟨b, off, none⟩ len cap FL rfl ?qc1 ?qc2 ?qc3 ?qc4 ?qc5 ?qc6 ?_)
  case qc1 => rw [HLF.out]
  case qc2 =>
    intro j u hj
    exact cell_alloc _ (A.out j u hj)
  case qc3 => exact HONE.out
  case qc4 => have := HL2.out; unfold maxLen; omega
  case qc5 => have := HL2.out; omega
  case qc6 => simp
  intro v' w1 hown hgrow hnil
  have F1 := Lib.hid (show Fr no w w1 from ((Fr.refl no w).alloc _).grown hgrow (fun k hk => by
    simp [Value.ownBlock] at hk
    exact .inr (by omega)))
  have HO := Lib.hid (own_hvs (B := w.heap.size) H.out (by rw [HFL.out]; simpa using hown) F1.out)
  clear hown hgrow hnil
  go_wp2_with fail
  go_ret
  obtain ⟨ao, cp, rfl, h1, h2⟩ := HO.out
  exact ⟨ao, cp, rfl, h1, h2, F1.out⟩
set_option maxHeartbeats 1000000 in
theorem cloneH_any (ao : Option Addr) (len cap : Nat) (xs : List Hv) (w : World) (h : HvsIn w ao len xs) (hl2 : len ≤ 40) :
    Calls Try.prog 42 #[.slice ao len cap] w (fun e w' => CloneH w w' len xs e) := by
  have q34 : ∀ (w : World) (a : Option Addr) (n c n' c' : Nat), (binOp .eql 34 (.slice a n c) (.slice none n' c')).run Try.prog w = .ok (.bool a.isNone) w := fun w a n c n' c' => Lib.run_eql_slice_nil w _ _ a n c n' c' Try.underlying34
  cases ao with
  | none =>
    have h0 : len = 0 := by
      apply Classical.byContradiction
      intro hn
      obtain ⟨b, off, _, _, h1, _⟩ := h.2 0 (by omega)
      cases h1
    subst h0
    have H := Lib.hid h
    clear h
    go_enter Try.func42, Try.ntmps42
    go_wp2_with fail
    go_ret
    exact ⟨none, 0, rfl, ⟨⟨H.out.1, fun i hi => by omega⟩, fun i hi => by omega⟩, by omega, Fr.refl _ _⟩
  | some a =>
    by_cases h0 : len = 0
    · subst h0
      have H := Lib.hid h
      obtain ⟨i0, hi, hz0, hz1, hz2⟩ := info_parts info24
      clear h
      go_enter Try.func42, Try.ntmps42
      go_wp2_with (at_builtin; refine wpList_append_own _ rfl _ _ 34 rfl w.heap.size 24 i0 _ 4 48 Try.underlying34 hi hz0 hz1 hz2 rfl (by decide) _ _ _ rfl (World.ownsRow_made w #[] 0 (Nat.le_refl _) (Nat.zero_le _) (by simp)) a 0 cap [] rfl ?qc1 ?qc2 ?qc3 ?qc4 ?qc5 ?qc6 ?_)
      case qc1 => rfl
      case qc2 => intro j u hj; simp at hj
      case qc3 => intro u hu; simp at hu
      case qc4 => unfold maxLen; omega
      case qc5 => omega
      case qc6 => simp
      intro v' w1 hown hgrow hnil
      have F1 := Lib.hid (show Fr no w w1 from ((Fr.refl no w).alloc _).grown hgrow (fun k hk => by
        simp [Value.ownBlock] at hk
        exact .inr (by omega)))
      have HO := Lib.hid (show ∃ ao cap, v' = .slice ao 0 cap by
        have h' := hown
        rcases h'.2 with ⟨rfl, _⟩ | ⟨g, cap, cur, rfl, hq1, hq2, hq3, hq4, hq5⟩
        · exact ⟨_, _, rfl⟩
        · exact ⟨_, _, rfl⟩)
      clear hown hgrow hnil
      go_wp2_with fail
      go_ret
      obtain ⟨ao, cp, rfl⟩ := HO.out
      exact ⟨ao, cp, rfl, ⟨⟨H.out.1, fun i hi => by omega⟩, fun i hi => by omega⟩, by omega, F1.out⟩
    · obtain ⟨b, off, _, _, h1, _⟩ := h.2 0 (by omega)
      cases h1
      exact cloneH_some b off len cap xs w h hl2

end Go.Proofs.Ytpaoacdgmfaolaa
