/- The worst signal is reached at the beginning of a fading, or without any. -/
import Derived.Test.YtdenlinehjigaaaUnf
namespace Go.Proofs.Ytdenlinehjigaaa
open Go.RowKit
set_option linter.unusedVariables false

theorem lsS_le (p : Fd → Bool) (m : Int) (f : Fd) : lsS p m f ≤ m := by unfold lsS; split <;> (try split) <;> omega
theorem fold_le (p : Fd → Bool) (fs : List Fd) (m : Int) : fs.foldl (lsS p) m ≤ m := by
  induction fs generalizing m with
  | nil => exact Int.le_refl _
  | cons f fs ih => exact Int.le_trans (ih _) (lsS_le p m f)
theorem fold_mono (p q : Fd → Bool) (fs : List Fd) (h : ∀ f, p f = true → q f = true) (m k : Int) (hm : m ≤ k) : fs.foldl (lsS q) m ≤ fs.foldl (lsS p) k := by
  induction fs generalizing m k with
  | nil => exact hm
  | cons f fs ih =>
    refine ih _ _ ?_
    have := h f
    unfold lsS
    cases hp : p f
    · have h1 := lsS_le q m f
      unfold lsS at h1
      simp only [Bool.false_eq_true, if_false]
      omega
    · rw [this hp]
      simp only [if_true]
      split <;> split <;> omega
theorem fold_mem (p : Fd → Bool) (fs : List Fd) (m : Int) (f : Fd) (hf : f ∈ fs) (hp : p f = true) : fs.foldl (lsS p) m ≤ f.fa := by
  induction fs generalizing m with
  | nil => cases hf
  | cons g fs ih =>
    rcases List.mem_cons.1 hf with rfl | hf
    · refine Int.le_trans (fold_le p fs _) ?_
      unfold lsS
      rw [if_pos hp]
      split <;> omega
    · exact ih _ hf
theorem fold_at (p : Fd → Bool) (fs : List Fd) (m : Int) : fs.foldl (lsS p) m = m ∨ ∃ f, f ∈ fs ∧ p f = true ∧ f.fa = fs.foldl (lsS p) m := by
  induction fs generalizing m with
  | nil => exact .inl rfl
  | cons g fs ih =>
    rw [List.foldl_cons]
    rcases ih (lsS p m g) with h | ⟨f, h1, h2, h3⟩
    · rw [h]
      unfold lsS
      split
      · rename_i hp
        split
        · exact .inr ⟨g, List.mem_cons_self, hp, rfl⟩
        · exact .inl rfl
      · exact .inl rfl
    · exact .inr ⟨f, List.mem_cons_of_mem _ h1, h2, h3⟩
theorem ft_ge (a b c t : Int) (fs : List Fd) : wtF a b fs ≤ ftF a b c t fs := by
  refine fold_mono _ _ fs (fun f h => ?_) 1000 1000 (Int.le_refl _)
  simp only [ftP, wtP, atmF, evrF, Bool.and_eq_true, decide_eq_true_eq] at h ⊢
  exact ⟨h.1.1, by omega⟩
/-- A time and a channel at which the factor is the worst one. -/
theorem ft_at (a b : Int) (fs : List Fd) (hf : fs.all fdB = true) : (∀ c t, ftF a b c t fs = wtF a b fs) ∨ ∃ k c : Nat, k < fs.length ∧ c < 16 ∧ ftF a b c (fdAt fs k).fi fs = wtF a b fs := by
  rcases fold_at (wtP a b) fs 1000 with h | ⟨f, h1, h2, h3⟩
  · left
    intro c t
    have h1 := ft_ge a b c t fs
    have h2 : ftF a b c t fs ≤ 1000 := fold_le _ fs 1000
    have h3 : wtF a b fs = 1000 := h
    omega
  · right
    obtain ⟨k, hk, hkf⟩ := List.getElem_of_mem h1
    have hfd : fdAt fs k = f := by rw [← hkf]; simp [fdAt, List.getD_eq_getElem?_getD, hk]
    have hv := List.all_eq_true.1 hf f h1
    simp only [fdB, wldB, inR, Bool.and_eq_true, Bool.or_eq_true, decide_eq_true_eq, beq_iff_eq] at hv
    simp only [wtP, evrF, Bool.and_eq_true, decide_eq_true_eq] at h2
    have key : ∀ c : Int, (f.ch = -1 ∨ f.ch = c) → ftF a b c f.fi fs = wtF a b fs := by
      intro c hc
      have g1 := ft_ge a b c f.fi fs
      have g2 : ftF a b c f.fi fs ≤ f.fa := fold_mem (ftP a b c f.fi) fs 1000 f h1 (by
        simp only [ftP, onChF, atmF, Bool.and_eq_true, Bool.or_eq_true, decide_eq_true_eq, beq_iff_eq]
        exact ⟨⟨h2.1, hc⟩, Int.le_refl _, h2.2⟩)
      have h4 : f.fa = wtF a b fs := h3
      omega
    rcases hv.1.1.2 with hc | hc
    · exact ⟨k, 0, hk, by omega, by rw [hfd]; exact key _ (.inl hc)⟩
    · exact ⟨k, f.ch.toNat, hk, by omega, by rw [hfd]; exact key _ (.inr (by omega))⟩
/-- The least of what was seen before the place k, c. -/
structure LsI (n : Nat) (G : Nat → Nat → Int) (W l : Int) (k c : Nat) : Prop where
  m : -1 ≤ l
  w : 0 < k + c → W ≤ l
  z : k + c = 0 → l = -1
  v : ∀ i j, i < n → j < 16 → i < k ∨ i = k ∧ j < c → l ≤ G i j
theorem LsI.start {n : Nat} {G : Nat → Nat → Int} {W : Int} : LsI n G W (-1) 0 0 := ⟨by omega, by omega, fun _ => rfl, fun i j hi hj h => by omega⟩
theorem LsI.row {n : Nat} {G : Nat → Nat → Int} {W l : Int} {k : Nat} (h : LsI n G W l k 16) : LsI n G W l (k + 1) 0 := ⟨h.m, fun _ => h.w (by omega), fun h => by omega, fun i j hi hj h1 => h.v i j hi hj (by omega)⟩
theorem LsI.step {n : Nat} {G : Nat → Nat → Int} {W l : Int} {k c : Nat} (h : LsI n G W l k c) (h0 : 0 ≤ W) (hW : W ≤ G k c) : LsI n G W (if l < 0 ∨ G k c < l then G k c else l) k (c + 1) := by
  have hm := h.m
  have hw := h.w
  have hz := h.z
  refine ⟨?_, fun _ => ?_, fun h => by omega, fun i j hi hj h1 => ?_⟩
  · split <;> omega
  · split
    · exact hW
    · by_cases hk : 0 < k + c
      · exact hw hk
      · have := hz (by omega)
        omega
  · by_cases he : i = k ∧ j = c
    · obtain ⟨rfl, rfl⟩ := he
      split <;> omega
    · have h2 : l ≤ G i j := h.v i j hi hj (by omega)
      split
      · rename_i hl
        rcases hl with hl | hl
        · have : ¬ 0 < k + c := fun hk => by have := hw hk; omega
          omega
        · omega
      · exact h2
theorem LsI.done {n : Nat} {G : Nat → Nat → Int} {W l : Int} (h : LsI n G W l n 0) (hn : 0 < n) (i j : Nat) (hi : i < n) (hj : j < 16) (hG : G i j = W) : l = W := by
  have h1 := h.w (by omega)
  have h2 := h.v i j hi hj (by omega)
  omega
end Go.Proofs.Ytdenlinehjigaaa
