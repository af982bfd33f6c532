/- Of runs: parts of them. -/
import Derived.Test.YtmkmefcafpgphaaLsq
import Derived.Test.YtmkmefcafpgphaaMee
namespace Go.Proofs.Ytmkmefcafpgphaa
set_option linter.unusedVariables false
open Go.RowKit


theorem snAt_take (xs : List Sn) (k j : Nat) (h : j < k) : snAt (xs.take k) j = snAt xs j := by
  simp [snAt, List.getD_eq_getElem?_getD, h]
theorem snAt_drop (xs : List Sn) (k j : Nat) : snAt (xs.drop k) j = snAt xs (k + j) := by
  simp [snAt, List.getD_eq_getElem?_getD, List.getElem?_drop]
theorem runL_take (zs : List Int) (l : List Sy) (xs : List Sn) (k j : Nat) (h : j ≤ k) : runL zs l (xs.take k) j = runL zs l xs j := by
  induction j with
  | zero => rfl
  | succ j ih => rw [runL, runL, ih (by omega), snAt_take xs k j (by omega)]
theorem runE_take (zs : List Int) (l : List Sy) (xs : List Sn) (k j : Nat) (h : j < k) : runE zs l (xs.take k) j = runE zs l xs j := by
  rw [runE, runE, runL_take zs l xs k j (by omega), snAt_take xs k j h]
theorem runL_drop (zs : List Int) (l : List Sy) (xs : List Sn) (k j : Nat) : runL zs (runL zs l xs k) (xs.drop k) j = runL zs l xs (k + j) := by
  induction j with
  | zero => rfl
  | succ j ih => rw [runL, ih, snAt_drop, ← Nat.add_assoc, runL]
theorem runE_drop (zs : List Int) (l : List Sy) (xs : List Sn) (k j : Nat) : runE zs (runL zs l xs k) (xs.drop k) j = runE zs l xs (k + j) := by
  rw [runE, runE, runL_drop, snAt_drop]
theorem co_valid {o d s c sl df : Int} (h : okS o d s c = true) (h0 : coE o d s c sl df = 0) (hs : isS sl = true) : okS (o + df) d sl (c + 1) = true := by
  obtain ⟨-, hc⟩ := okS_t h
  have h4 : c ≠ 4096 := by
    intro e
    unfold coE at h0
    by_cases h1 : sl ≤ s
    · simp [h1] at h0
    · by_cases h2 : inR df (-4999) 4999 = true
      · simp [h1, h2, e] at h0
      · simp [h1, h2] at h0
  obtain ⟨h5, -⟩ := co_0 h0
  have h6 : inR (c + 1) 1 4096 = true := inR_t.2 ⟨by omega, by omega⟩
  simp [okS, h5, isW, hs, h6]
theorem he_0 {o d s c sl t : Int} (h : heE o d s c sl t = 0) : okS o d s c = true ∧ isS sl = true ∧ coE o d s c sl (-meV o d sl t) = 0 ∧ heZ o d s c sl t = true := by
  unfold heE at h
  cases hk : okS o d s c
  · rw [hk] at h; simp at h
  · rw [hk, if_pos rfl] at h
    by_cases hm : meE o d sl t = 0
    · rw [if_pos hm] at h
      refine ⟨rfl, ?_, h, by simp [heZ, hk, hm]⟩
      unfold meE at hm
      obtain ⟨hc, -⟩ := okS_t hk
      rw [hc, if_pos rfl] at hm
      cases x : isS sl
      · simp [x] at hm
      · rfl
    · rw [if_neg hm] at h; exact absurd h hm
theorem ac_0 {o d s c sl df : Int} (h : acE o d s c sl df = 0) : okS o d s c = true ∧ isS sl = true ∧ coE o d s c sl df = 0 ∧ acZ o d s c sl = true := by
  unfold acE at h
  cases hk : okS o d s c
  · rw [hk] at h; simp at h
  · rw [hk, if_pos rfl] at h
    cases hm : isS sl
    · rw [hm] at h; simp at h
    · rw [hm, if_pos rfl] at h
      exact ⟨rfl, rfl, h, by simp [acZ, hk, hm]⟩
theorem cox_ok {v p : Sy} {x : Sn} (h : coxE v p x = 0) : syOk (coxV v p x) = true := by
  unfold coxE at h
  unfold coxV
  cases hx : x.a
  · rw [hx, if_neg Bool.false_ne_true] at h
    rw [if_neg Bool.false_ne_true]
    have hi : inE p.o p.d x.s 2120 = 0 := by
      by_cases e : inE p.o p.d x.s 2120 = 0
      · exact e
      · rw [hrE, if_neg e] at h; exact absurd h e
    rw [hrE, if_pos hi] at h
    obtain ⟨h1, h2, h3, h4⟩ := he_0 h
    obtain ⟨-, g2, g3, g4, g5⟩ := co_0 h3
    simp only [syOk, hrO, hrD, hrS, hrC, if_pos hi, h4, g2, g3, g4, g5, z0, if_true]
    exact co_valid h1 h3 h2
  · rw [hx, if_pos rfl] at h
    rw [if_pos rfl]
    have hi : inE v.o v.d x.s 2120 = 0 := by
      by_cases e : inE v.o v.d x.s 2120 = 0
      · exact e
      · rw [akE, if_neg e] at h; exact absurd h e
    rw [akE, if_pos hi] at h
    obtain ⟨h1, h2, h3, h4⟩ := ac_0 h
    obtain ⟨-, g2, g3, g4, g5⟩ := co_0 h3
    simp only [syOk, akO, akD, akS, akC, if_pos hi, h4, g2, g3, g4, g5, z0, if_true]
    exact co_valid h1 h3 h2
theorem all_set {l : List Sy} {i : Nat} {v : Sy} (h : l.all syOk = true) (hv : syOk v = true) : (l.set i v).all syOk = true := by
  rw [List.all_eq_true] at h ⊢
  intro x hx
  rcases List.mem_or_eq_of_mem_set hx with h1 | h1
  · exact h x h1
  · rw [h1]; exact hv
theorem st_in {zs : List Int} {l : List Sy} {x : Sn} (h : stE zs l x = 0) : (1 ≤ x.n ∧ x.n ≤ (l.length : Int) - 1) ∧ coxE (syAt l x.n.toNat) (syAt l (zs.getD x.n.toNat 0).toNat) x = 0 := by
  unfold stE at h
  cases hi : inR x.n 1 ((l.length : Int) - 1)
  · rw [hi] at h; simp at h
  · rw [hi, if_pos rfl] at h
    exact ⟨inR_t.1 hi, h⟩
theorem run_valid {zs : List Int} {l : List Sy} {xs : List Sn} (hl : l.all syOk = true) (k : Nat) (h : ∀ j, j < k → runE zs l xs j = 0) : (runL zs l xs k).all syOk = true := by
  induction k with
  | zero => exact hl
  | succ k ih =>
    rw [runL, stL]
    exact all_set (ih (fun j hj => h j (by omega))) (cox_ok (st_in (h k (by omega))).2)
theorem run_ok_take {zs : List Int} {l : List Sy} {xs : List Sn} (k : Nat) (hk : k ≤ xs.length) (h : RunOk zs l xs.length) : RunOk zs l (xs.take k).length := by
  obtain ⟨h1, h2, h3, h4⟩ := h
  exact ⟨h1, h2, h3, by rw [List.length_take]; omega⟩
theorem run_ok_drop {zs : List Int} {l : List Sy} {xs : List Sn} (k : Nat) (hk : k ≤ xs.length) (h : RunOk zs l xs.length) (he : ∀ j, j < xs.length → runE zs l xs j = 0) : RunOk zs (runL zs l xs k) (xs.drop k).length := by
  obtain ⟨h1, h2, h3, h4⟩ := h
  exact ⟨h1, by rw [runL_len]; exact h2, run_valid h3 k (fun j hj => he j (by omega)), by rw [List.length_drop]; omega⟩
theorem run_unnamed {zs : List Int} {l : List Sy} {xs : List Sn} {n : Nat} (hn : namB xs (n : Int) = false) (k : Nat) (hk : k ≤ xs.length) (h : ∀ j, j < k → runE zs l xs j = 0) : syAt (runL zs l xs k) n = syAt l n := by
  induction k with
  | zero => rfl
  | succ k ih =>
    obtain ⟨⟨h1, h2⟩, -⟩ := st_in (h k (by omega))
    have h3 := nam_no hn k (by omega)
    rw [runL, stL, syAt, List.getD_eq_getElem?_getD, List.getElem?_set_ne (by omega), ← List.getD_eq_getElem?_getD]
    exact ih (by omega) (fun j hj => h j (by omega))
/-- What Run answers, as one value. -/
def RunV (w w' : World) (zs : List Int) (l : List Sy) (xs : List Sn) (v : Value) (i er : Int) : Prop :=
  (¬ RunOk zs l xs.length ∧ v = .slice none 0 0 ∧ i = -1 ∧ er = 1) ∨
  (RunOk zs l xs.length ∧ (∀ k, k < xs.length → runE zs l xs k = 0) ∧ i = -1 ∧ er = 0 ∧ RowS w.heap.size w' v (runL zs l xs xs.length)) ∨
  (RunOk zs l xs.length ∧ v = .slice none 0 0 ∧ ∃ k : Nat, k < xs.length ∧ i = (k : Int) ∧ runE zs l xs k ≠ 0 ∧ er = runE zs l xs k)
theorem runV_any (a0 : Option Addr) (l0 k0 : Nat) (a1 : Option Addr) (l1 k1 : Nat) (a2 : Option Addr) (l2 k2 : Nat) (l : List Sy) (zs : List Int) (xs : List Sn) (w : World) (hs : SysIn w a0 l0 l) (hz : IntsIn w a1 l1 zs) (hx : SnsIn w a2 l2 xs) (hc : l1 ≤ k1) (n0 : l0 ≤ 40) (n1 : l1 ≤ 40) (n2 : l2 ≤ 40) :
    Calls Try.prog 24 #[.slice a0 l0 k0, .slice a1 l1 k1, .slice a2 l2 k2] w (fun e w' => ∃ v i er, e = .returned (.tuple #[v, .int .i64 i, .int .i64 er]) ∧ RunV w w' zs l xs v i er ∧ Fr no w w') := by
  refine (run_any a0 l0 k0 a1 l1 k1 a2 l2 k2 l zs xs w hs hz hx hc n0 n1 n2).mono ?_
  rintro e w' ⟨f, ⟨h1, rfl⟩ | ⟨h1, h2, v, rfl, h3⟩ | ⟨h1, k, h2, h3, h4, rfl⟩⟩
  · exact ⟨_, _, _, rfl, .inl ⟨h1, rfl, rfl, rfl⟩, f⟩
  · exact ⟨_, _, _, rfl, .inr (.inl ⟨h1, h2, rfl, rfl, h3⟩), f⟩
  · exact ⟨_, _, _, rfl, .inr (.inr ⟨h1, rfl, k, h2, rfl, h4, rfl⟩), f⟩

end Go.Proofs.Ytmkmefcafpgphaa
