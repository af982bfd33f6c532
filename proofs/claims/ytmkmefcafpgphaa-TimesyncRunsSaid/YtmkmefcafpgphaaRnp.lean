/- Answers of Depths, Run, Spread are unique. -/
import Derived.Test.YtmkmefcafpgphaaOnm
import Derived.Test.YtmkmefcafpgphaaSpr
namespace Go.Proofs.Ytmkmefcafpgphaa
set_option linter.unusedVariables false
open Go.RowKit


/-- What Depths answers, what Run answers. -/
def DepQ (zs : List Int) (Y : List Int) (er : Int) : Prop := (Tree zs ∧ Y = dpL zs ∧ er = 0) ∨ (¬ Tree zs ∧ Y = [] ∧ er = 1)
theorem DepQ.eq {zs Y Y' : List Int} {er er' : Int} (h : DepQ zs Y er) (g : DepQ zs Y' er') : Y = Y' ∧ er = er' := by
  rcases h with ⟨h, rfl, rfl⟩ | ⟨h, rfl, rfl⟩ <;> rcases g with ⟨g, rfl, rfl⟩ | ⟨g, rfl, rfl⟩
  · exact ⟨rfl, rfl⟩
  · exact absurd h g
  · exact absurd g h
  · exact ⟨rfl, rfl⟩
def DepP (w w' : World) (zs : List Int) (e : Ending) : Prop := ∃ a c Y er, e = .returned (.tuple #[.slice a Y.length c, .int .i64 er]) ∧ DepQ zs Y er ∧ IntsIn w' a Y.length Y ∧ Y.length ≤ 40 ∧ Fr no w w'
theorem depP_of {w w' : World} {zs : List Int} {e : Ending} (h : DepR w w' zs e) (hl : zs.length ≤ 40) : DepP w w' zs e := by
  obtain ⟨f, ⟨hT, v, rfl, hrow⟩ | ⟨hT, rfl⟩⟩ := h
  · obtain ⟨a, c, rfl, -, hi⟩ := rowI_ints hrow
    exact ⟨a, c, dpL zs, 0, rfl, .inl ⟨hT, rfl, rfl⟩, hi, by rw [dpL_len]; exact hl, f⟩
  · exact ⟨none, 0, [], 1, rfl, .inr ⟨hT, rfl, rfl⟩, ⟨rfl, fun i hi => absurd hi (by simp)⟩, by simp, f⟩
def RunQ (zs : List Int) (l : List Sy) (xs : List Sn) (Y : List Sy) (i er : Int) : Prop :=
  (¬ RunOk zs l xs.length ∧ Y = [] ∧ i = -1 ∧ er = 1) ∨
  (RunOk zs l xs.length ∧ (∀ k, k < xs.length → runE zs l xs k = 0) ∧ Y = runL zs l xs xs.length ∧ i = -1 ∧ er = 0) ∨
  (RunOk zs l xs.length ∧ Y = [] ∧ ∃ k : Nat, k < xs.length ∧ (∀ j, j < k → runE zs l xs j = 0) ∧ runE zs l xs k ≠ 0 ∧ i = (k : Int) ∧ er = runE zs l xs k)
theorem RunQ.eq {zs : List Int} {l : List Sy} {xs : List Sn} {Y Y' : List Sy} {i i' er er' : Int} (h : RunQ zs l xs Y i er) (g : RunQ zs l xs Y' i' er') : Y = Y' ∧ i = i' ∧ er = er' := by
  rcases h with ⟨h, rfl, rfl, rfl⟩ | ⟨h, h2, rfl, rfl, rfl⟩ | ⟨h, rfl, k, hk, hj, hn, rfl, rfl⟩ <;> rcases g with ⟨g, rfl, rfl, rfl⟩ | ⟨g, g2, rfl, rfl, rfl⟩ | ⟨g, rfl, m, gk, gj, gn, rfl, rfl⟩
  · exact ⟨rfl, rfl, rfl⟩
  · exact absurd g h
  · exact absurd g h
  · exact absurd h g
  · exact ⟨rfl, rfl, rfl⟩
  · exact absurd (h2 m gk) gn
  · exact absurd h g
  · exact absurd (g2 k hk) hn
  · have : k = m := by
      by_cases h1 : k < m
      · exact absurd (gj k h1) hn
      · by_cases h2 : m < k
        · exact absurd (hj m h2) gn
        · omega
    subst this
    exact ⟨rfl, rfl, rfl⟩
def RunP (w w' : World) (zs : List Int) (l : List Sy) (xs : List Sn) (e : Ending) : Prop := ∃ a c Y i er, e = .returned (.tuple #[.slice a Y.length c, .int .i64 i, .int .i64 er]) ∧ RunQ zs l xs Y i er ∧ SysIn w' a Y.length Y ∧ Y.length ≤ 40 ∧ Fr no w w'
theorem runP_of {w w' : World} {zs : List Int} {l : List Sy} {xs : List Sn} {e : Ending} (h : RunR w w' zs l xs e) (hl : l.length ≤ 40) : RunP w w' zs l xs e := by
  obtain ⟨f, ⟨h, rfl⟩ | ⟨h, h2, v, rfl, hrow⟩ | ⟨h, k, hk, hj, hn, rfl⟩⟩ := h
  · exact ⟨none, 0, [], -1, 1, rfl, .inl ⟨h, rfl, rfl, rfl⟩, ⟨rfl, fun i hi => absurd hi (by simp)⟩, by simp, f⟩
  · obtain ⟨a, c, rfl, -, hi⟩ := rowS_in hrow
    exact ⟨a, c, _, -1, 0, rfl, .inr (.inl ⟨h, h2, rfl, rfl, rfl⟩), hi, by rw [runL_len]; exact hl, f⟩
  · exact ⟨none, 0, [], k, _, rfl, .inr (.inr ⟨h, rfl, k, hk, hj, hn, rfl, rfl⟩), ⟨rfl, fun i hi => absurd hi (by simp)⟩, by simp, f⟩
theorem spr_same {l : List Sy} {t v u : Int} (h1 : spE l t = 0 → Spr l t v) (h2 : spE l t ≠ 0 → v = 0) (g1 : spE l t = 0 → Spr l t u) (g2 : spE l t ≠ 0 → u = 0) : v = u := by
  by_cases h : spE l t = 0
  · exact (h1 h).eq (g1 h)
  · rw [h2 h, g2 h]

end Go.Proofs.Ytmkmefcafpgphaa
