/- Newer versions: mathematics. -/
import Derived.Test.YtpaoacdgmfaolaaAwk
import Derived.Test.YtpaoacdgmfaolaaCal
namespace Go.Proofs.Ytpaoacdgmfaolaa
set_option linter.unusedVariables false
open Go.RowKit


theorem nw_rules {a b : Int} (a0 : 0 ≤ a) (a1 : a ≤ 255) (b0 : 0 ≤ b) (b1 : b ≤ 255) :
    ∃ d : Int, (if a - b < b - a then b - a else a - b) = d ∧ ((nwB a b = true ∧ nwB b a = false ∧ d ≠ 0 ∧ d ≠ 128) ∨ (nwB a b = false ∧ nwB b a = true ∧ d ≠ 0 ∧ d ≠ 128) ∨ (nwB a b = false ∧ nwB b a = false ∧ d = 0) ∨ (nwB a b = false ∧ nwB b a = false ∧ d = 128)) := by
  have ia : inR a 0 255 = true := inR_t.2 ⟨a0, a1⟩
  have ib : inR b 0 255 = true := inR_t.2 ⟨b0, b1⟩
  have e1 : nwB a b = inR ((a - b) % 256) 1 127 := by simp [nwB, ia, ib]
  have e2 : nwB b a = inR ((b - a) % 256) 1 127 := by simp [nwB, ia, ib]
  have t : ∀ x : Int, inR x 1 127 = true ↔ 1 ≤ x ∧ x ≤ 127 := fun x => inR_t
  have fls : ∀ x : Int, inR x 1 127 = false ↔ ¬ (1 ≤ x ∧ x ≤ 127) := fun x => by rw [← inR_t]; simp
  refine ⟨_, rfl, ?_⟩
  rw [e1, e2]
  simp only [t, fls]
  split <;> omega
theorem nw_out {a b : Int} (h : ¬ ((0 ≤ a ∧ a ≤ 255) ∧ 0 ≤ b ∧ b ≤ 255)) : nwB a b = false := by
  cases q : nwB a b
  · rfl
  · simp only [nwB, Bool.and_eq_true, inR_t] at q
    exact absurd ⟨q.1, q.2.1⟩ h
theorem next_newer {v : Int} (h0 : 0 ≤ v) (h1 : v ≤ 255) : nwB ((v + 1) % 256) v = true ∧ nwB v ((v + 1) % 256) = false := by
  have e1 : nwB ((v + 1) % 256) v = inR (((v + 1) % 256 - v) % 256) 1 127 := by
    unfold nwB
    rw [inR_t.2 ⟨by omega, by omega⟩, inR_t.2 ⟨h0, h1⟩]; rfl
  have e2 : nwB v ((v + 1) % 256) = inR ((v - (v + 1) % 256) % 256) 1 127 := by
    unfold nwB
    rw [inR_t.2 ⟨h0, h1⟩, inR_t.2 ⟨by omega, by omega⟩]; rfl
  rw [e1, e2]
  refine ⟨inR_t.2 ⟨by omega, by omega⟩, ?_⟩
  cases q : inR ((v - (v + 1) % 256) % 256) 1 127
  · rfl
  · have := inR_t.1 q; omega
theorem caE_two {v f u : Int} {zs : List Int} {t : Int} {xs : List Int} (h : nxB v f u zs t xs = true) : caE [⟨v, f, u, zs⟩, ⟨(v + 1) % 256, u, t, xs⟩] = 0 := by
  simp only [nxB, Bool.and_eq_true] at h
  have h0 := (hlB_t h.1)
  simp [caE, caK, hvAt, hvB, h.1, h.2, hvF, foE, inR]

end Go.Proofs.Ytpaoacdgmfaolaa
