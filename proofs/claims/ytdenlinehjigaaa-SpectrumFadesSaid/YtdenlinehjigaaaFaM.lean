/- A further fading. -/
import Derived.Test.YtdenlinehjigaaaWoM
namespace Go.Proofs.Ytdenlinehjigaaa
open Go.RowKit
set_option linter.unusedVariables false

theorem lsF_snoc (p : Fd → Bool) (fs : List Fd) (f : Fd) : lsF p (fs ++ [f]) = lsS p (lsF p fs) f := by simp [lsF, List.foldl_append]
theorem ckS_snoc {l0 l1 : Nat} {ss : List Src} {fs : List Fd} (f : Fd) (h : ckS l0 l1 ss fs = true) (hl : l1 ≤ 63) : ckS l0 (l1 + 1) ss (fs ++ [f]) = fdB f := by
  obtain ⟨h0, h1, h2, h3⟩ := ckS_len h
  simp [ckS, h0, show l1 + 1 ≤ 64 by omega, h2, h3]
theorem div_1000 (V : Int) : V * 1000 / 1000 = V := Int.mul_ediv_cancel V (by decide)
/-- What the law says of the three signals and the worst one. -/
structure FadeNs (p full worst after fa : Int) (appl : Bool) : Prop where
  w0 : 0 ≤ worst
  wp : worst ≤ p
  pf : p ≤ full
  fm : full ≤ MX
  no : appl = false → after = p
  le : after ≤ p
  yes : appl = true → after ≤ full * fa / 1000
theorem fades_facts {CB : Bool} {m0 : Nat} {e : Int} {ps : List Pt} {zs : List Int} {ws : List Wl} {a b c t : Int} {fs : List Fd} (f : Fd) (h0 : 0 ≤ unV true CB m0 e ps zs ws a b) (h9 : unV true CB m0 e ps zs ws a b ≤ MX) (hE : unE true CB m0 a b = 0) (hc : chT c t = true) (hf : fs.all fdB = true) :
    FadeNs (sgV true CB m0 e ps zs ws a b c t fs) (sgV true CB m0 e ps zs ws a b c t []) (wsV true CB m0 e ps zs ws a b fs) (sgV true CB m0 e ps zs ws a b c t (fs ++ [f])) f.fa (ftP a b c t f) := by
  have e0 : sgV true CB m0 e ps zs ws a b c t [] = unV true CB m0 e ps zs ws a b := by simp [sgV, hE, hc, ftF, lsF, div_1000]
  have e1 : sgV true CB m0 e ps zs ws a b c t fs = unV true CB m0 e ps zs ws a b * ftF a b c t fs / 1000 := by simp [sgV, hE, hc]
  have e2 : sgV true CB m0 e ps zs ws a b c t (fs ++ [f]) = unV true CB m0 e ps zs ws a b * ftF a b c t (fs ++ [f]) / 1000 := by simp [sgV, hE, hc]
  have e3 : wsV true CB m0 e ps zs ws a b fs = unV true CB m0 e ps zs ws a b * wtF a b fs / 1000 := by simp [wsV, hE]
  rw [e0, e1, e2, e3]
  generalize unV true CB m0 e ps zs ws a b = V at *
  have mono : ∀ x y : Int, x ≤ y → V * x / 1000 ≤ V * y / 1000 := fun x y h => Int.ediv_le_ediv (by omega) (Int.mul_le_mul_of_nonneg_left h h0)
  refine ⟨Int.ediv_nonneg (Int.mul_nonneg h0 (lsF_bd _ fs hf).1) (by omega), mono _ _ (ft_ge _ _ _ _ _), ?_, h9, ?_, mono _ _ ?_, ?_⟩
  · have := mono (ftF a b c t fs) 1000 (fold_le _ fs 1000)
    rwa [div_1000] at this
  · intro h
    have : ftF a b c t (fs ++ [f]) = ftF a b c t fs := by
      unfold ftF
      rw [lsF_snoc]
      simp [lsS, h]
    rw [this]
  · unfold ftF
    rw [lsF_snoc]
    exact lsS_le _ _ _
  · intro h
    refine mono _ _ ?_
    unfold ftF
    rw [lsF_snoc]
    unfold lsS
    rw [if_pos h]
    split <;> omega
end Go.Proofs.Ytdenlinehjigaaa
