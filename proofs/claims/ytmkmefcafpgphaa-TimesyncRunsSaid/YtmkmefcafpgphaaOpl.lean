/- Arguments that came in: lists. -/
import Derived.Test.YtmkmefcafpgphaaOpn
import Derived.Test.YtmkmefcafpgphaaLis
namespace Go.Proofs.Ytmkmefcafpgphaa
set_option linter.unusedVariables false
open Go.ChangeShapes Go.WideShapes Go.ChangeAt Go.RowKit Go.Joins

theorem addr_plain {w : World} {a : Addr} {v : Value} (h : w.cell? a = some v) : ∃ b off, a = ⟨b, off, none⟩ ∧ (∀ j, a.add j = ⟨b, off + j, none⟩) := by
  obtain ⟨b, off, spot⟩ := a
  cases spot with
  | none => exact ⟨b, off, rfl, fun j => by unfold Addr.add; split <;> simp_all⟩
  | some s =>
    exfalso
    unfold World.cell? at h
    split at h <;> simp at h
section
variable {H : Type} {enc : TypeId × Value → H} {W : World} {base : Nat} {spare : Nat → Bool} {held : Bool}
def intAt : Option Value → Int
  | some (.int _ n) => n
  | _ => 0
theorem ints_trod {fuel : Nat} {cs : List Value} {x : DataW H × List MemPlace} (h : DataW.trod enc Try.prog W base spare held fuel 37 cs = some x) : ∃ ao len cap zs, cs = [.slice ao len cap] ∧ IntsIn W ao len zs ∧ len ≤ cap ∧ cap ≤ maxLen := by
  rcases Go.Deep.open_slice Try.underlying37 h with ⟨rfl, _⟩ | ⟨a, len, cap, m, n, D, Pl, rfl, _, hl, hcm, hm, _, hi⟩
  · exact ⟨none, 0, 0, [], rfl, ⟨rfl, fun i hi => by omega⟩, by omega, by unfold maxLen; omega⟩
  · by_cases h0 : len = 0
    · subst h0
      exact ⟨some a, 0, cap, [], rfl, ⟨rfl, fun i hi => by omega⟩, hl, hcm⟩
    · have hle : len ≤ m := by rw [hm]; split <;> omega
      have hcell : ∀ i, i < len → ∃ z, W.cell? (a.add i) = some (.int .i64 z) := fun i hi' => by
        obtain ⟨cs', hc, ht⟩ := hi i (by omega)
        rw [cells3] at hc
        obtain ⟨_, hcl, hat⟩ := World.cells?_some hc
        obtain ⟨z, rfl, _⟩ := DataW.trod_int Try.underlying3 ht
        have := hat 0 (by omega)
        exact ⟨z, by simpa [Addr.add] using this⟩
      obtain ⟨z0, hz0⟩ := hcell 0 (by omega)
      rw [show a.add 0 = a by simp [Addr.add]] at hz0
      obtain ⟨b, off, rfl, hadd⟩ := addr_plain hz0
      refine ⟨_, len, cap, (List.range len).map fun i => intAt (W.cell? ⟨b, off + i, none⟩), rfl, ⟨by simp, fun i hi' => ⟨b, off, rfl, ?_⟩⟩, hl, hcm⟩
      obtain ⟨z, hz⟩ := hcell i hi'
      rw [hadd] at hz
      rw [hz]
      simp [List.getD_eq_getElem?_getD, hi', hz, intAt]
theorem open_ints {r : Reach} {b0 : Nat} {v : Value} {d : DataW H} {p : List MemPlace} (hv : Value.okWide Try.prog W r b0 37 v) (h : DataW.Trod enc Try.prog W base spare held 37 v d p) :
    ∃ ao len cap zs, v = .slice ao len cap ∧ IntsIn W ao len zs ∧ len ≤ cap ∧ (len : Int) ≤ 9223372036854775807 := by
  obtain ⟨a0, len, cap, rfl⟩ := okWide_slice Try.underlying37 hv
  obtain ⟨fuel, hf⟩ := h
  obtain ⟨ao, l2, c2, zs, he, h1, h2, h3⟩ := ints_trod (cs := [.slice a0 len cap]) (by simpa [Value.cells] using hf)
  cases he
  exact ⟨_, _, _, zs, rfl, h1, h2, by unfold maxLen at h3; omega⟩
end
end Go.Proofs.Ytmkmefcafpgphaa
