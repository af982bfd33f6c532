/- Tables in memory, and the comparison of two. -/
import Derived.Test.YtljfdoabgbioiaaTbR
namespace Go.Proofs.Ytljfdoabgbioiaa
open Go.RowKit
set_option linter.unusedVariables false

def rowAt (zss : List (List Int)) (i : Nat) : List Int := zss.getD i []
/-- A table in memory. -/
def TabIn (w : World) (a : Option Addr) (n : Nat) (zss : List (List Int)) : Prop :=
  zss.length = n ∧ ∀ i, i < n → ∃ b off ra rc, a = some ⟨b, off, none⟩ ∧ w.cell? ⟨b, off + i, none⟩ = some (.slice ra (rowAt zss i).length rc) ∧ IntsIn w ra (rowAt zss i).length (rowAt zss i)
theorem TabIn.kept {w w' : World} {a : Option Addr} {n : Nat} {zss : List (List Int)} (h : TabIn w a n zss) (hf : Fr no w w') : TabIn w' a n zss := ⟨h.1, fun i hi => by
  obtain ⟨b, off, ra, rc, ha, hc, hr⟩ := h.2 i hi
  exact ⟨b, off, ra, rc, ha, hf.keepc hc, hr.kept hf⟩⟩
theorem listV_tab {B : Nat} {w : World} {v : Value} {vs : List Value} {zss : List (List Int)} (h : ListV B w v vs) (hr : RowsI B w vs zss) : ∃ a c, v = .slice a zss.length c ∧ TabIn w a zss.length zss := by
  have h' : World.ownsRow w B 31 1 v vs.length vs := h
  have hl := hr.1
  rcases h'.2 with ⟨rfl, h0⟩ | ⟨g, cap, cur, rfl, _⟩
  · have hz : vs.length = 0 := by rw [h0]
    refine ⟨none, 0, by rw [← hl, hz], rfl, fun i hi => by omega⟩
  · refine ⟨_, _, by rw [hl], rfl, fun i hi => ?_⟩
    obtain ⟨x, hx⟩ : ∃ x, vs[i]? = some x := ⟨_, List.getElem?_eq_getElem (by omega)⟩
    obtain ⟨l, hl2⟩ : ∃ l, zss[i]? = some l := ⟨_, List.getElem?_eq_getElem hi⟩
    obtain ⟨ra, rc, rfl, hi2⟩ := rowI_ints (hr.2 i x l hx hl2)
    have e : rowAt zss i = l := by simp [rowAt, List.getD_eq_getElem?_getD, hl2]
    refine ⟨g, 0, ra, rc, rfl, ?_, by rw [e]; exact hi2⟩
    rw [e, Nat.zero_add, h'.cellAt i (by omega), hx]
set_option maxHeartbeats 2000000 in
theorem equalFunc_any (a a' : Option Addr) (n c c' : Nat) (zss : List (List Int)) (w : World) (h : TabIn w a n zss) (h' : TabIn w a' n zss) (hn : n ≤ 40) (hr : ∀ i, i < n → (rowAt zss i).length ≤ 40) :
    Calls Try.prog 26 #[.slice a n c, .slice a' n c', .func (.func 27) #[] #[]] w fun e w' => e = .returned (.bool true) ∧ Fr no w w' := by
  have H1 := Lib.hid h
  have H2 := Lib.hid h'
  have HR := Lib.hid hr
  have hnI : (n : Int) ≤ 40 := by omega
  clear h h' hn hr
  go_enter Try.func26, Try.ntmps26
  go_wp2_with fail
  go_loopw [7, 8, 9, 17] (fun _ _ _ i wr => ∃ k : Nat, k ≤ n ∧ i = .int .i64 k ∧ Fr no w wr) (fun _ _ _ i _ => n - (intOf i).toNat)
  case atStart => exact ⟨0, Nat.zero_le _, rfl, Fr.refl _ _⟩
  case round =>
    obtain ⟨k, hk, rfl, hf⟩ := hrel
    have HF := Lib.hid hf
    clear hf
    by_cases hlt : k < n
    · obtain ⟨b, off, ra, rc, rfl, p0, i0⟩ := (H1.out.kept HF.out).2 k hlt
      obtain ⟨b', off', ra', rc', rfl, p1, i1⟩ := (H2.out.kept HF.out).2 k hlt
      have hl := HR.out k hlt
      have KE := eqs_any ra ra' (rowAt zss k).length rc rc' _ wr i0 i1 hl
      generalize rowAt zss k = L at *
      have KE := Lib.hid KE
      clear i0 i1 hl
      have hkI : (k : Int) < (n : Int) := by omega
      go_wp2_with fail
      refine KE.out.mono ?_
      rintro e w5 ⟨rfl, f5⟩
      have HF5 := Lib.hid (HF.out.noTrans f5)
      clear f5
      go_wp2_with fail
      exact ⟨⟨k + 1, by omega, by go_num, HF5.out⟩, by simp [intOf]; omega⟩
    · obtain rfl : k = n := by omega
      go_wp2_with fail
      go_ret
      exact ⟨rfl, HF.out⟩
end Go.Proofs.Ytljfdoabgbioiaa
