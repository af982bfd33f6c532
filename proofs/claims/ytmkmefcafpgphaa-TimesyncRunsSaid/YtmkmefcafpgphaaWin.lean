/- Window. -/
import Derived.Test.YtmkmefcafpgphaaSlt
import Derived.Deep.QuietTactic
namespace Go.Proofs.Ytmkmefcafpgphaa
set_option linter.unusedVariables false
open Go.RowKit

/-- A world behind calls that only made blocks. -/
structure Past (w : World) where
  u : World
  h : Fr no w u
theorem wp_region_past {P : Program} {id : Nat} {Q : Exit → Act → World → Prop} {a : Act} {w : World} {l : List Oper} (hm : P.follows .mixedOrders = true) (hB : Region.lexB .any l.toArray = true)
    (h : wpQuiet P l.toArray (fun w' => ∃ p : Past w, w' = p.u) (fun a' => ∀ w', (∃ p : Past w, w' = p.u) → Q .normal a' w') l a) : (Code.region id l.toArray true).wp P Q a w :=
  wp_region_quiet (C := fun w' => ∃ p : Past w, w' = p.u) hm hB ⟨⟨_, (Fr.refl no w).drew⟩, rfl⟩ (by simpa using h)
theorem past_out {w u : World} (h : ∃ p : Past w, u = p.u) : Fr no w u := by obtain ⟨p, rfl⟩ := h; exact p.h
theorem past_of {P : Program} {f : FuncId} {args : Array Value} {w : World} {p : Past w} {v : Value} (h : Calls P f args p.u fun e w' => e = .returned v ∧ Fr no p.u w') :
    Calls P f args p.u fun e w'' => e = .returned v ∧ ∃ p' : Past w, w'' = p'.u :=
  h.mono fun _ _ ⟨he, hf⟩ => ⟨he, ⟨_, p.h.noTrans hf⟩, rfl⟩
theorem past_same {P : Program} {f : FuncId} {args : Array Value} {w : World} {p : Past w} {v : Value} (h : Calls P f args p.u fun e w' => e = .returned v ∧ w' = p.u) :
    Calls P f args p.u fun e w'' => e = .returned v ∧ ∃ p' : Past w, w'' = p'.u :=
  h.mono fun _ _ ⟨he, hf⟩ => ⟨he, p, hf⟩

/-- Of a window: from, to, the error. -/
noncomputable def wiF (o d s : Int) : Int := if inE o d s 3221 = 0 then inV o d s 1020 else 0
noncomputable def wiT (o d s : Int) : Int := if inE o d s 3221 = 0 then inV o d s 3221 - 1 else 0

/-- x is reached at some time, or behind all. -/
theorem rc_ex_n (o d x : Int) (hd : -100000 ≤ d) (n : Nat) : n ≤ 1099511627777 → (∀ t : Int, 0 ≤ t → t < n → sh o d t < x) ∨ ∃ r, Rc o d x r := by
  induction n with
  | zero => exact fun _ => .inl fun t t0 t1 => by omega
  | succ n ih =>
    intro hn
    rcases ih (by omega) with h | h
    · by_cases hx : x ≤ sh o d n
      · exact .inr ⟨n, ⟨by omega, by omega, h, fun t t0 _ => Int.le_trans hx (sh_mono hd t0)⟩⟩
      · refine .inl fun t t0 t1 => ?_
        by_cases ht : t = n
        · subst ht; omega
        · exact h t t0 (by omega)
    · exact .inr h
theorem rc_ex (o d x : Int) (hd : -100000 ≤ d) : ∃ r, Rc o d x r := by
  rcases rc_ex_n o d x hd 1099511627777 (Nat.le_refl _) with h | h
  · exact ⟨1099511627777, ⟨by omega, by omega, h, fun t t0 t1 => by omega⟩⟩
  · exact h
theorem rch_rc (o d x : Int) (hd : -100000 ≤ d) : Rc o d x (rch o d x) := by
  obtain ⟨r, h⟩ := rc_ex o d x hd
  rw [h.eq]
  exact h
theorem rcV_bd {o d x : Int} (hk : OkC o d) : 0 ≤ rcV o d x ∧ rcV o d x ≤ 1099511627777 := by
  have h := rch_rc o d x hk.d1
  unfold rcV
  have := h.lo
  have := h.hi
  split <;> omega

theorem inV_bd (o d s x : Int) : 0 ≤ inV o d s x ∧ inV o d s x ≤ 1099511627777 := by
  unfold inV
  split
  · rename_i h
    exact rcV_bd (OkC.of (csE_0' h).1)
  · omega
end Go.Proofs.Ytmkmefcafpgphaa
