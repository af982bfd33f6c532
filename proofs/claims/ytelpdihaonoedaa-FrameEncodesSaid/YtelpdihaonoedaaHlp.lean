/- Worlds behind calls that only made blocks. -/
import Derived.Test.YtelpdihaonoedaaUpd
import Derived.BigGuardPart
import Derived.BigQuiet
namespace Go.Proofs.Ytelpdihaonoedaa
open Go.RowKit
set_option linter.unusedVariables false

theorem Fr.keepc0 {S : Nat → Prop} {w w' : World} (h : Fr S w w') {p : Addr} {v : Value} (hc : w.cell? p = some v) (hn : ¬ S p.block) : w'.cell? p = some v := (h.cell (World.block_lt_of_cell? w _ hc) hn).trans hc
theorem Fr.noTrans {a b c : World} (h : Fr no a b) (k : Fr no b c) : Fr no a c := h.trans k (fun _ _ h => h)
theorem Fr.belowNone {B : Nat} {w w' : World} (h : Fr no w w') (hB : B ≤ w.heap.size) : Below B w w' := h.below (fun _ h => h.elim) hB
theorem Fr.keepc {w w' : World} (h : Fr no w w') {p : Addr} {v : Value} (hc : w.cell? p = some v) : w'.cell? p = some v := h.keepc0 hc (fun h => h)
theorem Fr.keepf {w w' : World} (h : Fr no w w') {p : Addr} {v : Value} {b : Bool} (hc : w.cell? p = some v) (hf : w.frozen? p = b) : w'.frozen? p = b := (h.frozen (World.block_lt_of_cell? w _ hc) (fun h => h)).trans hf
/-- A world behind calls that only made blocks. -/
structure Past (w : World) where
  u : World
  h : Fr no w u
theorem wp_region_past {P : Program} {id : Nat} {Q : Exit → Act → World → Prop} {a : Act} {w : World} {l : List Oper} (hm : P.follows .mixedOrders = true) (hB : Region.lexB .any l.toArray = true)
    (h : wpQuiet P l.toArray (fun w' => ∃ p : Past w, w' = p.u) (fun a' => ∀ w', (∃ p : Past w, w' = p.u) → Q .normal a' w') l a) : (Code.region id l.toArray true).wp P Q a w :=
  wp_region_quiet (C := fun w' => ∃ p : Past w, w' = p.u) hm hB ⟨⟨_, (Fr.refl no w).drew⟩, rfl⟩ (by simpa using h)
theorem past_out {w u : World} (h : ∃ p : Past w, u = p.u) : Fr no w u := by obtain ⟨p, rfl⟩ := h; exact p.h
theorem past_of {P : Program} {f : FuncId} {args : Array Value} {w : World} {p : Past w} {v : Value} (h : Calls P f args p.u fun e w' => e = .returned v ∧ Fr no p.u w') :
    Calls P f args p.u fun e w'' => e = .returned v ∧ ∃ p' : Past w, w'' = p'.u :=
  h.mono fun _ _ ⟨he, hf⟩ => ⟨he, ⟨_, p.h.noTrans hf⟩, rfl⟩
theorem past_same {P : Program} {f : FuncId} {args : Array Value} {w : World} {p : Past w} {v : Value} (h : Calls P f args p.u fun e w' => e = .returned v ∧ w' = p.u) :
    Calls P f args p.u fun e w'' => e = .returned v ∧ ∃ p' : Past w, w'' = p'.u :=
  h.mono fun _ _ ⟨he, hf⟩ => ⟨he, p, hf⟩
end Go.Proofs.Ytelpdihaonoedaa
