/- A Case that came in: its numbers, and its slice. -/
import Derived.Test.YtkbdjpdpcbeciaaDoorLawC
import Derived.ProofKit
import Derived.OpenShut
import Derived.Lib.SmallJoins
namespace Go.Proofs.YtkbdjpdpcbeciaaDoor
open Go.ChangeShapes Go.WideShapes Go.ChangeAt Go.RowKit Go.Joins

theorem laid_out : laidOutB Tryd.prog = true := by kernel_rfl
theorem addr_plain {w : World} {a : Addr} {v : Value} (h : w.cell? a = some v) : ∃ b off, a = ⟨b, off, none⟩ ∧ (∀ j, a.add j = ⟨b, off + j, none⟩) := by
  obtain ⟨b, off, spot⟩ := a
  cases spot with
  | none => exact ⟨b, off, rfl, fun j => by unfold Addr.add; split <;> simp_all⟩
  | some s =>
    exfalso
    unfold World.cell? at h
    split at h <;> simp at h
theorem open_case {H : Type} {enc : TypeId × Value → H} {W : World} {v : Value} {d : DataW H} {p : List MemPlace} (hv : Value.okWide Tryd.prog W .any W.heap.size 30 v) (h : DataW.Trod enc Tryd.prog W 0 (fun _ => true) true 30 v d p) :
    ∃ s t o ao len cap zs, v = .agg #[.int .i64 s, .int .i64 t, .int .i64 o, .slice ao len cap] ∧ IntsIn W ao len zs := by
  obtain ⟨c0, c1, c2, c3, y0, y1, y2, y3, m, rfl, rfl, rfl, hy0, hy1, hy2, hy3⟩ := open_agg4 Tryd.underlying30 (by kernel_rfl) (show Tryd.prog.cellsOf 30 = 4 by kernel_rfl) hv h
  obtain ⟨s, e0, rfl, _⟩ := DataW.trod_int Tryd.underlying3 hy0
  obtain ⟨t, e1, rfl, _⟩ := DataW.trod_int Tryd.underlying3 hy1
  obtain ⟨o, e2, rfl, _⟩ := DataW.trod_int Tryd.underlying3 hy2
  simp at e0 e1 e2
  subst e0 e1 e2
  rcases open_ints Tryd.underlying28 Tryd.underlying3 (show Tryd.prog.cellsOf 3 = 1 by kernel_rfl) hy3 with ⟨hcs, _⟩ | ⟨a, len, cap, zs, hcs, _, hl, _, hz, _, hcell, _⟩
  · simp at hcs
    subst hcs
    exact ⟨s, t, o, none, 0, 0, [], rfl, rfl, fun i hi => by omega⟩
  · simp at hcs
    subst hcs
    simp only [if_true] at hz
    refine ⟨s, t, o, some a, len, cap, zs.take len, rfl, by simp; omega, fun i hi => ?_⟩
    have hc0 := hcell 0 (by omega)
    rw [show a.add 0 = a by simp [Addr.add]] at hc0
    obtain ⟨b, off, rfl, hadd⟩ := addr_plain hc0
    refine ⟨b, off, rfl, ?_⟩
    rw [← hadd, hcell i (by omega)]
    simp [List.getD_eq_getElem?_getD, List.getElem?_take, hi]
end Go.Proofs.YtkbdjpdpcbeciaaDoor
