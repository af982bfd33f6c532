/- An argument that is a list of fields, read as data. -/
import Derived.Test.YtgbhmcepokpcaaaFields
import Derived.ProofKit
import Derived.OpenShut
import Derived.Deep.Slices
import Derived.Deep.Fields
namespace Go.Proofs.Ytgbhmcepokpcaaa
open Go.ChangeShapes Go.WideShapes Go.ChangeAt Go.RowKit Go.Deep

theorem Try.laidOut : laidOutB Try.prog = true := by kernel_rfl
theorem Try.cells30 : Try.prog.cellsOf 30 = 4 := by kernel_rfl
theorem Try.one3 : Try.prog.cellsOf 3 = 1 := by kernel_rfl
theorem Try.one9 : Try.prog.cellsOf 9 = 1 := by kernel_rfl

theorem wf_i64 {n : Int} (h : (Lit.int .i64 n).wf = true) : -9223372036854775808 ≤ n ∧ n ≤ 9223372036854775807 := by
  simp [Lit.wf, IntKind.min, IntKind.max, IntKind.signed, IntKind.bits] at h
  omega

theorem addr_plain {w : World} {a : Addr} {v : Value} (h : w.cell? a = some v) : ∃ b off, a = ⟨b, off, none⟩ ∧ b < w.heap.size ∧ (∀ j, a.add j = ⟨b, off + j, none⟩) := by
  obtain ⟨b, off, spot⟩ := a
  cases spot with
  | none => exact ⟨b, off, rfl, World.block_lt_of_cell? w _ h, fun j => by unfold Addr.add; split <;> simp_all⟩
  | some sp =>
    exfalso
    unfold World.cell? at h
    split at h <;> simp at h

theorem open_fieldlist {H : Type} {enc : TypeId × Value → H} {w : World} {spare : Nat → Bool} {held : Bool} {fuel : Nat} {v : Value} {a0 : Option Addr} {len cap : Nat} {x : DataW H × List MemPlace}
    (hv : v = .slice a0 len cap) (h : DataW.trod enc Try.prog w 0 spare held fuel 22 [v] = some x) :
    len ≤ 9223372036854775807 ∧ ∃ fs : Nat → Fld, FieldsIn w.heap.size w a0 len fs := by
  subst hv
  rcases open_slice Try.underlying22 h with ⟨hcs, _⟩ | ⟨a, len', cap', m, n, D, Pl, hcs, _, hl, hm, hmm, _, hi⟩
  · simp only [List.cons.injEq, Value.slice.injEq, and_true] at hcs
    obtain ⟨rfl, rfl, rfl⟩ := hcs
    exact ⟨by omega, fun _ => ⟨0, 0, 0, ByteArray.empty⟩, fun i hi => by omega⟩
  · simp only [List.cons.injEq, Value.slice.injEq, and_true] at hcs
    obtain ⟨rfl, rfl, rfl⟩ := hcs
    have hlm : len ≤ m := by rw [hmm]; split <;> omega
    refine ⟨by unfold maxLen at hm; omega, ?_⟩
    have hat0 : ∀ i, i < len → ∃ cs : List Value, cs.length = 4 ∧ (∀ j, j < 4 → w.cell? ((a.add (i * 4)).add j) = cs[j]?) ∧ ∃ x, DataW.trod enc Try.prog w 0 spare held n 30 cs = some x := by
      intro i hil
      obtain ⟨cs, hc, ht⟩ := hi i (by omega)
      rw [Try.cells30] at hc
      obtain ⟨_, hcl, hat⟩ := World.cells?_some hc
      exact ⟨cs, hcl, hat, _, ht⟩
    have hx : ∀ i, i < len → ∃ f : Fld, f.Ok ∧ ∃ b off, some a = some ⟨b, off, none⟩ ∧ b < w.heap.size ∧ w.cell? ⟨b, off + i * 4, none⟩ = some (.int .i64 f.kind) ∧ w.cell? ⟨b, off + i * 4 + 1, none⟩ = some (.int .i64 f.width) ∧
        w.cell? ⟨b, off + i * 4 + 2, none⟩ = some (.int .i64 f.n) ∧ w.cell? ⟨b, off + i * 4 + 3, none⟩ = some (.string f.s) := by
      intro i hil
      obtain ⟨cs0, hl0, hat0', _⟩ := hat0 0 (by omega)
      have h00 := hat0' 0 (by omega)
      have e0 : (a.add (0 * 4)).add 0 = a := by simp [Addr.add]
      rw [e0, List.getElem?_eq_getElem (by omega)] at h00
      obtain ⟨b, off, rfl, hblt, hadd⟩ := addr_plain h00
      obtain ⟨cs, hcl, hat, x, ht⟩ := hat0 i hil
      obtain ⟨ys, n', _, _, _, hyl, hf⟩ := DataW.trod_struct Try.underlying30 ht
      have hpl : ∀ j, ((⟨b, off, none⟩ : Addr).add (i * 4)).add j = ⟨b, off + i * 4 + j, none⟩ := by
        intro j; rw [hadd]; unfold Addr.add; split <;> simp_all
      match cs, hcl with
      | [x0, x1, x2, x3], _ =>
        match ys, hyl with
        | [y0, y1, y2, y3], _ =>
          have t0 := hf 0 _ rfl
          have t1 := hf 1 _ rfl
          have t2 := hf 2 _ rfl
          have t3 := hf 3 _ rfl
          have c0 := hat 0 (by omega)
          have c1 := hat 1 (by omega)
          have c2 := hat 2 (by omega)
          have c3 := hat 3 (by omega)
          rw [hpl] at c0 c1 c2 c3
          obtain ⟨z0, e0, _, wf0⟩ := DataW.trod_int Try.underlying3 t0
          obtain ⟨z1, e1, _, wf1⟩ := DataW.trod_int Try.underlying3 t1
          obtain ⟨z2, e2, _, wf2⟩ := DataW.trod_int Try.underlying3 t2
          obtain ⟨z3, e3, _, sz⟩ := DataW.trod_string Try.underlying9 t3
          have g0 : List.take (Try.prog.cellsOf 3) (List.drop 0 [x0, x1, x2, x3]) = [.int .i64 z0] := e0
          have g1 : List.take (Try.prog.cellsOf 3) (List.drop 1 [x0, x1, x2, x3]) = [.int .i64 z1] := e1
          have g2 : List.take (Try.prog.cellsOf 3) (List.drop 2 [x0, x1, x2, x3]) = [.int .i64 z2] := e2
          have g3 : List.take (Try.prog.cellsOf 9) (List.drop 3 [x0, x1, x2, x3]) = [.string z3] := e3
          rw [Try.one3] at g0 g1 g2
          rw [Try.one9] at g3
          obtain rfl : x0 = .int .i64 z0 := by simpa using g0
          obtain rfl : x1 = .int .i64 z1 := by simpa using g1
          obtain rfl : x2 = .int .i64 z2 := by simpa using g2
          obtain rfl : x3 = .string z3 := by simpa using g3
          obtain ⟨a1, a2⟩ := wf_i64 wf0
          obtain ⟨b1, b2⟩ := wf_i64 wf1
          obtain ⟨d1, d2⟩ := wf_i64 wf2
          exact ⟨⟨z0, z1, z2, z3⟩, ⟨a1, a2, b1, b2, d1, d2, by unfold maxLen at sz; simp only; omega⟩, b, off, rfl, hblt, c0, c1, c2, c3⟩
    have hch := fun i => Classical.choice (show Nonempty { f : Fld // i < len → f.Ok ∧ ∃ b off, some a = some ⟨b, off, none⟩ ∧ b < w.heap.size ∧ w.cell? ⟨b, off + i * 4, none⟩ = some (.int .i64 f.kind) ∧ w.cell? ⟨b, off + i * 4 + 1, none⟩ = some (.int .i64 f.width) ∧
        w.cell? ⟨b, off + i * 4 + 2, none⟩ = some (.int .i64 f.n) ∧ w.cell? ⟨b, off + i * 4 + 3, none⟩ = some (.string f.s) } by
      by_cases hil : i < len
      · obtain ⟨f, hf⟩ := hx i hil
        exact ⟨f, fun _ => hf⟩
      · exact ⟨⟨0, 0, 0, ByteArray.empty⟩, fun h => absurd h hil⟩)
    exact ⟨fun i => (hch i).1, fun i hil => (hch i).2 hil⟩
end Go.Proofs.Ytgbhmcepokpcaaa
