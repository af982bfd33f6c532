/- Flags as values. -/
import Derived.Test.YtpaoacdgmfaolaaChk
import Derived.Deep.MidRow
import Derived.Deep.WholeRow
namespace Go.Proofs.Ytpaoacdgmfaolaa
set_option linter.unusedVariables false
open Go.RowKit

theorem second_new (w : World) (A B : Obj) : ((w.alloc A).alloc B).heap[w.heap.size + 1]? = some B := by
  have := heap_alloc_new (w.alloc A) B
  simpa using this
theorem Fr.setCells {S : Nat → Prop} {a w : World} (h : Fr S a w) {b : Nat} (hp : S b ∨ a.heap.size ≤ b) (o : Nat) (l : List Value) : Fr S a (w.setCells b o l) := by
  induction l generalizing o w with
  | nil => exact h
  | cons v r ih => exact ih (h.setCell (p := ⟨b, o, none⟩) hp v) (o + 1)
theorem wpList_store_new {P : Program} {ops : Array Oper} {rest : List Oper} {op : Oper} {a : Act} {w : World} {Q : Exit → Act → World → Prop} (hgd : op.guard = none) (ty : TypeId) (x y : Operand) (ho : op.op = .store ty x y)
    (c cells : Array Value) (hx : a.eval x = .pointer (some ⟨w.heap.size, 0, none⟩)) (hy : a.eval y = .agg cells)
    (hi : (P.info? ty).map (·.size) = some cells.size) (hs : c.size = cells.size) (h1 : cells.all (·.oneCell') = true)
    (h : wpList P ops Q rest (a.put op.dst undef) (w.alloc (.cells cells ty (0, 0)))) : wpList P ops Q (op :: rest) a (w.alloc (.cells c ty (0, 0))) :=
  wpList_plain hgd fun K hK => by
    unfold Oper.wp execOp
    simp only [ho, hx, hy, run_storeAt_new w ty c cells hi hs h1, Result.andThen_ok, Sem.run_bind, Sem.run_pure]
    exact hK _ _ h

def flV (f : Nat → Bool) : List Value := (List.range 16).map fun c => Value.bool (f c)
theorem flA_V (f : Nat → Bool) : flA f = (flV f).toArray := rfl
theorem flV_len (f : Nat → Bool) : (flV f).length = 16 := by simp [flV]
theorem flV_one (f : Nat → Bool) : ∀ v ∈ flV f, v.oneCell' = true := by
  intro v hv
  simp only [flV, List.mem_map] at hv
  obtain ⟨x, _, rfl⟩ := hv
  rfl
theorem fl_cellT {w : World} {R T : Nat} {f : Nat → Bool} (h : w.heap[R]? = some (.cells (flA f) T (0, 0))) (c : Nat) (hc : c < 16) : w.cell? ⟨R, c, none⟩ = some (.bool (f c)) ∧ w.frozen? ⟨R, c, none⟩ = false := by
  have := flA_get f c hc
  simp [World.cell?, World.frozen?, h, this]
theorem fl_range {w : World} {R T : Nat} {f : Nat → Bool} (h : w.heap[R]? = some (.cells (flA f) T (0, 0))) : w.rangeAt R 0 (flV f) := by
  intro j v hv
  have hj : j < 16 := by
    have := (List.getElem?_eq_some_iff.1 hv).1
    rwa [flV_len] at this
  rw [Nat.zero_add, (fl_cellT h j hj).1]
  have : (flA f)[j]? = some v := by rw [flA_V]; simpa using hv
  rw [flA_get f j hj] at this
  exact this
theorem fl_there {w : World} {R T : Nat} {f : Nat → Bool} (h : w.heap[R]? = some (.cells (flA f) T (0, 0))) (n : Nat) (hn : n ≤ 16) : w.there R 0 n := by
  intro j hj
  obtain ⟨a, b⟩ := fl_cellT h j (by omega)
  rw [Nat.zero_add]
  exact ⟨by rw [a]; rfl, b⟩
theorem fl_congr {f g : Nat → Bool} (h : ∀ d, d < 16 → f d = g d) : flA f = flA g := by
  rw [flA_V, flA_V]
  congr 1
  unfold flV
  refine List.map_congr_left fun c hc => ?_
  rw [h c (by simpa using hc)]
theorem heap66 : Try.prog.underlying 66 = some (.array 16 4) := by kernel_rfl
theorem info66 : (Try.prog.info? 66).map (·.size) = some 16 := by kernel_rfl
def InC (zs : List Int) : Prop := ∀ k, k < zs.length → 0 ≤ zs.getD k 0 ∧ zs.getD k 0 ≤ 15

end Go.Proofs.Ytpaoacdgmfaolaa
