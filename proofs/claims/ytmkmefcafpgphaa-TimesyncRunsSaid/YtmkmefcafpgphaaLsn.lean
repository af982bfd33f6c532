/- Lists of corrections; runs. -/
import Derived.Test.YtmkmefcafpgphaaPai
namespace Go.Proofs.Ytmkmefcafpgphaa
set_option linter.unusedVariables false
open Go.RowKit


structure Sn where
  n : Int
  s : Int
  a : Bool
def snAt (l : List Sn) (i : Nat) : Sn := l.getD i ⟨0, 0, false⟩
def snCells (w : World) (b off : Nat) (v : Sn) : Prop :=
  w.cell? ⟨b, off, none⟩ = some (.int .i64 v.n) ∧ w.cell? ⟨b, off + 1, none⟩ = some (.int .i64 v.s) ∧ w.cell? ⟨b, off + 2, none⟩ = some (.bool v.a)
/-- A slice of corrections in memory. -/
def SnsIn (w : World) (ao : Option Addr) (len : Nat) (l : List Sn) : Prop :=
  l.length = len ∧ ∀ i, i < len → ∃ b off, ao = some ⟨b, off, none⟩ ∧ snCells w b (off + i * 3) (snAt l i)
theorem SnsIn.kept {w w' : World} {ao : Option Addr} {len : Nat} {l : List Sn} (h : SnsIn w ao len l) (hf : Fr no w w') : SnsIn w' ao len l := ⟨h.1, fun i hi => by
  obtain ⟨b, off, ha, h0, h1, h2⟩ := h.2 i hi
  exact ⟨b, off, ha, hf.keepc h0, hf.keepc h1, hf.keepc h2⟩⟩
theorem sns_at {w : World} {ao : Option Addr} {len : Nat} {l : List Sn} (h : SnsIn w ao len l) (h0 : 0 < len) : ∃ b off, ao = some ⟨b, off, none⟩ ∧ l.length = len ∧ ∀ i, i < len → snCells w b (off + i * 3) (snAt l i) := by
  obtain ⟨b, off, ha, _⟩ := h.2 0 h0
  refine ⟨b, off, ha, h.1, fun i hi => ?_⟩
  obtain ⟨b', off', ha', hc⟩ := h.2 i hi
  rw [ha] at ha'
  cases ha'
  exact hc
/-- One correction: its error, the corrected state. -/
noncomputable def coxE (v p : Sy) (x : Sn) : Int := if x.a then akE v.o v.d v.s v.c p.o p.d x.s else hrE v.o v.d v.s v.c p.o p.d x.s
noncomputable def coxV (v p : Sy) (x : Sn) : Sy := if x.a then ⟨akO v.o v.d v.s v.c p.o p.d x.s, akD v.o v.d v.s v.c p.o p.d x.s, akS v.o v.d v.s v.c p.o p.d x.s, akC v.o v.d v.s v.c p.o p.d x.s⟩ else ⟨hrO v.o v.d v.s v.c p.o p.d x.s, hrD v.o v.d v.s v.c p.o p.d x.s, hrS v.o v.d v.s v.c p.o p.d x.s, hrC v.o v.d v.s v.c p.o p.d x.s⟩
noncomputable def stE (zs : List Int) (l : List Sy) (x : Sn) : Int := if inR x.n 1 ((l.length : Int) - 1) then coxE (syAt l x.n.toNat) (syAt l (zs.getD x.n.toNat 0).toNat) x else 7
noncomputable def stL (zs : List Int) (l : List Sy) (x : Sn) : List Sy := l.set x.n.toNat (coxV (syAt l x.n.toNat) (syAt l (zs.getD x.n.toNat 0).toNat) x)
theorem stL_len (zs : List Int) (l : List Sy) (x : Sn) : (stL zs l x).length = l.length := by simp [stL]
/-- The states behind the first k corrections, while there is no error. -/
noncomputable def runL (zs : List Int) (l : List Sy) (xs : List Sn) : Nat → List Sy
  | 0 => l
  | k + 1 => stL zs (runL zs l xs k) (snAt xs k)
theorem runL_len (zs : List Int) (l : List Sy) (xs : List Sn) (k : Nat) : (runL zs l xs k).length = l.length := by
  induction k with
  | zero => rfl
  | succ k ih => rw [runL, stL_len, ih]
/-- The k-th correction's error. -/
noncomputable def runE (zs : List Int) (l : List Sy) (xs : List Sn) (k : Nat) : Int := stE zs (runL zs l xs k) (snAt xs k)
/-- What a run answers: the arguments are wrong; all goes; or the k-th correction is the first one with an error. -/
def RunOk (zs : List Int) (l : List Sy) (n : Nat) : Prop := Tree zs ∧ l.length = zs.length ∧ l.all syOk = true ∧ n ≤ 1024
def RunR (w w' : World) (zs : List Int) (l : List Sy) (xs : List Sn) (e : Ending) : Prop :=
  Fr no w w' ∧ ((¬ RunOk zs l xs.length ∧ e = .returned (.tuple #[.slice none 0 0, .int .i64 (-1), .int .i64 1])) ∨
    (RunOk zs l xs.length ∧ (∀ k, k < xs.length → runE zs l xs k = 0) ∧ ∃ v, e = .returned (.tuple #[v, .int .i64 (-1), .int .i64 0]) ∧ RowS w.heap.size w' v (runL zs l xs xs.length)) ∨
    (RunOk zs l xs.length ∧ ∃ k, k < xs.length ∧ (∀ j, j < k → runE zs l xs j = 0) ∧ runE zs l xs k ≠ 0 ∧ e = .returned (.tuple #[.slice none 0 0, .int .i64 (k : Int), .int .i64 (runE zs l xs k)])))

end Go.Proofs.Ytmkmefcafpgphaa
