/- Arguments that came in: states with parents, corrections. -/
import Derived.Test.YtmkmefcafpgphaaOpl
import Derived.Test.YtmkmefcafpgphaaLsn
namespace Go.Proofs.Ytmkmefcafpgphaa
set_option linter.unusedVariables false
set_option maxRecDepth 20000
open Go.ChangeShapes Go.WideShapes Go.ChangeAt Go.RowKit Go.Joins

section
variable {H : Type} {enc : TypeId × Value → H} {W : World} {base : Nat} {spare : Nat → Bool} {held : Bool}
def boolAt : Option Value → Bool
  | some (.bool b) => b
  | _ => false
theorem cells49 : Try.prog.cellsOf 49 = 3 := by kernel_rfl
theorem cells4 : Try.prog.cellsOf 4 = 1 := by kernel_rfl
theorem some_at {α : Type} {l : List α} {i : Nat} (hi : i < l.length) : ∃ x, l[i]? = some x := ⟨_, List.getElem?_eq_getElem hi⟩
theorem sn_trod {fuel : Nat} {cs : List Value} {x : DataW H × List MemPlace} (h : DataW.trod enc Try.prog W base spare held fuel 49 cs = some x) : ∃ (a b : Int) (c : Bool), cs = [.int .i64 a, .int .i64 b, .bool c] := by
  obtain ⟨xs, n, _, _, hl, hlen, hf⟩ := DataW.trod_struct Try.underlying49 h
  rw [cells49] at hl
  match cs, hl with
  | [c0, c1, c2], _ =>
    have h0 := hf 0 _ rfl
    have h1 := hf 1 _ rfl
    have h2 := hf 2 _ rfl
    simp [cells3, cells4] at h0 h1 h2
    have hlen' : xs.length = 3 := hlen
    obtain ⟨a, rfl, -⟩ := int_of (by omega) h0
    obtain ⟨b, rfl, -⟩ := int_of (by omega) h1
    obtain ⟨x2, e2⟩ := some_at (show 2 < xs.length by omega)
    rw [e2] at h2
    obtain ⟨c, q2, -⟩ := DataW.trod_bool Try.underlying4 h2
    simp at q2
    subst q2
    exact ⟨a, b, c, rfl⟩
theorem sys_trod {fuel : Nat} {cs : List Value} {x : DataW H × List MemPlace} (h : DataW.trod enc Try.prog W base spare held fuel 36 cs = some x) : ∃ ao len cap l, cs = [.slice ao len cap] ∧ SysIn W ao len l ∧ len ≤ cap ∧ cap ≤ maxLen ∧ (ao = none → cap = 0) := by
  rcases Go.Deep.open_slice Try.underlying36 h with ⟨rfl, _⟩ | ⟨a, len, cap, m, n, D, Pl, rfl, _, hl, hcm, hm, _, hi⟩
  · exact ⟨none, 0, 0, [], rfl, ⟨rfl, fun i hi => by omega⟩, by omega, by unfold maxLen; omega, fun _ => rfl⟩
  · by_cases h0 : len = 0
    · subst h0
      exact ⟨some a, 0, cap, [], rfl, ⟨rfl, fun i hi => by omega⟩, hl, hcm, fun h => by cases h⟩
    · have hle : len ≤ m := by rw [hm]; split <;> omega
      have hcell : ∀ i, i < len → ∃ (z0 : Int) (z1 : Int) (z2 : Int) (z3 : Int), W.cell? ((a.add (i * 4)).add 0) = some (.int .i64 z0) ∧ W.cell? ((a.add (i * 4)).add 1) = some (.int .i64 z1) ∧ W.cell? ((a.add (i * 4)).add 2) = some (.int .i64 z2) ∧ W.cell? ((a.add (i * 4)).add 3) = some (.int .i64 z3) := fun i hi' => by
        obtain ⟨cs', hc, ht⟩ := hi i (by omega)
        rw [cells25] at hc
        obtain ⟨_, hcl, hat⟩ := World.cells?_some hc
        obtain ⟨z0, z1, z2, z3, rfl, -, -⟩ := sy_trod ht
        have e0 := hat 0 (by omega)
        have e1 := hat 1 (by omega)
        have e2 := hat 2 (by omega)
        have e3 := hat 3 (by omega)
        exact ⟨z0, z1, z2, z3, by simpa using e0, by simpa using e1, by simpa using e2, by simpa using e3⟩
      obtain ⟨y0, _, _, _, hz0, _⟩ := hcell 0 (by omega)
      rw [show (a.add (0 * 4)).add 0 = a by simp [Addr.add]] at hz0
      obtain ⟨b, off, rfl, hadd⟩ := addr_plain hz0
      refine ⟨_, len, cap, (List.range len).map fun i => ⟨intAt (W.cell? ⟨b, off + i * 4, none⟩), intAt (W.cell? ⟨b, off + i * 4 + 1, none⟩), intAt (W.cell? ⟨b, off + i * 4 + 2, none⟩), intAt (W.cell? ⟨b, off + i * 4 + 3, none⟩)⟩, rfl, ⟨by simp, fun i hi' => ⟨b, off, rfl, ?_⟩⟩, hl, hcm, fun h => by cases h⟩
      obtain ⟨z0, z1, z2, z3, h0, h1, h2, h3⟩ := hcell i hi'
      rw [hadd] at h0 h1 h2 h3
      have g0 : W.cell? ⟨b, off + i * 4, none⟩ = some (.int .i64 z0) := by simpa [Addr.add] using h0
      have g1 : W.cell? ⟨b, off + i * 4 + 1, none⟩ = some (.int .i64 z1) := by simpa [Addr.add] using h1
      have g2 : W.cell? ⟨b, off + i * 4 + 2, none⟩ = some (.int .i64 z2) := by simpa [Addr.add] using h2
      have g3 : W.cell? ⟨b, off + i * 4 + 3, none⟩ = some (.int .i64 z3) := by simpa [Addr.add] using h3
      simp [syCells, syAt, List.getD_eq_getElem?_getD, hi', g0, g1, g2, g3, intAt]
theorem sns_trod {fuel : Nat} {cs : List Value} {x : DataW H × List MemPlace} (h : DataW.trod enc Try.prog W base spare held fuel 40 cs = some x) : ∃ ao len cap l, cs = [.slice ao len cap] ∧ SnsIn W ao len l ∧ len ≤ cap ∧ cap ≤ maxLen ∧ (ao = none → cap = 0) := by
  rcases Go.Deep.open_slice Try.underlying40 h with ⟨rfl, _⟩ | ⟨a, len, cap, m, n, D, Pl, rfl, _, hl, hcm, hm, _, hi⟩
  · exact ⟨none, 0, 0, [], rfl, ⟨rfl, fun i hi => by omega⟩, by omega, by unfold maxLen; omega, fun _ => rfl⟩
  · by_cases h0 : len = 0
    · subst h0
      exact ⟨some a, 0, cap, [], rfl, ⟨rfl, fun i hi => by omega⟩, hl, hcm, fun h => by cases h⟩
    · have hle : len ≤ m := by rw [hm]; split <;> omega
      have hcell : ∀ i, i < len → ∃ (z0 : Int) (z1 : Int) (z2 : Bool), W.cell? ((a.add (i * 3)).add 0) = some (.int .i64 z0) ∧ W.cell? ((a.add (i * 3)).add 1) = some (.int .i64 z1) ∧ W.cell? ((a.add (i * 3)).add 2) = some (.bool z2) := fun i hi' => by
        obtain ⟨cs', hc, ht⟩ := hi i (by omega)
        rw [cells49] at hc
        obtain ⟨_, hcl, hat⟩ := World.cells?_some hc
        obtain ⟨z0, z1, z2, rfl⟩ := sn_trod ht
        have e0 := hat 0 (by omega)
        have e1 := hat 1 (by omega)
        have e2 := hat 2 (by omega)
        exact ⟨z0, z1, z2, by simpa using e0, by simpa using e1, by simpa using e2⟩
      obtain ⟨y0, _, _, hz0, _⟩ := hcell 0 (by omega)
      rw [show (a.add (0 * 3)).add 0 = a by simp [Addr.add]] at hz0
      obtain ⟨b, off, rfl, hadd⟩ := addr_plain hz0
      refine ⟨_, len, cap, (List.range len).map fun i => ⟨intAt (W.cell? ⟨b, off + i * 3, none⟩), intAt (W.cell? ⟨b, off + i * 3 + 1, none⟩), boolAt (W.cell? ⟨b, off + i * 3 + 2, none⟩)⟩, rfl, ⟨by simp, fun i hi' => ⟨b, off, rfl, ?_⟩⟩, hl, hcm, fun h => by cases h⟩
      obtain ⟨z0, z1, z2, h0, h1, h2⟩ := hcell i hi'
      rw [hadd] at h0 h1 h2
      have g0 : W.cell? ⟨b, off + i * 3, none⟩ = some (.int .i64 z0) := by simpa [Addr.add] using h0
      have g1 : W.cell? ⟨b, off + i * 3 + 1, none⟩ = some (.int .i64 z1) := by simpa [Addr.add] using h1
      have g2 : W.cell? ⟨b, off + i * 3 + 2, none⟩ = some (.bool z2) := by simpa [Addr.add] using h2
      simp [snCells, snAt, List.getD_eq_getElem?_getD, hi', g0, g1, g2, intAt, boolAt]
theorem open_sns {r : Reach} {b0 : Nat} {v : Value} {d : DataW H} {p : List MemPlace} (hv : Value.okWide Try.prog W r b0 40 v) (h : DataW.Trod enc Try.prog W base spare held 40 v d p) :
    ∃ ao len cap xs, v = .slice ao len cap ∧ SnsIn W ao len xs ∧ len ≤ cap ∧ (len : Int) ≤ 9223372036854775807 ∧ (ao = none → cap = 0) := by
  obtain ⟨a0, len, cap, rfl⟩ := okWide_slice Try.underlying40 hv
  obtain ⟨fuel, hf⟩ := h
  obtain ⟨ao, l2, c2, xs, he, h1, h2, h3, h4⟩ := sns_trod (cs := [.slice a0 len cap]) (by simpa [Value.cells] using hf)
  cases he
  exact ⟨_, _, _, xs, rfl, h1, h2, by unfold maxLen at h3; omega, h4⟩
theorem cells36 : Try.prog.cellsOf 36 = 1 := by kernel_rfl
theorem cells37 : Try.prog.cellsOf 37 = 1 := by kernel_rfl
theorem cells39 : Try.prog.cellsOf 39 = 2 := by kernel_rfl
theorem open_tree {r : Reach} {b0 : Nat} {v : Value} {d : DataW H} {p : List MemPlace} (hv : Value.okWide Try.prog W r b0 39 v) (h : DataW.Trod enc Try.prog W base spare held 39 v d p) :
    ∃ a0 l0 k0 a1 l1 k1 l zs, v = .agg #[.slice a0 l0 k0, .slice a1 l1 k1] ∧ SysIn W a0 l0 l ∧ IntsIn W a1 l1 zs ∧ l1 ≤ k1 ∧ (l0 : Int) ≤ 9223372036854775807 ∧ (l1 : Int) ≤ 9223372036854775807 := by
  obtain ⟨cs, rfl, hsz⟩ := okWide_struct Try.underlying39 hv
  rw [cells39] at hsz
  obtain ⟨fuel, hf⟩ := h
  obtain ⟨xs, n, _, _, hl, hlen, hg⟩ := DataW.trod_struct Try.underlying39 hf
  have hlen' : xs.length = 2 := hlen
  obtain ⟨l⟩ := cs
  match l, hsz with
  | [c0, c1], _ =>
    have h0 := hg 0 _ rfl
    have h1 := hg 1 _ rfl
    simp [Value.cells, cells36, cells37] at h0 h1
    obtain ⟨x0, e0⟩ := some_at (show 0 < xs.length by omega)
    obtain ⟨x1, e1⟩ := some_at (show 1 < xs.length by omega)
    rw [e0] at h0
    rw [e1] at h1
    obtain ⟨a0, l0, k0, ss, q0, hs, g1, g2, -⟩ := sys_trod h0
    obtain ⟨a1, l1, k1, fs, q1, hfd, g3, g4⟩ := ints_trod h1
    simp at q0 q1
    subst q0 q1
    exact ⟨a0, l0, k0, a1, l1, k1, ss, fs, rfl, hs, hfd, g3, by unfold maxLen at g2; omega, by unfold maxLen at g4; omega⟩
end
theorem u8_bd {n : Int} (h : (Lit.int .u8 n).wf = true) : 0 ≤ n ∧ n ≤ 255 := by
  simp [Lit.wf, IntKind.min, IntKind.max, IntKind.signed, IntKind.bits] at h
  omega
end Go.Proofs.Ytmkmefcafpgphaa
