/- Arguments that came in. -/
import Derived.Test.YtpaoacdgmfaolaaLis
import Derived.Test.YtpaoacdgmfaolaaRows
import Derived.ProofKit
import Derived.OpenShut
import Derived.Deep.Slices
import Derived.Lib.SmallJoins
namespace Go.Proofs.Ytpaoacdgmfaolaa
set_option linter.unusedVariables false
open Go.RowKit
open Go.ChangeShapes Go.WideShapes Go.ChangeAt Go.Joins

theorem addr_plain {w : World} {a : Addr} {v : Value} (h : w.cell? a = some v) : ∃ b off, a = ⟨b, off, none⟩ ∧ (∀ j, a.add j = ⟨b, off + j, none⟩) := by
  obtain ⟨b, off, spot⟩ := a
  cases spot with
  | none => exact ⟨b, off, rfl, fun j => by unfold Addr.add; split <;> simp_all⟩
  | some s =>
    exfalso
    unfold World.cell? at h
    split at h <;> simp at h

theorem laid_out : laidOutB Try.prog = true := by kernel_rfl
theorem wf_bd {n : Int} (h : (Lit.int .i64 n).wf = true) : -9223372036854775808 ≤ n ∧ n ≤ 9223372036854775807 := by
  simp [Lit.wf, IntKind.min, IntKind.max, IntKind.signed, IntKind.bits] at h
  omega
structure Hl where
  v : Int
  f : Int
  u : Int
  chs : List Int
  ca : Option Addr
  ck : Nat
def hlAt (ls : List Hl) (i : Nat) : Hl := ls.getD i ⟨0, 0, 0, [], none, 0⟩
/-- A list of hopping lists in memory. -/
def HlsIn (w : World) (ao : Option Addr) (len : Nat) (ls : List Hl) : Prop :=
  ls.length = len ∧ ∀ i, i < len → ∃ b off, ao = some ⟨b, off, none⟩ ∧ IntsIn w (hlAt ls i).ca (hlAt ls i).chs.length (hlAt ls i).chs ∧ (hlAt ls i).chs.length ≤ (hlAt ls i).ck ∧ w.cell? ⟨b, off + i * 4, none⟩ = some (.int .i64 (hlAt ls i).v) ∧ w.cell? ⟨b, off + i * 4 + 1, none⟩ = some (.int .i64 (hlAt ls i).f) ∧
    w.cell? ⟨b, off + i * 4 + 2, none⟩ = some (.int .i64 (hlAt ls i).u) ∧ w.cell? ⟨b, off + i * 4 + 3, none⟩ = some (.slice (hlAt ls i).ca (hlAt ls i).chs.length (hlAt ls i).ck)
theorem HlsIn.kept {w w' : World} {ao : Option Addr} {len : Nat} {ls : List Hl} (h : HlsIn w ao len ls) (hf : Fr no w w') : HlsIn w' ao len ls := ⟨h.1, fun i hi => by
  obtain ⟨b, off, ha, hI, hk, h0, h1, h2, h3⟩ := h.2 i hi
  exact ⟨b, off, ha, hI.kept hf, hk, hf.keepc h0, hf.keepc h1, hf.keepc h2, hf.keepc h3⟩⟩
section
variable {H : Type} {enc : TypeId × Value → H} {W : World} {base : Nat} {spare : Nat → Bool} {held : Bool}
theorem cells3 : Try.prog.cellsOf 3 = 1 := by kernel_rfl
theorem cells22 : Try.prog.cellsOf 22 = 1 := by kernel_rfl
theorem cells24 : Try.prog.cellsOf 24 = 4 := by kernel_rfl
theorem cells43 : Try.prog.cellsOf 43 = 3 := by kernel_rfl
theorem some_at {α : Type} {l : List α} {i : Nat} (hi : i < l.length) : ∃ x, l[i]? = some x := ⟨_, List.getElem?_eq_getElem hi⟩
theorem int_of {fuel : Nat} {c : Value} {l : List (DataW H × List MemPlace)} {i : Nat} (hi : i < l.length) (h : DataW.trod enc Try.prog W base spare held fuel 3 [c] = l[i]?) : ∃ n, c = .int .i64 n ∧ (Lit.int .i64 n).wf = true := by
  rw [List.getElem?_eq_getElem hi] at h
  obtain ⟨n, hn, _, hw⟩ := DataW.trod_int Try.underlying3 h
  exact ⟨n, by simpa using hn, hw⟩
def intAt : Option Value → Int
  | some (.int _ n) => n
  | _ => 0
theorem ints_trod {fuel : Nat} {cs : List Value} {x : DataW H × List MemPlace} (h : DataW.trod enc Try.prog W base spare held fuel 22 cs = some x) : ∃ ao len cap zs, cs = [.slice ao len cap] ∧ IntsIn W ao len zs ∧ len ≤ cap ∧ cap ≤ maxLen := by
  rcases Go.Deep.open_slice Try.underlying22 h with ⟨rfl, _⟩ | ⟨a, len, cap, m, n, D, Pl, rfl, _, hl, hcm, hm, _, hi⟩
  · exact ⟨none, 0, 0, [], rfl, ⟨rfl, fun i hi => by omega⟩, by omega, by unfold maxLen; omega⟩
  · by_cases h0 : len = 0
    · subst h0
      exact ⟨some a, 0, cap, [], rfl, ⟨rfl, fun i hi => by omega⟩, hl, hcm⟩
    · have hle : len ≤ m := by rw [hm]; split <;> omega
      have hcell : ∀ i, i < len → ∃ z, W.cell? (a.add i) = some (.int .i64 z) := fun i hi' => by
        obtain ⟨cs', hc, ht⟩ := hi i (by omega)
        rw [cells3] at hc
        obtain ⟨_, hcl, hat⟩ := World.cells?_some hc
        obtain ⟨z, rfl, _⟩ := DataW.trod_int Try.underlying3 ht
        have := hat 0 (by omega)
        exact ⟨z, by simpa [Addr.add] using this⟩
      obtain ⟨z0, hz0⟩ := hcell 0 (by omega)
      rw [show a.add 0 = a by simp [Addr.add]] at hz0
      obtain ⟨b, off, rfl, hadd⟩ := addr_plain hz0
      refine ⟨_, len, cap, (List.range len).map fun i => intAt (W.cell? ⟨b, off + i, none⟩), rfl, ⟨by simp, fun i hi' => ⟨b, off, rfl, ?_⟩⟩, hl, hcm⟩
      obtain ⟨z, hz⟩ := hcell i hi'
      rw [hadd] at hz
      rw [hz]
      simp [List.getD_eq_getElem?_getD, hi', hz, intAt]
theorem open_ints {r : Reach} {b0 : Nat} {v : Value} {d : DataW H} {p : List MemPlace} (hv : Value.okWide Try.prog W r b0 22 v) (h : DataW.Trod enc Try.prog W base spare held 22 v d p) :
    ∃ ao len cap zs, v = .slice ao len cap ∧ IntsIn W ao len zs ∧ len ≤ cap ∧ (len : Int) ≤ 9223372036854775807 := by
  obtain ⟨a0, len, cap, rfl⟩ := okWide_slice Try.underlying22 hv
  obtain ⟨fuel, hf⟩ := h
  obtain ⟨ao, l2, c2, zs, he, h1, h2, h3⟩ := ints_trod (cs := [.slice a0 len cap]) (by simpa [Value.cells] using hf)
  cases he
  exact ⟨_, _, _, zs, rfl, h1, h2, by unfold maxLen at h3; omega⟩

theorem hl_trod {fuel : Nat} {cs : List Value} {x : DataW H × List MemPlace} (h : DataW.trod enc Try.prog W base spare held fuel 24 cs = some x) : ∃ (v f u : Int) (zs : List Int) (ca : Option Addr) (ck : Nat), cs = [.int .i64 v, .int .i64 f, .int .i64 u, .slice ca zs.length ck] ∧ IntsIn W ca zs.length zs ∧ zs.length ≤ ck ∧ (Lit.int .i64 v).wf = true ∧ (Lit.int .i64 u).wf = true := by
  obtain ⟨xs, n, _, _, hl, hlen, hf⟩ := DataW.trod_struct Try.underlying24 h
  rw [cells24] at hl
  match cs, hl with
  | [c0, c1, c2, c3], _ =>
    have h0 := hf 0 _ rfl
    have h1 := hf 1 _ rfl
    have h2 := hf 2 _ rfl
    have h3 := hf 3 _ rfl
    simp [cells3, cells22] at h0 h1 h2 h3
    have hlen' : xs.length = 4 := hlen
    obtain ⟨a, rfl, wa⟩ := int_of (by omega) h0
    obtain ⟨b, rfl, -⟩ := int_of (by omega) h1
    obtain ⟨c, rfl, wc⟩ := int_of (by omega) h2
    obtain ⟨x3, e3⟩ := some_at (show 3 < xs.length by omega)
    rw [e3] at h3
    obtain ⟨ca, cl, ck, zs, q2, hz, hk, -⟩ := ints_trod h3
    simp at q2
    subst q2
    obtain rfl := hz.1
    exact ⟨a, b, c, zs, ca, ck, rfl, hz, hk, wa, wc⟩
theorem open_hl {r : Reach} {b0 : Nat} {v : Value} {d : DataW H} {p : List MemPlace} (hv : Value.okWide Try.prog W r b0 24 v) (h : DataW.Trod enc Try.prog W base spare held 24 v d p) :
    ∃ (lv f u : Int) (zs : List Int) (ca : Option Addr) (ck : Nat), v = .agg #[.int .i64 lv, .int .i64 f, .int .i64 u, .slice ca zs.length ck] ∧ IntsIn W ca zs.length zs ∧ zs.length ≤ ck ∧ (Lit.int .i64 u).wf = true := by
  obtain ⟨cs, rfl, hsz⟩ := okWide_struct Try.underlying24 hv
  obtain ⟨fuel, hf⟩ := h
  obtain ⟨a, b, c, zs, ca, ck, hc, hz, hk, -, wc⟩ := hl_trod hf
  have : cs = #[.int .i64 a, .int .i64 b, .int .i64 c, .slice ca zs.length ck] := Array.ext' (by simpa [Value.cells] using hc)
  exact ⟨a, b, c, zs, ca, ck, by rw [this], hz, hk, wc⟩
theorem hls_trod {fuel : Nat} {cs : List Value} {x : DataW H × List MemPlace} (h : DataW.trod enc Try.prog W base spare held fuel 34 cs = some x) : ∃ ao len cap ls, cs = [.slice ao len cap] ∧ HlsIn W ao len ls ∧ len ≤ cap ∧ cap ≤ maxLen := by
  rcases Go.Deep.open_slice Try.underlying34 h with ⟨rfl, _⟩ | ⟨a, len, cap, m, n, D, Pl, rfl, _, hl, hcm, hm, _, hi⟩
  · exact ⟨none, 0, 0, [], rfl, ⟨rfl, fun i hi => by omega⟩, by omega, by unfold maxLen; omega⟩
  · by_cases h0 : len = 0
    · subst h0
      exact ⟨some a, 0, cap, [], rfl, ⟨rfl, fun i hi => by omega⟩, hl, hcm⟩
    · have hle : len ≤ m := by rw [hm]; split <;> omega
      have hcell : ∀ i, ∃ s : Hl, i < len → IntsIn W s.ca s.chs.length s.chs ∧ s.chs.length ≤ s.ck ∧ W.cell? ((a.add (i * 4)).add 0) = some (.int .i64 s.v) ∧ W.cell? ((a.add (i * 4)).add 1) = some (.int .i64 s.f) ∧ W.cell? ((a.add (i * 4)).add 2) = some (.int .i64 s.u) ∧ W.cell? ((a.add (i * 4)).add 3) = some (.slice s.ca s.chs.length s.ck) := fun i => by
        by_cases hi' : i < len
        · obtain ⟨cs', hc, ht⟩ := hi i (by omega)
          rw [cells24] at hc
          obtain ⟨_, hcl, hat⟩ := World.cells?_some hc
          obtain ⟨v, f, u, zs, ca, ck, rfl, hz, hk, -, -⟩ := hl_trod ht
          exact ⟨⟨v, f, u, zs, ca, ck⟩, fun _ => ⟨hz, hk, by simpa using hat 0 (by omega), by simpa using hat 1 (by omega), by simpa using hat 2 (by omega), by simpa using hat 3 (by omega)⟩⟩
        · exact ⟨⟨0, 0, 0, [], none, 0⟩, fun h => absurd h hi'⟩
      obtain ⟨g, hg⟩ := Classical.axiomOfChoice hcell
      obtain ⟨_, _, hz0, _⟩ := hg 0 (by omega)
      rw [show (a.add (0 * 4)).add 0 = a by simp [Addr.add]] at hz0
      obtain ⟨b, off, rfl, hadd⟩ := addr_plain hz0
      refine ⟨_, len, cap, (List.range len).map g, rfl, ⟨by simp, fun i hi' => ?_⟩, hl, hcm⟩
      obtain ⟨hI, hk, h7⟩ := hg i hi'
      refine ⟨b, off, rfl, ?_⟩
      rw [hadd] at h7
      rw [show hlAt ((List.range len).map g) i = g i by simp [hlAt, List.getD_eq_getElem?_getD, hi']]
      exact ⟨hI, hk, by simpa [Addr.add] using h7⟩
theorem open_hls {r : Reach} {b0 : Nat} {v : Value} {d : DataW H} {p : List MemPlace} (hv : Value.okWide Try.prog W r b0 34 v) (h : DataW.Trod enc Try.prog W base spare held 34 v d p) :
     ∃ ao len cap ls, v = .slice ao len cap ∧ HlsIn W ao len ls ∧ len ≤ cap ∧ (len : Int) ≤ 9223372036854775807 := by
  obtain ⟨a0, len, cap, rfl⟩ := okWide_slice Try.underlying34 hv
  obtain ⟨fuel, hf⟩ := h
  obtain ⟨ao, l2, c2, zs, he, h1, h2, h3⟩ := hls_trod (cs := [.slice a0 len cap]) (by simpa [Value.cells] using hf)
  cases he
  exact ⟨_, _, _, zs, rfl, h1, h2, by unfold maxLen at h3; omega⟩
theorem open_black {r : Reach} {b0 : Nat} {v : Value} {d : DataW H} {p : List MemPlace} (hv : Value.okWide Try.prog W r b0 43 v) (h : DataW.Trod enc Try.prog W base spare held 43 v d p) :
    ∃ (ca : Option Addr) (cl ck : Nat) (chs : List Int) (ba : Option Addr) (bl bk : Nat) (bs : List Int) (least : Int), v = .agg #[.slice ca cl ck, .slice ba bl bk, .int .i64 least] ∧ IntsIn W ca cl chs ∧ cl ≤ ck ∧ IntsIn W ba bl bs ∧ bl ≤ bk ∧ ((cl : Int) ≤ 9223372036854775807 ∧ (bl : Int) ≤ 9223372036854775807) := by
  obtain ⟨cs, rfl, hsz⟩ := okWide_struct Try.underlying43 hv
  obtain ⟨fuel, hf⟩ := h
  obtain ⟨xs, n, _, _, hl, hlen, hg⟩ := DataW.trod_struct Try.underlying43 hf
  rw [cells43] at hsz
  have hlen' : xs.length = 3 := hlen
  obtain ⟨l⟩ := cs
  match l, hsz with
  | [c0, c1, c2], _ =>
    have h0 := hg 0 _ rfl
    have h1 := hg 1 _ rfl
    have h2 := hg 2 _ rfl
    simp [Value.cells, cells3, cells22] at h0 h1 h2
    obtain ⟨x0, e0⟩ := some_at (show 0 < xs.length by omega)
    obtain ⟨x1, e1⟩ := some_at (show 1 < xs.length by omega)
    rw [e0] at h0
    rw [e1] at h1
    obtain ⟨ca, cl, ck, chs, q0, hz0, hk0, m0⟩ := ints_trod h0
    obtain ⟨ba, bl, bk, bs, q1, hz1, hk1, m1⟩ := ints_trod h1
    obtain ⟨a, rfl, -⟩ := int_of (by omega) h2
    simp at q0 q1
    subst q0 q1
    exact ⟨ca, cl, ck, chs, ba, bl, bk, bs, a, rfl, hz0, hk0, hz1, hk1, by unfold maxLen at m0; omega, by unfold maxLen at m1; omega⟩
theorem cells25 : Try.prog.cellsOf 25 = 3 := by kernel_rfl
theorem open_a3 {r : Reach} {b0 : Nat} {v : Value} {d : DataW H} {p : List MemPlace} (hv : Value.okWide Try.prog W r b0 25 v) (h : DataW.Trod enc Try.prog W base spare held 25 v d p) :
    ∃ a b c, v = .agg #[.int .i64 a, .int .i64 b, .int .i64 c] := by
  obtain ⟨cs, rfl, hsz⟩ : ∃ cs, v = .agg cs ∧ cs.size = Try.prog.cellsOf 25 := by
    simp only [Value.okWide, Try.underlying25] at hv
    obtain ⟨cs, h1, h2, _⟩ := hv
    exact ⟨cs, h1, h2⟩
  rw [cells25] at hsz
  obtain ⟨fuel, hf⟩ := h
  obtain ⟨xs, n, _, _, hl, hlen, hg⟩ := DataW.trod_array Try.underlying25 hf
  obtain ⟨l⟩ := cs
  match l, hsz with
  | [c0, c1, c2], _ =>
    have h0 := hg 0 (by omega)
    have h1 := hg 1 (by omega)
    have h2 := hg 2 (by omega)
    simp [Value.cells, cells3] at h0 h1 h2
    obtain ⟨a, rfl, -⟩ := int_of (by omega) h0
    obtain ⟨b, rfl, -⟩ := int_of (by omega) h1
    obtain ⟨c, rfl, -⟩ := int_of (by omega) h2
    exact ⟨a, b, c, rfl⟩
theorem cells56 : Try.prog.cellsOf 56 = 2 := by kernel_rfl
theorem open_a2 {r : Reach} {b0 : Nat} {v : Value} {d : DataW H} {p : List MemPlace} (hv : Value.okWide Try.prog W r b0 56 v) (h : DataW.Trod enc Try.prog W base spare held 56 v d p) :
    ∃ a b, v = .agg #[.int .i64 a, .int .i64 b] := by
  obtain ⟨cs, rfl, hsz⟩ : ∃ cs, v = .agg cs ∧ cs.size = Try.prog.cellsOf 56 := by
    simp only [Value.okWide, Try.underlying56] at hv
    obtain ⟨cs, h1, h2, _⟩ := hv
    exact ⟨cs, h1, h2⟩
  rw [cells56] at hsz
  obtain ⟨fuel, hf⟩ := h
  obtain ⟨xs, n, _, _, hl, hlen, hg⟩ := DataW.trod_array Try.underlying56 hf
  obtain ⟨l⟩ := cs
  match l, hsz with
  | [c0, c1], _ =>
    have h0 := hg 0 (by omega)
    have h1 := hg 1 (by omega)
    simp [Value.cells, cells3] at h0 h1
    obtain ⟨a, rfl, -⟩ := int_of (by omega) h0
    obtain ⟨b, rfl, -⟩ := int_of (by omega) h1
    exact ⟨a, b, rfl⟩
end
theorem fin {a : Nat} {args : Array Value} {w : World} (h : Calls Try.prog a args w fun e w' => e = .returned (.bool true) ∧ Fr no w w') : Calls Try.prog a args w fun e w' => e = .returned (.bool true) ∧ Below w.heap.size w w' :=
  h.mono fun _ _ h => ⟨h.1, h.2.belowNone (Nat.le_refl _)⟩

end Go.Proofs.Ytpaoacdgmfaolaa
