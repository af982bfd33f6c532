/- Arguments that came in: points, walls, sites, queries. -/
import Derived.Test.YtdenlinehjigaaaFac
import Derived.ProofKit
import Derived.OpenShut
import Derived.Deep.Slices
import Derived.Lib.SmallJoins
namespace Go.Proofs.Ytdenlinehjigaaa
open Go.ChangeShapes Go.WideShapes Go.ChangeAt Go.RowKit Go.Joins

set_option maxRecDepth 20000
theorem laid_out : laidOutB Try.prog = true := by kernel_rfl
theorem addr_plain {w : World} {a : Addr} {v : Value} (h : w.cell? a = some v) : ∃ b off, a = ⟨b, off, none⟩ ∧ (∀ j, a.add j = ⟨b, off + j, none⟩) := by
  obtain ⟨b, off, spot⟩ := a
  cases spot with
  | none => exact ⟨b, off, rfl, fun j => by unfold Addr.add; split <;> simp_all⟩
  | some s =>
    exfalso
    unfold World.cell? at h
    split at h <;> simp at h
section
variable {H : Type} {enc : TypeId × Value → H} {W : World} {base : Nat} {spare : Nat → Bool} {held : Bool}
theorem cells3 : Try.prog.cellsOf 3 = 1 := by kernel_rfl
theorem cells23 : Try.prog.cellsOf 42 = 2 := by kernel_rfl
theorem cells25 : Try.prog.cellsOf 101 = 5 := by kernel_rfl
theorem cells30 : Try.prog.cellsOf 22 = 1 := by kernel_rfl
theorem cells31 : Try.prog.cellsOf 23 = 1 := by kernel_rfl
theorem cells32 : Try.prog.cellsOf 24 = 1 := by kernel_rfl
theorem cells34 : Try.prog.cellsOf 26 = 6 := by kernel_rfl
theorem int_of {fuel : Nat} {c : Value} {l : List (DataW H × List MemPlace)} {i : Nat} (hi : i < l.length) (h : DataW.trod enc Try.prog W base spare held fuel 3 [c] = l[i]?) : ∃ n, c = .int .i64 n := by
  rw [List.getElem?_eq_getElem hi] at h
  obtain ⟨n, hn, _⟩ := DataW.trod_int Try.underlying3 h
  exact ⟨n, by simpa using hn⟩
theorem pt_trod {fuel : Nat} {cs : List Value} {x : DataW H × List MemPlace} (h : DataW.trod enc Try.prog W base spare held fuel 42 cs = some x) : ∃ a b, cs = [.int .i64 a, .int .i64 b] := by
  obtain ⟨xs, n, _, _, hl, hlen, hf⟩ := DataW.trod_struct Try.underlying42 h
  rw [cells23] at hl
  match cs, hl with
  | [c0, c1], _ =>
    have h0 := hf 0 _ rfl
    have h1 := hf 1 _ rfl
    simp [cells3] at h0 h1
    have hlen' : xs.length = 2 := hlen
    obtain ⟨a, rfl⟩ := int_of (by omega) h0
    obtain ⟨b, rfl⟩ := int_of (by omega) h1
    exact ⟨a, b, rfl⟩
theorem pt_at {fuel : Nat} {cs : List Value} {l : List (DataW H × List MemPlace)} {i : Nat} (hi : i < l.length) (h : DataW.trod enc Try.prog W base spare held fuel 42 cs = l[i]?) : ∃ a b, cs = [.int .i64 a, .int .i64 b] := by
  rw [List.getElem?_eq_getElem hi] at h
  exact pt_trod h
theorem wl_trod {fuel : Nat} {cs : List Value} {x : DataW H × List MemPlace} (h : DataW.trod enc Try.prog W base spare held fuel 101 cs = some x) : ∃ a b c d f, cs = [.int .i64 a, .int .i64 b, .int .i64 c, .int .i64 d, .int .i64 f] := by
  obtain ⟨xs, n, _, _, hl, hlen, hf⟩ := DataW.trod_struct Try.underlying101 h
  rw [cells25] at hl
  match cs, hl with
  | [c0, c1, c2, c3, c4], _ =>
    have h0 := hf 0 _ rfl
    have h1 := hf 1 _ rfl
    have h2 := hf 2 _ rfl
    simp [cells3, cells23] at h0 h1 h2
    have hlen' : xs.length = 3 := hlen
    obtain ⟨a, b, e0⟩ := pt_at (by omega) h0
    obtain ⟨c, d, e1⟩ := pt_at (by omega) h1
    obtain ⟨f, rfl⟩ := int_of (by omega) h2
    simp at e0 e1
    obtain ⟨rfl, rfl⟩ := e0
    obtain ⟨rfl, rfl⟩ := e1
    exact ⟨a, b, c, d, f, rfl⟩
def intAt : Option Value → Int
  | some (.int _ n) => n
  | _ => 0
theorem ints_trod {fuel : Nat} {cs : List Value} {x : DataW H × List MemPlace} (h : DataW.trod enc Try.prog W base spare held fuel 23 cs = some x) : ∃ ao len cap zs, cs = [.slice ao len cap] ∧ IntsIn W ao len zs := by
  rcases Go.Deep.open_slice Try.underlying23 h with ⟨rfl, _⟩ | ⟨a, len, cap, m, n, D, Pl, rfl, _, hl, _, hm, _, hi⟩
  · exact ⟨none, 0, 0, [], rfl, rfl, fun i hi => by omega⟩
  · by_cases h0 : len = 0
    · subst h0
      exact ⟨some a, 0, cap, [], rfl, rfl, fun i hi => by omega⟩
    · have hle : len ≤ m := by rw [hm]; split <;> omega
      have hcell : ∀ i, i < len → ∃ z, W.cell? (a.add i) = some (.int .i64 z) := fun i hi' => by
        obtain ⟨cs', hc, ht⟩ := hi i (by omega)
        rw [cells3] at hc
        obtain ⟨_, hcl, hat⟩ := World.cells?_some hc
        obtain ⟨z, rfl, _⟩ := DataW.trod_int Try.underlying3 ht
        have := hat 0 (by omega)
        exact ⟨z, by simpa [Addr.add] using this⟩
      obtain ⟨z0, hz0⟩ := hcell 0 (by omega)
      rw [show a.add 0 = a by simp [Addr.add]] at hz0
      obtain ⟨b, off, rfl, hadd⟩ := addr_plain hz0
      refine ⟨_, len, cap, (List.range len).map fun i => intAt (W.cell? ⟨b, off + i, none⟩), rfl, by simp, fun i hi' => ⟨b, off, rfl, ?_⟩⟩
      obtain ⟨z, hz⟩ := hcell i hi'
      rw [hadd] at hz
      rw [hz]
      simp [List.getD_eq_getElem?_getD, hi', hz, intAt]
theorem pts_trod {fuel : Nat} {cs : List Value} {x : DataW H × List MemPlace} (h : DataW.trod enc Try.prog W base spare held fuel 22 cs = some x) : ∃ ao len cap ps, cs = [.slice ao len cap] ∧ PtsIn W ao len ps := by
  rcases Go.Deep.open_slice Try.underlying22 h with ⟨rfl, _⟩ | ⟨a, len, cap, m, n, D, Pl, rfl, _, hl, _, hm, _, hi⟩
  · exact ⟨none, 0, 0, [], rfl, rfl, fun i hi => by omega⟩
  · by_cases h0 : len = 0
    · subst h0
      exact ⟨some a, 0, cap, [], rfl, rfl, fun i hi => by omega⟩
    · have hle : len ≤ m := by rw [hm]; split <;> omega
      have hcell : ∀ i, i < len → ∃ z y, W.cell? ((a.add (i * 2)).add 0) = some (.int .i64 z) ∧ W.cell? ((a.add (i * 2)).add 1) = some (.int .i64 y) := fun i hi' => by
        obtain ⟨cs', hc, ht⟩ := hi i (by omega)
        rw [cells23] at hc
        obtain ⟨_, hcl, hat⟩ := World.cells?_some hc
        obtain ⟨z, y, rfl⟩ := pt_trod ht
        have e0 := hat 0 (by omega)
        have e1 := hat 1 (by omega)
        exact ⟨z, y, by simpa using e0, by simpa using e1⟩
      obtain ⟨z0, y0, hz0, _⟩ := hcell 0 (by omega)
      rw [show (a.add (0 * 2)).add 0 = a by simp [Addr.add]] at hz0
      obtain ⟨b, off, rfl, hadd⟩ := addr_plain hz0
      refine ⟨_, len, cap, (List.range len).map fun i => ⟨intAt (W.cell? ⟨b, off + i * 2, none⟩), intAt (W.cell? ⟨b, off + i * 2 + 1, none⟩)⟩, rfl, by simp, fun i hi' => ⟨b, off, rfl, ?_⟩⟩
      obtain ⟨z, y, hz, hy⟩ := hcell i hi'
      rw [hadd] at hz hy
      have hz' : W.cell? ⟨b, off + i * 2, none⟩ = some (.int .i64 z) := by simpa [Addr.add] using hz
      have hy' : W.cell? ⟨b, off + i * 2 + 1, none⟩ = some (.int .i64 y) := by simpa [Addr.add] using hy
      simp [ptAt, List.getD_eq_getElem?_getD, hi', hz', hy', intAt]
theorem wls_trod {fuel : Nat} {cs : List Value} {x : DataW H × List MemPlace} (h : DataW.trod enc Try.prog W base spare held fuel 24 cs = some x) : ∃ ao len cap ws, cs = [.slice ao len cap] ∧ WlsIn W ao len ws := by
  rcases Go.Deep.open_slice Try.underlying24 h with ⟨rfl, _⟩ | ⟨a, len, cap, m, n, D, Pl, rfl, _, hl, _, hm, _, hi⟩
  · exact ⟨none, 0, 0, [], rfl, rfl, fun i hi => by omega⟩
  · by_cases h0 : len = 0
    · subst h0
      exact ⟨some a, 0, cap, [], rfl, rfl, fun i hi => by omega⟩
    · have hle : len ≤ m := by rw [hm]; split <;> omega
      have hcell : ∀ i, i < len → ∃ z0 z1 z2 z3 z4, W.cell? ((a.add (i * 5)).add 0) = some (.int .i64 z0) ∧ W.cell? ((a.add (i * 5)).add 1) = some (.int .i64 z1) ∧ W.cell? ((a.add (i * 5)).add 2) = some (.int .i64 z2) ∧ W.cell? ((a.add (i * 5)).add 3) = some (.int .i64 z3) ∧ W.cell? ((a.add (i * 5)).add 4) = some (.int .i64 z4) := fun i hi' => by
        obtain ⟨cs', hc, ht⟩ := hi i (by omega)
        rw [cells25] at hc
        obtain ⟨_, hcl, hat⟩ := World.cells?_some hc
        obtain ⟨z0, z1, z2, z3, z4, rfl⟩ := wl_trod ht
        have e0 := hat 0 (by omega)
        have e1 := hat 1 (by omega)
        have e2 := hat 2 (by omega)
        have e3 := hat 3 (by omega)
        have e4 := hat 4 (by omega)
        exact ⟨z0, z1, z2, z3, z4, by simpa using e0, by simpa using e1, by simpa using e2, by simpa using e3, by simpa using e4⟩
      obtain ⟨y0, _, _, _, _, hz0, _⟩ := hcell 0 (by omega)
      rw [show (a.add (0 * 5)).add 0 = a by simp [Addr.add]] at hz0
      obtain ⟨b, off, rfl, hadd⟩ := addr_plain hz0
      refine ⟨_, len, cap, (List.range len).map fun i => ⟨intAt (W.cell? ⟨b, off + i * 5, none⟩), intAt (W.cell? ⟨b, off + i * 5 + 1, none⟩), intAt (W.cell? ⟨b, off + i * 5 + 2, none⟩), intAt (W.cell? ⟨b, off + i * 5 + 3, none⟩), intAt (W.cell? ⟨b, off + i * 5 + 4, none⟩)⟩, rfl, by simp, fun i hi' => ⟨b, off, rfl, ?_⟩⟩
      obtain ⟨z0, z1, z2, z3, z4, h0, h1, h2, h3, h4⟩ := hcell i hi'
      rw [hadd] at h0 h1 h2 h3 h4
      have g0 : W.cell? ⟨b, off + i * 5, none⟩ = some (.int .i64 z0) := by simpa [Addr.add] using h0
      have g1 : W.cell? ⟨b, off + i * 5 + 1, none⟩ = some (.int .i64 z1) := by simpa [Addr.add] using h1
      have g2 : W.cell? ⟨b, off + i * 5 + 2, none⟩ = some (.int .i64 z2) := by simpa [Addr.add] using h2
      have g3 : W.cell? ⟨b, off + i * 5 + 3, none⟩ = some (.int .i64 z3) := by simpa [Addr.add] using h3
      have g4 : W.cell? ⟨b, off + i * 5 + 4, none⟩ = some (.int .i64 z4) := by simpa [Addr.add] using h4
      simp [wlAt, List.getD_eq_getElem?_getD, hi', g0, g1, g2, g3, g4, intAt]

theorem open_pt {r : Reach} {b0 : Nat} {v : Value} {d : DataW H} {p : List MemPlace} (hv : Value.okWide Try.prog W r b0 42 v) (h : DataW.Trod enc Try.prog W base spare held 42 v d p) : ∃ a b, v = .agg #[.int .i64 a, .int .i64 b] := by
  obtain ⟨cs, rfl, hsz⟩ := okWide_struct Try.underlying42 hv
  obtain ⟨fuel, hf⟩ := h
  obtain ⟨a, b, hc⟩ := pt_trod hf
  have : cs = #[.int .i64 a, .int .i64 b] := by
    have e : cs.toList = [.int .i64 a, .int .i64 b] := by simpa [Value.cells] using hc
    exact Array.ext' (by simpa using e)
  exact ⟨a, b, by rw [this]⟩
theorem open_wl {r : Reach} {b0 : Nat} {v : Value} {d : DataW H} {p : List MemPlace} (hv : Value.okWide Try.prog W r b0 101 v) (h : DataW.Trod enc Try.prog W base spare held 101 v d p) : ∃ a b c e f, v = .agg #[.int .i64 a, .int .i64 b, .int .i64 c, .int .i64 e, .int .i64 f] := by
  obtain ⟨cs, rfl, hsz⟩ := okWide_struct Try.underlying101 hv
  obtain ⟨fuel, hf⟩ := h
  obtain ⟨a, b, c, e, f, hc⟩ := wl_trod hf
  have : cs = #[.int .i64 a, .int .i64 b, .int .i64 c, .int .i64 e, .int .i64 f] := by
    have e : cs.toList = [.int .i64 a, .int .i64 b, .int .i64 c, .int .i64 e, .int .i64 f] := by simpa [Value.cells] using hc
    exact Array.ext' (by simpa using e)
  exact ⟨a, b, c, e, f, by rw [this]⟩
theorem some_at {α : Type} {l : List α} {i : Nat} (hi : i < l.length) : ∃ x, l[i]? = some x := ⟨_, List.getElem?_eq_getElem hi⟩
theorem open_site {r : Reach} {b0 : Nat} {v : Value} {d : DataW H} {p : List MemPlace} (hv : Value.okWide Try.prog W r b0 26 v) (h : DataW.Trod enc Try.prog W base spare held 26 v d p) :
    ∃ a0 l0 k0 a1 l1 k1 a2 l2 k2 e o t ps zs ws, v = .agg #[.slice a0 l0 k0, .slice a1 l1 k1, .slice a2 l2 k2, .int .i64 e, .int .i64 o, .int .i64 t] ∧ PtsIn W a0 l0 ps ∧ IntsIn W a1 l1 zs ∧ WlsIn W a2 l2 ws := by
  obtain ⟨cs, rfl, hsz⟩ := okWide_struct Try.underlying26 hv
  rw [cells34] at hsz
  obtain ⟨fuel, hf⟩ := h
  obtain ⟨xs, n, _, _, hl, hlen, hg⟩ := DataW.trod_struct Try.underlying26 hf
  have hlen' : xs.length = 6 := hlen
  obtain ⟨l⟩ := cs
  match l, hsz with
  | [c0, c1, c2, c3, c4, c5], _ =>
    have h0 := hg 0 _ rfl
    have h1 := hg 1 _ rfl
    have h2 := hg 2 _ rfl
    have h3 := hg 3 _ rfl
    have h4 := hg 4 _ rfl
    have h5 := hg 5 _ rfl
    simp [Value.cells, cells3, cells30, cells31, cells32] at h0 h1 h2 h3 h4 h5
    obtain ⟨x0, e0⟩ := some_at (show 0 < xs.length by omega)
    obtain ⟨x1, e1⟩ := some_at (show 1 < xs.length by omega)
    obtain ⟨x2, e2⟩ := some_at (show 2 < xs.length by omega)
    rw [e0] at h0
    rw [e1] at h1
    rw [e2] at h2
    obtain ⟨a0, l0, k0, ps, q0, hp⟩ := pts_trod h0
    obtain ⟨a1, l1, k1, zs, q1, hz⟩ := ints_trod h1
    obtain ⟨a2, l2, k2, ws, q2, hw⟩ := wls_trod h2
    obtain ⟨e, rfl⟩ := int_of (by omega) h3
    obtain ⟨o, rfl⟩ := int_of (by omega) h4
    obtain ⟨t, rfl⟩ := int_of (by omega) h5
    simp at q0 q1 q2
    subst q0 q1 q2
    exact ⟨a0, l0, k0, a1, l1, k1, a2, l2, k2, e, o, t, ps, zs, ws, rfl, hp, hz, hw⟩
theorem cells44 : Try.prog.cellsOf 44 = 1 := by kernel_rfl
theorem cells45 : Try.prog.cellsOf 45 = 1 := by kernel_rfl
theorem cells47 : Try.prog.cellsOf 47 = 2 := by kernel_rfl
theorem cells49 : Try.prog.cellsOf 49 = 7 := by kernel_rfl
theorem cells51 : Try.prog.cellsOf 51 = 5 := by kernel_rfl
theorem cells66 : Try.prog.cellsOf 66 = 6 := by kernel_rfl
theorem fd_trod {fuel : Nat} {cs : List Value} {x : DataW H × List MemPlace} (h : DataW.trod enc Try.prog W base spare held fuel 66 cs = some x) : ∃ a b c d e f, cs = [.int .i64 a, .int .i64 b, .int .i64 c, .int .i64 d, .int .i64 e, .int .i64 f] := by
  obtain ⟨xs, n, _, _, hl, hlen, hf⟩ := DataW.trod_struct Try.underlying66 h
  rw [cells66] at hl
  match cs, hl with
  | [c0, c1, c2, c3, c4, c5], _ =>
    have h0 := hf 0 _ rfl
    have h1 := hf 1 _ rfl
    have h2 := hf 2 _ rfl
    have h3 := hf 3 _ rfl
    have h4 := hf 4 _ rfl
    have h5 := hf 5 _ rfl
    simp [cells3] at h0 h1 h2 h3 h4 h5
    have hlen' : xs.length = 6 := hlen
    obtain ⟨a, rfl⟩ := int_of (by omega) h0
    obtain ⟨b, rfl⟩ := int_of (by omega) h1
    obtain ⟨c, rfl⟩ := int_of (by omega) h2
    obtain ⟨d, rfl⟩ := int_of (by omega) h3
    obtain ⟨e, rfl⟩ := int_of (by omega) h4
    obtain ⟨f, rfl⟩ := int_of (by omega) h5
    exact ⟨a, b, c, d, e, f, rfl⟩
theorem src_trod {fuel : Nat} {cs : List Value} {x : DataW H × List MemPlace} (h : DataW.trod enc Try.prog W base spare held fuel 49 cs = some x) : ∃ (s : Src) (ca : Option Addr) (ck : Nat), cs = [.int .i64 s.x, .int .i64 s.y, .int .i64 s.pw, .slice ca s.chs.length ck, .int .i64 s.per, .int .i64 s.fr, .int .i64 s.to] ∧ IntsIn W ca s.chs.length s.chs := by
  obtain ⟨xs, n, _, _, hl, hlen, hf⟩ := DataW.trod_struct Try.underlying49 h
  rw [cells49] at hl
  match cs, hl with
  | [c0, c1, c2, c3, c4, c5, c6], _ =>
    have h0 := hf 0 _ rfl
    have h1 := hf 1 _ rfl
    have h2 := hf 2 _ rfl
    have h3 := hf 3 _ rfl
    have h4 := hf 4 _ rfl
    have h5 := hf 5 _ rfl
    simp [cells3, cells23, cells31] at h0 h1 h2 h3 h4 h5
    have hlen' : xs.length = 6 := hlen
    obtain ⟨a, b, e0⟩ := pt_at (by omega) h0
    obtain ⟨c, rfl⟩ := int_of (by omega) h1
    obtain ⟨x2, e2⟩ := some_at (show 2 < xs.length by omega)
    rw [e2] at h2
    obtain ⟨ca, cl, ck, zs, q2, hz⟩ := ints_trod h2
    obtain ⟨d, rfl⟩ := int_of (by omega) h3
    obtain ⟨e, rfl⟩ := int_of (by omega) h4
    obtain ⟨f, rfl⟩ := int_of (by omega) h5
    simp at e0 q2
    obtain ⟨rfl, rfl⟩ := e0
    subst q2
    obtain rfl := hz.1
    exact ⟨⟨a, b, c, zs, d, e, f⟩, ca, ck, rfl, hz⟩
theorem fds_trod {fuel : Nat} {cs : List Value} {x : DataW H × List MemPlace} (h : DataW.trod enc Try.prog W base spare held fuel 45 cs = some x) : ∃ ao len cap fs, cs = [.slice ao len cap] ∧ FdsIn W ao len fs := by
  rcases Go.Deep.open_slice Try.underlying45 h with ⟨rfl, _⟩ | ⟨a, len, cap, m, n, D, Pl, rfl, _, hl, _, hm, _, hi⟩
  · exact ⟨none, 0, 0, [], rfl, rfl, fun i hi => by omega⟩
  · by_cases h0 : len = 0
    · subst h0
      exact ⟨some a, 0, cap, [], rfl, rfl, fun i hi => by omega⟩
    · have hle : len ≤ m := by rw [hm]; split <;> omega
      have hcell : ∀ i, ∃ f : Fd, i < len → W.cell? ((a.add (i * 6)).add 0) = some (.int .i64 f.fr) ∧ W.cell? ((a.add (i * 6)).add 1) = some (.int .i64 f.to) ∧ W.cell? ((a.add (i * 6)).add 2) = some (.int .i64 f.ch) ∧ W.cell? ((a.add (i * 6)).add 3) = some (.int .i64 f.fi) ∧ W.cell? ((a.add (i * 6)).add 4) = some (.int .i64 f.un) ∧ W.cell? ((a.add (i * 6)).add 5) = some (.int .i64 f.fa) := fun i => by
        by_cases hi' : i < len
        · obtain ⟨cs', hc, ht⟩ := hi i (by omega)
          rw [cells66] at hc
          obtain ⟨_, hcl, hat⟩ := World.cells?_some hc
          obtain ⟨z0, z1, z2, z3, z4, z5, rfl⟩ := fd_trod ht
          exact ⟨⟨z0, z1, z2, z3, z4, z5⟩, fun _ => ⟨by simpa using hat 0 (by omega), by simpa using hat 1 (by omega), by simpa using hat 2 (by omega), by simpa using hat 3 (by omega), by simpa using hat 4 (by omega), by simpa using hat 5 (by omega)⟩⟩
        · exact ⟨⟨0, 0, 0, 0, 0, 0⟩, fun h => absurd h hi'⟩
      obtain ⟨g, hg⟩ := Classical.axiomOfChoice hcell
      have hz0 := (hg 0 (by omega)).1
      rw [show (a.add (0 * 6)).add 0 = a by simp [Addr.add]] at hz0
      obtain ⟨b, off, rfl, hadd⟩ := addr_plain hz0
      refine ⟨_, len, cap, (List.range len).map g, rfl, by simp, fun i hi' => ⟨b, off, rfl, ?_⟩⟩
      have h6 := hg i hi'
      rw [hadd] at h6
      rw [show fdAt ((List.range len).map g) i = g i by simp [fdAt, List.getD_eq_getElem?_getD, hi']]
      simpa [Addr.add] using h6
theorem srcs_trod {fuel : Nat} {cs : List Value} {x : DataW H × List MemPlace} (h : DataW.trod enc Try.prog W base spare held fuel 44 cs = some x) : ∃ ao len cap ss, cs = [.slice ao len cap] ∧ SrcsIn W ao len ss := by
  rcases Go.Deep.open_slice Try.underlying44 h with ⟨rfl, _⟩ | ⟨a, len, cap, m, n, D, Pl, rfl, _, hl, _, hm, _, hi⟩
  · exact ⟨none, 0, 0, [], rfl, rfl, fun i hi => by omega⟩
  · by_cases h0 : len = 0
    · subst h0
      exact ⟨some a, 0, cap, [], rfl, rfl, fun i hi => by omega⟩
    · have hle : len ≤ m := by rw [hm]; split <;> omega
      have hcell : ∀ i, ∃ s : Src, i < len → ∃ (ca : Option Addr) (ck : Nat), IntsIn W ca s.chs.length s.chs ∧ W.cell? ((a.add (i * 7)).add 0) = some (.int .i64 s.x) ∧ W.cell? ((a.add (i * 7)).add 1) = some (.int .i64 s.y) ∧ W.cell? ((a.add (i * 7)).add 2) = some (.int .i64 s.pw) ∧ W.cell? ((a.add (i * 7)).add 3) = some (.slice ca s.chs.length ck) ∧ W.cell? ((a.add (i * 7)).add 4) = some (.int .i64 s.per) ∧ W.cell? ((a.add (i * 7)).add 5) = some (.int .i64 s.fr) ∧ W.cell? ((a.add (i * 7)).add 6) = some (.int .i64 s.to) := fun i => by
        by_cases hi' : i < len
        · obtain ⟨cs', hc, ht⟩ := hi i (by omega)
          rw [cells49] at hc
          obtain ⟨_, hcl, hat⟩ := World.cells?_some hc
          obtain ⟨s, ca, ck, rfl, hz⟩ := src_trod ht
          exact ⟨s, fun _ => ⟨ca, ck, hz, by simpa using hat 0 (by omega), by simpa using hat 1 (by omega), by simpa using hat 2 (by omega), by simpa using hat 3 (by omega), by simpa using hat 4 (by omega), by simpa using hat 5 (by omega), by simpa using hat 6 (by omega)⟩⟩
        · exact ⟨⟨0, 0, 0, [], 0, 0, 0⟩, fun h => absurd h hi'⟩
      obtain ⟨g, hg⟩ := Classical.axiomOfChoice hcell
      obtain ⟨_, _, _, hz0, _⟩ := hg 0 (by omega)
      rw [show (a.add (0 * 7)).add 0 = a by simp [Addr.add]] at hz0
      obtain ⟨b, off, rfl, hadd⟩ := addr_plain hz0
      refine ⟨_, len, cap, (List.range len).map g, rfl, by simp, fun i hi' => ?_⟩
      obtain ⟨ca, ck, hI, h7⟩ := hg i hi'
      refine ⟨b, off, ca, ck, rfl, ?_⟩
      rw [hadd] at h7
      rw [show srAt ((List.range len).map g) i = g i by simp [srAt, List.getD_eq_getElem?_getD, hi']]
      exact ⟨hI, by simpa [Addr.add] using h7⟩
theorem open_source {r : Reach} {b0 : Nat} {v : Value} {d : DataW H} {p : List MemPlace} (hv : Value.okWide Try.prog W r b0 49 v) (h : DataW.Trod enc Try.prog W base spare held 49 v d p) :
    ∃ (s : Src) (ca : Option Addr) (ck : Nat), v = .agg #[.int .i64 s.x, .int .i64 s.y, .int .i64 s.pw, .slice ca s.chs.length ck, .int .i64 s.per, .int .i64 s.fr, .int .i64 s.to] ∧ IntsIn W ca s.chs.length s.chs := by
  obtain ⟨cs, rfl, hsz⟩ := okWide_struct Try.underlying49 hv
  obtain ⟨fuel, hf⟩ := h
  obtain ⟨s, ca, ck, hc, hz⟩ := src_trod hf
  have : cs = #[.int .i64 s.x, .int .i64 s.y, .int .i64 s.pw, .slice ca s.chs.length ck, .int .i64 s.per, .int .i64 s.fr, .int .i64 s.to] := Array.ext' (by simpa [Value.cells] using hc)
  exact ⟨s, ca, ck, by rw [this], hz⟩
theorem open_spectrum {r : Reach} {b0 : Nat} {v : Value} {d : DataW H} {p : List MemPlace} (hv : Value.okWide Try.prog W r b0 47 v) (h : DataW.Trod enc Try.prog W base spare held 47 v d p) :
    ∃ a0 l0 k0 a1 l1 k1 ss fs, v = .agg #[.slice a0 l0 k0, .slice a1 l1 k1] ∧ SrcsIn W a0 l0 ss ∧ FdsIn W a1 l1 fs := by
  obtain ⟨cs, rfl, hsz⟩ := okWide_struct Try.underlying47 hv
  rw [cells47] at hsz
  obtain ⟨fuel, hf⟩ := h
  obtain ⟨xs, n, _, _, hl, hlen, hg⟩ := DataW.trod_struct Try.underlying47 hf
  have hlen' : xs.length = 2 := hlen
  obtain ⟨l⟩ := cs
  match l, hsz with
  | [c0, c1], _ =>
    have h0 := hg 0 _ rfl
    have h1 := hg 1 _ rfl
    simp [Value.cells, cells44, cells45] at h0 h1
    obtain ⟨x0, e0⟩ := some_at (show 0 < xs.length by omega)
    obtain ⟨x1, e1⟩ := some_at (show 1 < xs.length by omega)
    rw [e0] at h0
    rw [e1] at h1
    obtain ⟨a0, l0, k0, ss, q0, hs⟩ := srcs_trod h0
    obtain ⟨a1, l1, k1, fs, q1, hfd⟩ := fds_trod h1
    simp at q0 q1
    subst q0 q1
    exact ⟨a0, l0, k0, a1, l1, k1, ss, fs, rfl, hs, hfd⟩
theorem open_q5 {r : Reach} {b0 : Nat} {v : Value} {d : DataW H} {p : List MemPlace} (hv : Value.okWide Try.prog W r b0 51 v) (h : DataW.Trod enc Try.prog W base spare held 51 v d p) :
    ∃ a b c e f, v = .agg #[.int .i64 a, .int .i64 b, .int .i64 c, .int .i64 e, .int .i64 f] := by
  obtain ⟨cs, rfl, hsz⟩ := okWide_struct Try.underlying51 hv
  rw [cells51] at hsz
  obtain ⟨fuel, hf⟩ := h
  obtain ⟨xs, n, _, _, hl, hlen, hg⟩ := DataW.trod_struct Try.underlying51 hf
  have hlen' : xs.length = 5 := hlen
  obtain ⟨l⟩ := cs
  match l, hsz with
  | [c0, c1, c2, c3, c4], _ =>
    have h0 := hg 0 _ rfl
    have h1 := hg 1 _ rfl
    have h2 := hg 2 _ rfl
    have h3 := hg 3 _ rfl
    have h4 := hg 4 _ rfl
    simp [Value.cells, cells3] at h0 h1 h2 h3 h4
    obtain ⟨a, rfl⟩ := int_of (by omega) h0
    obtain ⟨b, rfl⟩ := int_of (by omega) h1
    obtain ⟨c, rfl⟩ := int_of (by omega) h2
    obtain ⟨e, rfl⟩ := int_of (by omega) h3
    obtain ⟨f, rfl⟩ := int_of (by omega) h4
    exact ⟨a, b, c, e, f, rfl⟩
end
theorem fin {a : Nat} {args : Array Value} {w : World} (h : Calls Try.prog a args w fun e w' => e = .returned (.bool true) ∧ Fr no w w') : Calls Try.prog a args w fun e w' => e = .returned (.bool true) ∧ Below w.heap.size w w' :=
  h.mono fun _ _ h => ⟨h.1, h.2.belowNone (Nat.le_refl _)⟩
end Go.Proofs.Ytdenlinehjigaaa
