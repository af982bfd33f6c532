/- Arguments that came in: a query, a number, a transmitter, a fading. -/
import Derived.Test.YtdenlinehjigaaaOpn
namespace Go.Proofs.Ytdenlinehjigaaa
set_option linter.unusedVariables false
set_option maxRecDepth 20000
open Go.ChangeShapes Go.WideShapes Go.ChangeAt Go.RowKit Go.Joins

section
variable {H : Type} {enc : TypeId × Value → H} {W : World} {base : Nat} {spare : Nat → Bool} {held : Bool}
theorem q5_trod {fuel : Nat} {cs : List Value} {x : DataW H × List MemPlace} (h : DataW.trod enc Try.prog W base spare held fuel 51 cs = some x) : ∃ a b c d e, cs = [.int .i64 a, .int .i64 b, .int .i64 c, .int .i64 d, .int .i64 e] := by
  obtain ⟨xs, n, _, _, hl, hlen, hf⟩ := DataW.trod_struct Try.underlying51 h
  rw [cells51] at hl
  match cs, hl with
  | [c0, c1, c2, c3, c4], _ =>
    have h0 := hf 0 _ rfl
    have h1 := hf 1 _ rfl
    have h2 := hf 2 _ rfl
    have h3 := hf 3 _ rfl
    have h4 := hf 4 _ rfl
    simp [cells3] at h0 h1 h2 h3 h4
    have hlen' : xs.length = 5 := hlen
    obtain ⟨a, rfl⟩ := int_of (by omega) h0
    obtain ⟨b, rfl⟩ := int_of (by omega) h1
    obtain ⟨c, rfl⟩ := int_of (by omega) h2
    obtain ⟨d, rfl⟩ := int_of (by omega) h3
    obtain ⟨e, rfl⟩ := int_of (by omega) h4
    exact ⟨a, b, c, d, e, rfl⟩
theorem cells68 : Try.prog.cellsOf 68 = 19 := by kernel_rfl
theorem open_more {r : Reach} {b0 : Nat} {v : Value} {d : DataW H} {p : List MemPlace} (hv : Value.okWide Try.prog W r b0 68 v) (h : DataW.Trod enc Try.prog W base spare held 68 v d p) :
    ∃ (qa qb qc qf qt lo : Int) (ca : Option Addr) (ck : Nat) (s : Src) (f : Fd), v = .agg #[.int .i64 qa, .int .i64 qb, .int .i64 qc, .int .i64 qf, .int .i64 qt, .int .i64 lo, .int .i64 s.x, .int .i64 s.y, .int .i64 s.pw, .slice ca s.chs.length ck, .int .i64 s.per, .int .i64 s.fr, .int .i64 s.to, .int .i64 f.fr, .int .i64 f.to, .int .i64 f.ch, .int .i64 f.fi, .int .i64 f.un, .int .i64 f.fa] ∧ IntsIn W ca s.chs.length s.chs := by
  obtain ⟨cs, rfl, hsz⟩ := okWide_struct Try.underlying68 hv
  rw [cells68] at hsz
  obtain ⟨fuel, hf⟩ := h
  obtain ⟨xs, n, _, _, hl, hlen, hg⟩ := DataW.trod_struct Try.underlying68 hf
  have hlen' : xs.length = 4 := hlen
  obtain ⟨l⟩ := cs
  match l, hsz with
  | [c0, c1, c2, c3, c4, c5, c6, c7, c8, c9, c10, c11, c12, c13, c14, c15, c16, c17, c18], _ =>
    have h0 := hg 0 _ rfl
    have h1 := hg 1 _ rfl
    have h2 := hg 2 _ rfl
    have h3 := hg 3 _ rfl
    simp [Value.cells, cells3, cells51, cells49, cells66] at h0 h1 h2 h3
    obtain ⟨x0, e0⟩ := some_at (show 0 < xs.length by omega)
    obtain ⟨x2, e2⟩ := some_at (show 2 < xs.length by omega)
    obtain ⟨x3, e3⟩ := some_at (show 3 < xs.length by omega)
    rw [e0] at h0
    rw [e2] at h2
    rw [e3] at h3
    obtain ⟨qa, qb, qc, qf, qt, q0⟩ := q5_trod h0
    obtain ⟨lo, rfl⟩ := int_of (by omega) h1
    obtain ⟨s, ca, ck, q2, hz⟩ := src_trod h2
    obtain ⟨f0, f1, f2, f3, f4, f5, q3⟩ := fd_trod h3
    simp at q0 q2 q3
    obtain ⟨rfl, rfl, rfl, rfl, rfl⟩ := q0
    obtain ⟨rfl, rfl, rfl, rfl, rfl, rfl, rfl⟩ := q2
    obtain ⟨rfl, rfl, rfl, rfl, rfl, rfl⟩ := q3
    exact ⟨qa, qb, qc, qf, qt, lo, ca, ck, s, ⟨f0, f1, f2, f3, f4, f5⟩, rfl, hz⟩
end
end Go.Proofs.Ytdenlinehjigaaa
