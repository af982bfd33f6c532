/- Reading a frame: the closures. -/
import Derived.Test.YtelpdihaonoedaaWri
import Derived.Test.YtelpdihaonoedaaRead3
namespace Go.Proofs.Ytelpdihaonoedaa
open Go.RowKit
set_option linter.unusedVariables false
set_option maxRecDepth 20000

theorem enter86 (args : Array Value) (w : World) : (callFunc 86 args).run Try.prog w = .ok (.enter 86 args) w := Go.Proofs.enters_of Try.func86 (by kernel_rfl) rfl args w
theorem enter88 (args : Array Value) (w : World) : (callFunc 88 args).run Try.prog w = .ok (.enter 88 args) w := Go.Proofs.enters_of Try.func88 (by kernel_rfl) rfl args w
theorem enter90 (args : Array Value) (w : World) : (callFunc 90 args).run Try.prog w = .ok (.enter 90 args) w := Go.Proofs.enters_of Try.func90 (by kernel_rfl) rfl args w
theorem enter92 (args : Array Value) (w : World) : (callFunc 92 args).run Try.prog w = .ok (.enter 92 args) w := Go.Proofs.enters_of Try.func92 (by kernel_rfl) rfl args w
def fooR (F B : Nat) : Nat → Prop := fun k => k = F ∨ k = B
structure LSr (F B P : Nat) (w : World) (T : Nat → Prop) (x : Frm) (st : RSt) : Prop where
  rd : RdS w B st
  f : w.heap[F]? = some (.cells (frA x) 23 (0, 0))
  p : w.heap[P]? = some (.cells #[.pointer (some ⟨B, 0, none⟩)] 63 (0, 0))
  fb : F ≠ B
  pb : P ≠ B
  fp : F ≠ P
  t : T = fooR F B
def macR (F B P : Nat) : Mach RSt where
  F := F
  P := P
  g1 := 86
  g2 := 88
  g3 := 90
  g4 := 92
  LS := fun w T x st => LSr F B P w T x st
  u := fun wd _ st => rUnsigned wd st
  sg := fun wd _ st => rSigned wd st
  fl := fun _ st => rFlag st
  tx := fun m _ st => rText m st
theorem LSr.kept {F B P : Nat} {w w' : World} {T : Nat → Prop} {x : Frm} {st : RSt} (h : LSr F B P w T x st) (hf : Fr no w w') : LSr F B P w' T x st :=
  ⟨h.rd.kept hf (fun h => h), hf.blk h.f (fun h => h), hf.blk h.p (fun h => h), h.fb, h.pb, h.fp, h.t⟩
/-- The reader's step; then a store into the frame. -/
theorem LSr.step {F B P : Nat} {w w' : World} {T : Nat → Prop} {x : Frm} {st st' : RSt} (h : LSr F B P w T x st) (hw : RdS w' B st') (ha : Fr (only B) w w') : LSr F B P w' T x st' ∧ Fr T w w' :=
  ⟨⟨hw, ha.blk h.f h.fb, ha.blk h.p h.pb, h.fb, h.pb, h.fp, h.t⟩, ha.mono (fun i _ hi => by rw [h.t]; exact .inr hi)⟩
theorem LSr.put {F B P : Nat} {w : World} {T : Nat → Prop} {x : Frm} {st : RSt} (h : LSr F B P w T x st) (i : Nat) (v : Value) (y : Frm) (hy : (frA x).setIfInBounds i v = frA y) : LSr F B P (w.setCell ⟨F, i, none⟩ v) T y st ∧ Fr T w (w.setCell ⟨F, i, none⟩ v) := by
  have hs := (Fr.refl (fun k => k = F) w).setCell (p := ⟨F, i, none⟩) (.inl rfl) v
  refine ⟨⟨h.rd.kept hs (fun e => h.fb e.symm), ?_, other_set h.p _ (Ne.symm h.fp), h.fb, h.pb, h.fp, h.t⟩, hs.mono (fun k _ hk => by rw [h.t]; exact .inl hk)⟩
  have := three_set h.f i v
  rwa [hy] at this
theorem LSr.both {F B P : Nat} {w w' : World} {T : Nat → Prop} {x : Frm} {st st' : RSt} (h : LSr F B P w T x st) (hw : RdS w' B st') (ha : Fr (only B) w w') (i : Nat) (v : Value) (y : Frm) (hy : (frA x).setIfInBounds i v = frA y) :
    Stp (macR F B P) w T (w'.setCell ⟨F, i, none⟩ v) y st' := by
  obtain ⟨h1, f1⟩ := h.step hw ha
  obtain ⟨h2, f2⟩ := h1.put i v y hy
  exact ⟨T, h2, f1.trans f2 (fun _ _ hh => hh), fun _ _ hh => hh⟩
set_option maxHeartbeats 2000000 in
theorem rd1_any (F B P : Nat) {w : World} {T : Nat → Prop} {x : Frm} {st : RSt} (h : LSr F B P w T x st) (i : Nat) (wd : Int) (hi : i ≤ 10) :
    Calls Try.prog 86 #[.int .i64 wd, .pointer (some ⟨F, i, none⟩), .pointer (some ⟨P, 0, none⟩)] w fun e w' => e = .returned (.tuple #[]) ∧ Stp (macR F B P) w T w' (setI x i (rUnsigned wd st).1) (rUnsigned wd st).2 := by
  have c1 : w.cell? ⟨P, 0, none⟩ = some (.pointer (some ⟨B, 0, none⟩)) := by simp [World.cell?, h.p]
  have HH := Lib.hid h
  have HC := Lib.hid (rUnsigned_any B st wd w h.rd)
  clear h
  generalize rUnsigned wd st = r at *
  obtain ⟨n, s1⟩ := r
  go_enter Try.func86, Try.ntmps86
  go_wp2_with fail
  refine HC.out.mono ?_
  rintro e w' ⟨rfl, hw, ha⟩
  have HS := HH.out.step hw ha
  have c2 := frA_cell HS.1.f i hi
  have c3 := frA_fro HS.1.f i
  have HE := Lib.hid (HH.out.both hw ha i (.int .i64 n) _ (frA_set x i hi n))
  clear hw ha HS
  go_wp2_with fail
  go_end0
  exact ⟨rfl, HE.out⟩
set_option maxHeartbeats 2000000 in
theorem rd2_any (F B P : Nat) {w : World} {T : Nat → Prop} {x : Frm} {st : RSt} (h : LSr F B P w T x st) (i : Nat) (wd : Int) (hi : i ≤ 10) :
    Calls Try.prog 88 #[.int .i64 wd, .pointer (some ⟨F, i, none⟩), .pointer (some ⟨P, 0, none⟩)] w fun e w' => e = .returned (.tuple #[]) ∧ Stp (macR F B P) w T w' (setI x i (rSigned wd st).1) (rSigned wd st).2 := by
  have c1 : w.cell? ⟨P, 0, none⟩ = some (.pointer (some ⟨B, 0, none⟩)) := by simp [World.cell?, h.p]
  have HH := Lib.hid h
  have HC := Lib.hid (rSigned_any B st wd w h.rd)
  clear h
  generalize rSigned wd st = r at *
  obtain ⟨n, s1⟩ := r
  go_enter Try.func88, Try.ntmps88
  go_wp2_with fail
  refine HC.out.mono ?_
  rintro e w' ⟨rfl, hw, ha⟩
  have HS := HH.out.step hw ha
  have c2 := frA_cell HS.1.f i hi
  have c3 := frA_fro HS.1.f i
  have HE := Lib.hid (HH.out.both hw ha i (.int .i64 n) _ (frA_set x i hi n))
  clear hw ha HS
  go_wp2_with fail
  go_end0
  exact ⟨rfl, HE.out⟩
set_option maxHeartbeats 2000000 in
theorem rd3_any (F B P : Nat) {w : World} {T : Nat → Prop} {x : Frm} {st : RSt} (h : LSr F B P w T x st) (b : Bool) :
    Calls Try.prog 90 #[.bool b, .pointer (some ⟨P, 0, none⟩)] w fun e w' => e = .returned (.bool (rFlag st).1) ∧ Stp (macR F B P) w T w' x (rFlag st).2 := by
  have c1 : w.cell? ⟨P, 0, none⟩ = some (.pointer (some ⟨B, 0, none⟩)) := by simp [World.cell?, h.p]
  have HH := Lib.hid h
  have HC := Lib.hid (rFlag_any B st w h.rd)
  clear h
  generalize rFlag st = r at *
  obtain ⟨n, s1⟩ := r
  go_enter Try.func90, Try.ntmps90
  go_wp2_with fail
  refine HC.out.mono ?_
  rintro e w' ⟨rfl, hw, ha⟩
  have HS := HH.out.step hw ha
  have HE := Lib.hid (show Stp (macR F B P) w T w' x s1 from ⟨T, HS.1, HS.2, fun _ _ hh => hh⟩)
  clear hw ha HS
  go_wp2_with fail
  go_ret
  exact ⟨rfl, HE.out⟩
set_option maxHeartbeats 2000000 in
theorem rd4_any (F B P : Nat) {w : World} {T : Nat → Prop} {x : Frm} {st : RSt} (h : LSr F B P w T x st) :
    Calls Try.prog 92 #[.int .i64 127, .pointer (some ⟨F, 11, none⟩), .pointer (some ⟨P, 0, none⟩)] w fun e w' => e = .returned (.tuple #[]) ∧ Stp (macR F B P) w T w' { x with d := (rText 127 st).1 } (rText 127 st).2 := by
  have c1 : w.cell? ⟨P, 0, none⟩ = some (.pointer (some ⟨B, 0, none⟩)) := by simp [World.cell?, h.p]
  have HH := Lib.hid h
  have HC := Lib.hid (rText_any B st 127 w (by decide) h.rd)
  clear h
  generalize rText 127 st = r at *
  obtain ⟨n, s1⟩ := r
  go_enter Try.func92, Try.ntmps92
  go_wp2_with fail
  refine HC.out.mono ?_
  rintro e w' ⟨rfl, hw, ha⟩
  have HS := HH.out.step hw ha
  have c2 : w'.cell? ⟨F, 11, none⟩ = some (.string x.d) := (twelve_cells HS.1.f).2.2.2.2.2.2.2.2.2.2.2
  have c3 := frA_fro HS.1.f 11
  have HE := Lib.hid (HH.out.both hw ha 11 (.string n) { x with d := n } rfl)
  clear hw ha HS
  go_wp2_with fail
  go_end0
  exact ⟨rfl, HE.out⟩
theorem macR_ok (F B P : Nat) : (macR F B P).Ok where
  e1 := enter86
  e2 := enter88
  e3 := enter90
  e4 := enter92
  bnd := by
    intro w T x st h k hk
    rw [LSr.t h] at hk
    rcases hk with rfl | rfl
    · exact lt_of_blk (LSr.f h)
    · exact lt_of_blk (LSr.rd h).blk
  blk := by intro w T x st h; exact LSr.f h
  hF := by intro w T x st h; rw [LSr.t h]; exact .inl rfl
  kept := by intro w w' T x st h hf; exact LSr.kept h hf
  setT := by
    intro w T x st h
    exact (LSr.put h 2 (.int .i64 (-1)) _ (frA_set x 2 (by decide) (-1))).1
  cU := by intro w T x st h i wd hi; exact rd1_any F B P h i wd hi
  cS := by intro w T x st h i wd hi; exact rd2_any F B P h i wd hi
  cF := by intro w T x st h b; exact rd3_any F B P h b
  cT := by intro w T x st h; exact rd4_any F B P h
end Go.Proofs.Ytelpdihaonoedaa
