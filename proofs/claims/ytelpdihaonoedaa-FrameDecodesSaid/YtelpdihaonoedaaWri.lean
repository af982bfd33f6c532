/- Writing a frame: the closures. -/
import Derived.Test.YtelpdihaonoedaaAll
import Derived.Test.YtelpdihaonoedaaText
import Derived.Shelf.Abstract
namespace Go.Proofs.Ytelpdihaonoedaa
open Go.RowKit
set_option linter.unusedVariables false
set_option maxRecDepth 20000

theorem enter70 (args : Array Value) (w : World) : (callFunc 70 args).run Try.prog w = .ok (.enter 70 args) w := Go.Proofs.enters_of Try.func70 (by kernel_rfl) rfl args w
theorem enter72 (args : Array Value) (w : World) : (callFunc 72 args).run Try.prog w = .ok (.enter 72 args) w := Go.Proofs.enters_of Try.func72 (by kernel_rfl) rfl args w
theorem enter74 (args : Array Value) (w : World) : (callFunc 74 args).run Try.prog w = .ok (.enter 74 args) w := Go.Proofs.enters_of Try.func74 (by kernel_rfl) rfl args w
theorem enter76 (args : Array Value) (w : World) : (callFunc 76 args).run Try.prog w = .ok (.enter 76 args) w := Go.Proofs.enters_of Try.func76 (by kernel_rfl) rfl args w
def i64B (n : Int) : Prop := -9223372036854775808 ≤ n ∧ n ≤ 9223372036854775807
def FrR (x : Frm) : Prop := (∀ i, i ≤ 10 → i64B (getI x i)) ∧ x.d.size ≤ 140737488355328
theorem setI_getI (x : Frm) (i : Nat) (hi : i ≤ 10) : setI x i (getI x i) = x := by
  rcases (show i = 0 ∨ i = 1 ∨ i = 2 ∨ i = 3 ∨ i = 4 ∨ i = 5 ∨ i = 6 ∨ i = 7 ∨ i = 8 ∨ i = 9 ∨ i = 10 by omega) with rfl | rfl | rfl | rfl | rfl | rfl | rfl | rfl | rfl | rfl | rfl <;> rfl
theorem frA_get (x : Frm) (i : Nat) (hi : i ≤ 10) : (frA x)[i]? = some (.int .i64 (getI x i)) := by
  rcases (show i = 0 ∨ i = 1 ∨ i = 2 ∨ i = 3 ∨ i = 4 ∨ i = 5 ∨ i = 6 ∨ i = 7 ∨ i = 8 ∨ i = 9 ∨ i = 10 by omega) with rfl | rfl | rfl | rfl | rfl | rfl | rfl | rfl | rfl | rfl | rfl <;> rfl
theorem frA_set (x : Frm) (i : Nat) (hi : i ≤ 10) (v : Int) : (frA x).setIfInBounds i (.int .i64 v) = frA (setI x i v) := by
  rcases (show i = 0 ∨ i = 1 ∨ i = 2 ∨ i = 3 ∨ i = 4 ∨ i = 5 ∨ i = 6 ∨ i = 7 ∨ i = 8 ∨ i = 9 ∨ i = 10 by omega) with rfl | rfl | rfl | rfl | rfl | rfl | rfl | rfl | rfl | rfl | rfl <;> rfl
theorem frA_cell {w : World} {F T : Nat} {x : Frm} (h : w.heap[F]? = some (.cells (frA x) T (0, 0))) (i : Nat) (hi : i ≤ 10) : w.cell? ⟨F, i, none⟩ = some (.int .i64 (getI x i)) := by
  have := frA_get x i hi
  simp only [World.cell?, h]
  simpa using this
theorem frA_fro {w : World} {F T : Nat} {x : Frm} (h : w.heap[F]? = some (.cells (frA x) T (0, 0))) (i : Nat) : w.frozen? ⟨F, i, none⟩ = false := by
  simp [World.frozen?, h]
theorem WrS.ownlt {base : Nat} {w : World} {B : Nat} {v : Value} {st : WSt} (h : WrS base w B v st) (k : Nat) (hk : v.ownBlock = some k) : k < w.heap.size := by
  by_cases he : st.e = 0
  · obtain ⟨l, p, o⟩ := h.own he
    rcases o.2 with hn | ⟨g, cap, cur, rfl, hb, hg, rest⟩
    · rw [hn.1] at hk; cases hk
    · cases hk; exact lt_of_blk hg
  · rw [h.nil he] at hk; cases hk
theorem WrS.ownge {base : Nat} {w : World} {B : Nat} {v : Value} {st : WSt} (h : WrS base w B v st) (k : Nat) (hk : v.ownBlock = some k) : base ≤ k := by
  by_cases he : st.e = 0
  · obtain ⟨l, p, o⟩ := h.own he
    rcases o.2 with hn | ⟨g, cap, cur, rfl, hb, hg, rest⟩
    · rw [hn.1] at hk; cases hk
    · cases hk; exact hb
  · rw [h.nil he] at hk; cases hk
def fooW (F B : Nat) (v : Value) : Nat → Prop := fun k => k = F ∨ k = B ∨ v.ownBlock = some k
structure LSw (base F B P : Nat) (w : World) (T : Nat → Prop) (x : Frm) (st : WSt) (v : Value) : Prop where
  wr : WrS base w B v st
  f : w.heap[F]? = some (.cells (frA x) 23 (0, 0))
  p : w.heap[P]? = some (.cells #[.pointer (some ⟨B, 0, none⟩)] 46 (0, 0))
  fb : F ≠ B
  pb : P ≠ B
  fp : F ≠ P
  vf : v.ownBlock ≠ some F
  vp : v.ownBlock ≠ some P
  r : FrR x
  t : T = fooW F B v
def macW (base F B P : Nat) : Mach WSt where
  F := F
  P := P
  g1 := 70
  g2 := 72
  g3 := 74
  g4 := 76
  LS := fun w T x st => ∃ v, LSw base F B P w T x st v
  u := fun wd n st => (n, wUnsigned wd n st)
  sg := fun wd n st => (n, wSigned wd n st)
  fl := fun b st => (b, wFlag b st)
  tx := fun m s st => (s, wText m s st)
theorem LSw.kept {base F B P : Nat} {w w' : World} {T : Nat → Prop} {x : Frm} {st : WSt} {v : Value} (h : LSw base F B P w T x st v) (hf : Fr no w w') : LSw base F B P w' T x st v :=
  ⟨h.wr.kept hf (fun h => h) (fun _ _ h => h), hf.blk h.f (fun h => h), hf.blk h.p (fun h => h), h.fb, h.pb, h.fp, h.vf, h.vp, h.r, h.t⟩
/-- A writer's step. -/
theorem LSw.step {base F B P : Nat} {w w' : World} {T : Nat → Prop} {x : Frm} {st st' : WSt} {v v' : Value} (h : LSw base F B P w T x st v) (hw : WrS base w' B v' st') (ha : Adv w w' B v v') : Stp (macW base F B P) w T w' x st' := by
  have hsub : ∀ k, foot B v k → T k := by
    intro k hk; rw [h.t]
    rcases hk with hk | hk
    · exact .inr (.inl hk)
    · exact .inr (.inr hk)
  have nF : ¬ foot B v F := by rintro (e | e); exact h.fb e; exact h.vf e
  have nP : ¬ foot B v P := by rintro (e | e); exact h.pb e; exact h.vp e
  refine ⟨fooW F B v', ⟨v', hw, ha.fr.blk h.f nF, ha.fr.blk h.p nP, h.fb, h.pb, h.fp, ?_, ?_, h.r, rfl⟩, ha.fr.mono (fun i _ hi => hsub i hi), ?_⟩
  · intro e
    rcases ha.row F e with e1 | e1
    · exact h.vf e1
    · have := lt_of_blk h.f; omega
  · intro e
    rcases ha.row P e with e1 | e1
    · exact h.vp e1
    · have := lt_of_blk h.p; omega
  · intro k hk hh
    rw [h.t]
    rcases hh with hh | hh | hh
    · exact .inl hh
    · exact .inr (.inl hh)
    · rcases ha.row k hh with e1 | e1
      · exact .inr (.inr e1)
      · omega
set_option maxHeartbeats 2000000 in
theorem wr1_any (base F B P : Nat) {w : World} {T : Nat → Prop} {x : Frm} {st : WSt} {v : Value} (h : LSw base F B P w T x st v) (i : Nat) (wd : Int) (hi : i ≤ 10) :
    Calls Try.prog 70 #[.int .i64 wd, .pointer (some ⟨F, i, none⟩), .pointer (some ⟨P, 0, none⟩)] w fun e w' => e = .returned (.tuple #[]) ∧ Stp (macW base F B P) w T w' x (wUnsigned wd (getI x i) st) := by
  have c0 := frA_cell h.f i hi
  have c1 : w.cell? ⟨P, 0, none⟩ = some (.pointer (some ⟨B, 0, none⟩)) := by simp [World.cell?, h.p]
  have hr := h.r.1 i hi
  have HH := Lib.hid (h.kept ((Fr.refl no w).drew))
  have HC := Lib.hid (unsigned_any base B v st wd (getI x i) w.drew hr.1 hr.2 HH.out.wr)
  clear hr h
  generalize getI x i = n at *
  go_enter Try.func70, Try.ntmps70
  go_wp2_with fail
  refine still_tail_d 5 Try.mixed (by kernel_rfl) ?_
  simp only [List.take_succ_cons, List.take_zero, List.drop_succ_cons, List.drop_zero]
  repeat still_step
  refine wpStill_nil ?_
  go_wp2_with fail
  refine HC.out.mono ?_
  rintro e w' ⟨rfl, v', hw, ha⟩
  have HE := Lib.hid (Stp.ofNo ((Fr.refl no w).drew) (HH.out.step hw ha))
  clear hw ha
  go_wp2_with fail
  go_end0
  exact ⟨rfl, HE.out⟩
set_option maxHeartbeats 2000000 in
theorem wr2_any (base F B P : Nat) {w : World} {T : Nat → Prop} {x : Frm} {st : WSt} {v : Value} (h : LSw base F B P w T x st v) (i : Nat) (wd : Int) (hi : i ≤ 10) :
    Calls Try.prog 72 #[.int .i64 wd, .pointer (some ⟨F, i, none⟩), .pointer (some ⟨P, 0, none⟩)] w fun e w' => e = .returned (.tuple #[]) ∧ Stp (macW base F B P) w T w' x (wSigned wd (getI x i) st) := by
  have c0 := frA_cell h.f i hi
  have c1 : w.cell? ⟨P, 0, none⟩ = some (.pointer (some ⟨B, 0, none⟩)) := by simp [World.cell?, h.p]
  have hr := h.r.1 i hi
  have HH := Lib.hid (h.kept ((Fr.refl no w).drew))
  have HC := Lib.hid (signed_any base B v st wd (getI x i) w.drew hr.1 hr.2 HH.out.wr)
  clear hr h
  generalize getI x i = n at *
  go_enter Try.func72, Try.ntmps72
  go_wp2_with fail
  refine still_tail_d 5 Try.mixed (by kernel_rfl) ?_
  simp only [List.take_succ_cons, List.take_zero, List.drop_succ_cons, List.drop_zero]
  repeat still_step
  refine wpStill_nil ?_
  go_wp2_with fail
  refine HC.out.mono ?_
  rintro e w' ⟨rfl, v', hw, ha⟩
  have HE := Lib.hid (Stp.ofNo ((Fr.refl no w).drew) (HH.out.step hw ha))
  clear hw ha
  go_wp2_with fail
  go_end0
  exact ⟨rfl, HE.out⟩
set_option maxHeartbeats 2000000 in
theorem wr3_any (base F B P : Nat) {w : World} {T : Nat → Prop} {x : Frm} {st : WSt} {v : Value} (h : LSw base F B P w T x st v) (b : Bool) :
    Calls Try.prog 74 #[.bool b, .pointer (some ⟨P, 0, none⟩)] w fun e w' => e = .returned (.bool b) ∧ Stp (macW base F B P) w T w' x (wFlag b st) := by
  have c1 : w.cell? ⟨P, 0, none⟩ = some (.pointer (some ⟨B, 0, none⟩)) := by simp [World.cell?, h.p]
  have HH := Lib.hid h
  have HC := Lib.hid (flag_any base B v st b w HH.out.wr)
  clear h
  go_enter Try.func74, Try.ntmps74
  go_wp2_with fail
  refine HC.out.mono ?_
  rintro e w' ⟨rfl, v', hw, ha⟩
  have HE := Lib.hid (HH.out.step hw ha)
  clear hw ha
  go_wp2_with fail
  go_ret
  exact ⟨rfl, HE.out⟩
set_option maxHeartbeats 2000000 in
theorem wr4_any (base F B P : Nat) {w : World} {T : Nat → Prop} {x : Frm} {st : WSt} {v : Value} (h : LSw base F B P w T x st v) :
    Calls Try.prog 76 #[.int .i64 127, .pointer (some ⟨F, 11, none⟩), .pointer (some ⟨P, 0, none⟩)] w fun e w' => e = .returned (.tuple #[]) ∧ Stp (macW base F B P) w T w' x (wText 127 x.d st) := by
  have c0 : w.cell? ⟨F, 11, none⟩ = some (.string x.d) := (twelve_cells h.f).2.2.2.2.2.2.2.2.2.2.2
  have c1 : w.cell? ⟨P, 0, none⟩ = some (.pointer (some ⟨B, 0, none⟩)) := by simp [World.cell?, h.p]
  have hr := h.r.2
  have HH := Lib.hid (h.kept ((Fr.refl no w).drew))
  have HC := Lib.hid (text_any base B v st 127 x.d w.drew (by decide) hr HH.out.wr)
  clear hr h
  go_enter Try.func76, Try.ntmps76
  go_wp2_with fail
  refine still_tail_d 5 Try.mixed (by kernel_rfl) ?_
  simp only [List.take_succ_cons, List.take_zero, List.drop_succ_cons, List.drop_zero]
  repeat still_step
  refine wpStill_nil ?_
  go_wp2_with fail
  refine HC.out.mono ?_
  rintro e w' ⟨rfl, v', hw, ha⟩
  have HE := Lib.hid (Stp.ofNo ((Fr.refl no w).drew) (HH.out.step hw ha))
  clear hw ha
  go_wp2_with fail
  go_end0
  exact ⟨rfl, HE.out⟩
theorem macW_ok (base F B P : Nat) : (macW base F B P).Ok where
  e1 := enter70
  e2 := enter72
  e3 := enter74
  e4 := enter76
  bnd := by
    rintro w T x st ⟨v, h⟩ k hk
    rw [h.t] at hk
    rcases hk with rfl | rfl | hk
    · exact lt_of_blk h.f
    · exact lt_of_blk h.wr.blk
    · exact h.wr.ownlt k hk
  blk := by rintro w T x st ⟨v, h⟩; exact h.f
  hF := by rintro w T x st ⟨v, h⟩; rw [h.t]; exact .inl rfl
  kept := by rintro w w' T x st ⟨v, h⟩ hf; exact ⟨v, h.kept hf⟩
  setT := by
    rintro w T x st ⟨v, h⟩
    refine ⟨v, ?_, ?_, other_set h.p _ (Ne.symm h.fp), h.fb, h.pb, h.fp, h.vf, h.vp, ?_, h.t⟩
    · refine h.wr.kept (S := fun k => k = F) ((Fr.refl (fun k => k = F) w).setCell (p := ⟨F, 2, none⟩) (.inl rfl) _) (fun e => h.fb e.symm) ?_
      rintro k hk rfl; exact h.vf hk
    · have := three_set h.f 2 (.int .i64 (-1))
      rw [frA_set x 2 (by decide)] at this
      exact this
    · refine ⟨fun i hi => ?_, h.r.2⟩
      have := h.r.1 i hi
      rcases (show i = 0 ∨ i = 1 ∨ i = 2 ∨ i = 3 ∨ i = 4 ∨ i = 5 ∨ i = 6 ∨ i = 7 ∨ i = 8 ∨ i = 9 ∨ i = 10 by omega) with rfl | rfl | rfl | rfl | rfl | rfl | rfl | rfl | rfl | rfl | rfl
      all_goals first | exact this | (show (-9223372036854775808 : Int) ≤ -1 ∧ (-1 : Int) ≤ 9223372036854775807; decide)
  cU := by
    rintro w T x st ⟨v, h⟩ i wd hi
    have := wr1_any base F B P h i wd hi
    simp only [macW, setI_getI x i hi]
    exact this
  cS := by
    rintro w T x st ⟨v, h⟩ i wd hi
    have := wr2_any base F B P h i wd hi
    simp only [macW, setI_getI x i hi]
    exact this
  cF := by
    rintro w T x st ⟨v, h⟩ b
    exact wr3_any base F B P h b
  cT := by
    rintro w T x st ⟨v, h⟩
    exact wr4_any base F B P h
end Go.Proofs.Ytelpdihaonoedaa
