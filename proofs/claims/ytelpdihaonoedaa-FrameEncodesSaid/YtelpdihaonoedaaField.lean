/- '(*Writer).field', Unsigned, Signed, Flag. -/
import Derived.Test.YtelpdihaonoedaaEach
import Derived.Test.YtelpdihaonoedaaChecks
import Derived.StillTailTactics
namespace Go.Proofs.Ytelpdihaonoedaa
open Go.RowKit

/-- A writer's state: the bits that it has written, and its first error. -/
structure WSt where
  bs : List Bool
  e : Int

structure WrS (base : Nat) (w : World) (B : Nat) (v : Value) (st : WSt) : Prop where
  blk : w.heap[B]? = some (.cells #[v, .int .i64 st.bs.length, .int .i64 st.e] 90 (0, 0))
  hB : base ≤ B
  own : st.e = 0 → ∃ l : List Nat, Packs l st.bs ∧ w.ownsRow base 5 1 v l.length (bytesV l)
  ne : v.ownBlock ≠ some B
  nil : st.e ≠ 0 → v = .slice none 0 0
  le : st.bs.length ≤ 524288

theorem WrS.good {base : Nat} {w : World} {B : Nat} {v : Value} {bs : List Bool} (h : WrS base w B v ⟨bs, 0⟩) : Wr base w B v bs := ⟨h.blk, h.hB, h.own rfl, h.ne⟩
theorem Wr.st {base : Nat} {w : World} {B : Nat} {v : Value} {bs : List Bool} (h : Wr base w B v bs) (hl : bs.length ≤ 524288) : WrS base w B v ⟨bs, 0⟩ := ⟨h.blk, h.hB, fun _ => h.own, h.ne, fun e => absurd rfl e, hl⟩
theorem WrS.kept {base : Nat} {w w' : World} {B : Nat} {v : Value} {st : WSt} {S : Nat → Prop} (h : WrS base w B v st) (hf : Fr S w w') (h1 : ¬ S B) (h2 : ∀ k, v.ownBlock = some k → ¬ S k) : WrS base w' B v st := by
  refine ⟨hf.blk h.blk h1, h.hB, fun e => ?_, h.ne, h.nil, h.le⟩
  obtain ⟨l, p, o⟩ := h.own e
  refine ⟨l, p, o.1, ?_⟩
  rcases o.2 with hn | ⟨g, cap, cur, rfl, hb, hg, rest⟩
  · exact .inl hn
  · exact .inr ⟨g, cap, cur, rfl, hb, hf.blk hg (h2 g rfl), rest⟩
theorem WrS.alloc {base : Nat} {w : World} {B : Nat} {v : Value} {st : WSt} (h : WrS base w B v st) (o : Obj) : WrS base (w.alloc o) B v st :=
  h.kept ((Fr.refl (fun _ => False) w).alloc o) (fun h => h) (fun _ _ h => h)
theorem WrS.drew {base : Nat} {w : World} {B : Nat} {v : Value} {st : WSt} (h : WrS base w B v st) : WrS base w.drew B v st := ⟨h.blk, h.hB, h.own, h.ne, h.nil, h.le⟩

/-- What a field does with a writer's state. -/
def wField (err size : Int) (new : List Bool) (st : WSt) : WSt :=
  if st.e ≠ 0 then st else if err ≠ 0 then ⟨st.bs, err⟩ else if size > 524288 - st.bs.length then ⟨st.bs, 8⟩ else ⟨st.bs ++ new, 0⟩

theorem field_dead (base B : Nat) (v : Value) (bs : List Bool) (e err size : Int) (F : Value) (w : World) (he : (e != 0) = true) (h : WrS base w B v ⟨bs, e⟩) :
    Calls Try.prog 107 #[.pointer (some ⟨B, 0, none⟩), .int .i64 err, .int .i64 size, F] w fun x w' => x = .returned (.tuple #[]) ∧ w' = w := by
  obtain ⟨h0, h1, h2, f0, f1, f2⟩ := three_cells h.blk
  clear h
  go_enter Try.func107, Try.ntmps107
  go_wp2
  exact ret_none rfl rfl ⟨rfl, rfl⟩

theorem wrs_fail {base B : Nat} {v : Value} {bs : List Bool} {e : Int} {w : World} (h : WrS base w B v ⟨bs, 0⟩) (he : e ≠ 0) {w' : World} (hw : w' = (w.setCell ⟨B, 0, none⟩ (.slice none 0 0)).setCell ⟨B, 2, none⟩ (.int .i64 e)) :
    ∃ v', WrS base w' B v' ⟨bs, e⟩ ∧ Adv w w' B v v' := by
  subst hw
  refine ⟨.slice none 0 0, ⟨?_, h.hB, fun e' => absurd e' he, by simp [Value.ownBlock], fun _ => rfl, h.le⟩, ⟨?_, by simp [Value.ownBlock]⟩⟩
  · rw [three_set (three_set h.blk 0 _) 2 _]
    simp
  · exact ((Fr.refl (foot B v) w).setCell (.inl (.inl rfl)) _).setCell (.inl (.inl rfl)) _

set_option maxHeartbeats 400000 in
theorem field_err (base B : Nat) (v : Value) (bs : List Bool) (err size : Int) (F : Value) (w : World) (he : (err != 0) = true) (h : WrS base w B v ⟨bs, 0⟩) :
    Calls Try.prog 107 #[.pointer (some ⟨B, 0, none⟩), .int .i64 err, .int .i64 size, F] w fun x w' => x = .returned (.tuple #[]) ∧ ∃ v', WrS base w' B v' ⟨bs, err⟩ ∧ Adv w w' B v v' := by
  obtain ⟨h0, h1, h2, f0, f1, f2⟩ := three_cells h.blk
  have H := Lib.hid h
  have he2 : (err == 0) = false := by simpa using he
  clear h
  go_enter Try.func107, Try.ntmps107
  go_wp2
  exact ret_none rfl rfl ⟨rfl, wrs_fail H.out (by simpa using he) rfl⟩

set_option maxHeartbeats 400000 in
theorem field_full (base B : Nat) (v : Value) (bs : List Bool) (size : Int) (F : Value) (w : World) (hs : 524288 - (bs.length : Int) < size) (h : WrS base w B v ⟨bs, 0⟩) :
    Calls Try.prog 107 #[.pointer (some ⟨B, 0, none⟩), .int .i64 0, .int .i64 size, F] w fun x w' => x = .returned (.tuple #[]) ∧ ∃ v', WrS base w' B v' ⟨bs, 8⟩ ∧ Adv w w' B v v' := by
  obtain ⟨h0, h1, h2, f0, f1, f2⟩ := three_cells h.blk
  have H := Lib.hid h
  have hle := h.le
  simp only at hle
  clear h
  go_enter Try.func107, Try.ntmps107
  go_wp2
  exact ret_none rfl rfl ⟨rfl, wrs_fail H.out (by decide) rfl⟩

set_option maxHeartbeats 400000 in
theorem field_ok (base B : Nat) (v : Value) (bs : List Bool) (size : Int) (f : Nat) (cs : Array Value) (w : World) (hs : ¬ 524288 - (bs.length : Int) < size) (h : WrS base w B v ⟨bs, 0⟩)
    (hf : ∀ w, Sem.run Try.prog (callFunc f cs) w = .ok (.enter f cs) w) {R : Ending → World → Prop} (hc : Calls Try.prog f cs w fun x w' => x = .returned (.tuple #[]) ∧ R x w') :
    Calls Try.prog 107 #[.pointer (some ⟨B, 0, none⟩), .int .i64 0, .int .i64 size, .func (.func f) #[] cs] w fun x w' => x = .returned (.tuple #[]) ∧ R x w' := by
  obtain ⟨h0, h1, h2, f0, f1, f2⟩ := three_cells h.blk
  have hle := h.le
  simp only at hle
  have HC := Lib.hid hc
  clear h hc
  go_enter Try.func107, Try.ntmps107
  go_wp2_with fail
  refine HC.out.mono ?_
  rintro e w' ⟨rfl, hr⟩
  have HR := Lib.hid hr
  clear hr
  go_wp2_with fail
  go_end0
  exact ⟨rfl, HR.out⟩
end Go.Proofs.Ytelpdihaonoedaa
