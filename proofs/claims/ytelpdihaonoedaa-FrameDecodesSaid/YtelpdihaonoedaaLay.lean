/- Layouts: one walk for writing and reading. -/
import Derived.Test.YtelpdihaonoedaaVal
import Derived.Test.YtelpdihaonoedaaKin
import Derived.StillTailTactics
import Derived.Deep.RegionHeld3
import Derived.Test.YtelpdihaonoedaaUns
namespace Go.Proofs.Ytelpdihaonoedaa
open Go.RowKit
set_option linter.unusedVariables false
set_option maxRecDepth 20000

def getI (x : Frm) : Nat → Int
  | 0 => x.k | 1 => x.s | 2 => x.t | 3 => x.l | 4 => x.q | 5 => x.f | 6 => x.n | 7 => x.e | 8 => x.sl | 9 => x.r | _ => x.ep
def setI (x : Frm) (i : Nat) (v : Int) : Frm :=
  match i with
  | 0 => { x with k := v } | 1 => { x with s := v } | 2 => { x with t := v } | 3 => { x with l := v } | 4 => { x with q := v } | 5 => { x with f := v } | 6 => { x with n := v } | 7 => { x with e := v } | 8 => { x with sl := v } | 9 => { x with r := v } | _ => { x with ep := v }
/-- What writes or reads a frame: the block of the frame, the box that its closures capture, its closures, its states. -/
structure Mach (α : Type) where
  F : Nat
  P : Nat
  g1 : Nat
  g2 : Nat
  g3 : Nat
  g4 : Nat
  LS : World → (Nat → Prop) → Frm → α → Prop
  u : Int → Int → α → Int × α
  sg : Int → Int → α → Int × α
  fl : Bool → α → Bool × α
  tx : Int → ByteArray → α → ByteArray × α
variable {α : Type}
/-- One step: from w to w'. -/
def Stp (M : Mach α) (w : World) (T : Nat → Prop) (w' : World) (x : Frm) (st : α) : Prop :=
  ∃ T' : Nat → Prop, M.LS w' T' x st ∧ Fr T w w' ∧ ∀ k, k < w.heap.size → T' k → T k
structure Mach.Ok (M : Mach α) : Prop where
  e1 : ∀ args w, (callFunc M.g1 args).run Try.prog w = .ok (.enter M.g1 args) w
  e2 : ∀ args w, (callFunc M.g2 args).run Try.prog w = .ok (.enter M.g2 args) w
  e3 : ∀ args w, (callFunc M.g3 args).run Try.prog w = .ok (.enter M.g3 args) w
  e4 : ∀ args w, (callFunc M.g4 args).run Try.prog w = .ok (.enter M.g4 args) w
  bnd : ∀ {w T x st}, M.LS w T x st → ∀ k, T k → k < w.heap.size
  blk : ∀ {w T x st}, M.LS w T x st → w.heap[M.F]? = some (.cells (frA x) 23 (0, 0))
  hF : ∀ {w T x st}, M.LS w T x st → T M.F
  kept : ∀ {w w' T x st}, M.LS w T x st → Fr no w w' → M.LS w' T x st
  setT : ∀ {w T x st}, M.LS w T x st → M.LS (w.setCell ⟨M.F, 2, none⟩ (.int .i64 (-1))) T (setI x 2 (-1)) st
  cU : ∀ {w T x st}, M.LS w T x st → ∀ (i : Nat) (wd : Int), i ≤ 10 → Calls Try.prog M.g1 #[.int .i64 wd, .pointer (some ⟨M.F, i, none⟩), .pointer (some ⟨M.P, 0, none⟩)] w fun e w' => e = .returned (.tuple #[]) ∧ Stp M w T w' (setI x i (M.u wd (getI x i) st).1) (M.u wd (getI x i) st).2
  cS : ∀ {w T x st}, M.LS w T x st → ∀ (i : Nat) (wd : Int), i ≤ 10 → Calls Try.prog M.g2 #[.int .i64 wd, .pointer (some ⟨M.F, i, none⟩), .pointer (some ⟨M.P, 0, none⟩)] w fun e w' => e = .returned (.tuple #[]) ∧ Stp M w T w' (setI x i (M.sg wd (getI x i) st).1) (M.sg wd (getI x i) st).2
  cF : ∀ {w T x st}, M.LS w T x st → ∀ b : Bool, Calls Try.prog M.g3 #[.bool b, .pointer (some ⟨M.P, 0, none⟩)] w fun e w' => e = .returned (.bool (M.fl b st).1) ∧ Stp M w T w' x (M.fl b st).2
  cT : ∀ {w T x st}, M.LS w T x st → Calls Try.prog M.g4 #[.int .i64 127, .pointer (some ⟨M.F, 11, none⟩), .pointer (some ⟨M.P, 0, none⟩)] w fun e w' => e = .returned (.tuple #[]) ∧ Stp M w T w' { x with d := (M.tx 127 x.d st).1 } (M.tx 127 x.d st).2
def layA (M : Mach α) : Array Value := #[.pointer (some ⟨M.F, 0, none⟩), .func (.func M.g1) #[] #[.pointer (some ⟨M.P, 0, none⟩)], .func (.func M.g2) #[] #[.pointer (some ⟨M.P, 0, none⟩)], .func (.func M.g3) #[] #[.pointer (some ⟨M.P, 0, none⟩)], .func (.func M.g4) #[] #[.pointer (some ⟨M.P, 0, none⟩)]]
/-- What the methods do. -/
def intF (M : Mach α) (i : Nat) (wd : Int) (p : Frm × α) : Frm × α := (setI p.1 i (M.u wd (getI p.1 i) p.2).1, (M.u wd (getI p.1 i) p.2).2)
def sgnF (M : Mach α) (i : Nat) (wd : Int) (p : Frm × α) : Frm × α := (setI p.1 i (M.sg wd (getI p.1 i) p.2).1, (M.sg wd (getI p.1 i) p.2).2)
def txtF (M : Mach α) (p : Frm × α) : Frm × α := ({ p.1 with d := (M.tx 127 p.1.d p.2).1 }, (M.tx 127 p.1.d p.2).2)
def tgtF (M : Mach α) (p : Frm × α) : Frm × α :=
  if (M.fl (p.1.t != -1) p.2).1 then intF M 2 5 (p.1, (M.fl (p.1.t != -1) p.2).2) else (setI p.1 2 (-1), (M.fl (p.1.t != -1) p.2).2)
def datF (M : Mach α) (p : Frm × α) : Frm × α := txtF M (intF M 6 16 (intF M 5 8 p))
def beaF (M : Mach α) (p : Frm × α) : Frm × α := txtF M (intF M 10 16 (intF M 9 16 (intF M 8 27 p)))
def hdF (M : Mach α) (p : Frm × α) : Frm × α := intF M 4 8 (intF M 3 8 (tgtF M (intF M 1 5 (intF M 0 3 p))))
def kndF (M : Mach α) (p : Frm × α) : Frm × α :=
  if p.1.k = 1 then datF M p else if p.1.k = 2 then sgnF M 7 16 p else if p.1.k = 3 then beaF M p else if p.1.k = 4 then txtF M p else p
def allF (M : Mach α) (p : Frm × α) : Frm × α := kndF M (hdF M p)
theorem five_cells {w : World} {B T : Nat} {a b c d e : Value} (h : w.heap[B]? = some (.cells #[a, b, c, d, e] T (0, 0))) :
    w.cell? ⟨B, 0, none⟩ = some a ∧ w.cell? ⟨B, 1, none⟩ = some b ∧ w.cell? ⟨B, 2, none⟩ = some c ∧ w.cell? ⟨B, 3, none⟩ = some d ∧ w.cell? ⟨B, 4, none⟩ = some e := by
  simp [World.cell?, h]
/-- A step keeps a box that it may not change. -/
theorem Stp.keep {M : Mach α} {w w' : World} {T : Nat → Prop} {x : Frm} {st : α} (h : Stp M w T w' x st) {L : Nat} {o : Obj} (hL : w.heap[L]? = some o) (hT : ¬ T L) :
    ∃ T' : Nat → Prop, M.LS w' T' x st ∧ Fr T w w' ∧ (∀ k, k < w.heap.size → T' k → T k) ∧ w'.heap[L]? = some o ∧ ¬ T' L := by
  obtain ⟨T', h1, h2, h3⟩ := h
  exact ⟨T', h1, h2, h3, h2.blk hL hT, fun hh => hT (h3 L (lt_of_blk hL) hh)⟩
theorem Stp.trans {M : Mach α} {w w1 w2 : World} {T T1 : Nat → Prop} {x : Frm} {st : α} (f : Fr T w w1) (n : ∀ k, k < w.heap.size → T1 k → T k) (h : Stp M w1 T1 w2 x st) : Stp M w T w2 x st := by
  obtain ⟨T2, l2, f2, n2⟩ := h
  exact ⟨T2, l2, f.trans f2 (fun i hi hs => n i hi hs), fun k hk hh => n k hk (n2 k (Nat.lt_of_lt_of_le hk f.size) hh)⟩
theorem Stp.ofNo {M : Mach α} {w w1 w2 : World} {T : Nat → Prop} {x : Frm} {st : α} (f : Fr no w w1) (h : Stp M w1 T w2 x st) : Stp M w T w2 x st :=
  h.trans (f.mono (fun _ _ hh => hh.elim)) (fun _ _ hh => hh)
set_option maxHeartbeats 4000000 in
theorem message_any (M : Mach α) (ok : M.Ok) {w : World} {T : Nat → Prop} {x : Frm} {st : α} (h : M.LS w T x st) :
    Calls Try.prog 121 #[.agg (layA M)] w fun e w' => e = .returned (.tuple #[]) ∧ Stp M w T w' (txtF M (x, st)).1 (txtF M (x, st)).2 := by
  obtain ⟨W, hW⟩ : ∃ W, W = w.alloc (.cells (layA M) 53 (0, 0)) := ⟨_, rfl⟩
  have hF : Fr no w W := by rw [hW]; exact (Fr.refl no w).alloc _
  have hB : W.heap[w.heap.size]? = some (.cells (layA M) 53 (0, 0)) := by rw [hW]; exact heap_alloc_new w _
  have HL := Lib.hid (ok.kept (ok.kept h hF) ((Fr.refl no W).drew))
  obtain ⟨c0, c1, c2, c3, c4⟩ := five_cells hB
  have HF := Lib.hid hF.drew
  have HC := Lib.hid (ok.cT HL.out)
  have e4 := ok.e4
  have HW := Lib.hid hW
  have HR := Lib.hid (show txtF M (x, st) = ({ x with d := (M.tx 127 x.d st).1 }, (M.tx 127 x.d st).2) from rfl)
  clear h hF hB hW ok
  simp only [layA] at HW ⊢
  obtain ⟨F, P, g1, g2, g3, g4, LS, u, sg, fl, tx⟩ := M
  simp only at c0 c1 c2 c3 c4 e4 HW HC ⊢
  go_enter Try.func121, Try.ntmps121
  go_wp2_with fail
  rw [← HW.out]
  refine still_tail_d 6 Try.mixed (by kernel_rfl) ?_
  simp only [List.take_succ_cons, List.take_zero, List.drop_succ_cons, List.drop_zero]
  repeat still_step
  refine wpStill_nil ?_
  go_wp2_with fail
  refine HC.out.mono ?_
  rintro e w' ⟨rfl, hs⟩
  have HS := Lib.hid hs
  clear hs
  go_wp2_with fail
  go_end0
  rw [HR.out]
  exact ⟨rfl, Stp.ofNo HF.out HS.out⟩
end Go.Proofs.Ytelpdihaonoedaa
