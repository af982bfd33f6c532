/- Unfaded. -/
import Derived.Test.YtdenlinehjigaaaFac
namespace Go.Proofs.Ytdenlinehjigaaa
open Go.RowKit
set_option linter.unusedVariables false

/-- A site in memory. -/
structure StIn (w : World) (n0 : Option Addr) (m0 : Nat) (n1 : Option Addr) (m1 : Nat) (n2 : Option Addr) (m2 : Nat) (ps : List Pt) (zs : List Int) (ws : List Wl) : Prop where
  p : PtsIn w n0 m0 ps
  z : IntsIn w n1 m1 zs
  v : WlsIn w n2 m2 ws
theorem StIn.kept {w w' : World} {n0 : Option Addr} {m0 : Nat} {n1 : Option Addr} {m1 : Nat} {n2 : Option Addr} {m2 : Nat} {ps : List Pt} {zs : List Int} {ws : List Wl} (h : StIn w n0 m0 n1 m1 n2 m2 ps zs ws) (hf : Fr no w w') : StIn w' n0 m0 n1 m1 n2 m2 ps zs ws := ⟨h.p.kept hf, h.z.kept hf, h.v.kept hf⟩
/-- A site and a spectrum, boxed. -/
structure Bx2 (w W : World) (S X : Obj) : Prop where
  f : Fr no w W
  s : W.heap[w.heap.size]? = some S
  x : W.heap[w.heap.size + 1]? = some X
theorem box2 (w : World) (S X : Obj) : Bx2 w ((w.alloc S).alloc X) S X :=
  ⟨((Fr.refl no w).alloc _).alloc _, alloc_keeps (heap_alloc_new w S) _, by simpa using heap_alloc_new (w.alloc S) X⟩
theorem Bx2.kept {w W W' : World} {S X : Obj} (h : Bx2 w W S X) (k : Fr no W W') : Bx2 w W' S X := ⟨h.f.noTrans k, k.blk h.s (fun h => h), k.blk h.x (fun h => h)⟩
theorem six_cellsS {w : World} {B T : Nat} {a b c d e f : Value} (h : w.heap[B]? = some (.cells #[a, b, c, d, e, f] T (0, 0))) :
    w.cell? ⟨B, 0, none⟩ = some a ∧ w.cell? ⟨B, 1, none⟩ = some b ∧ w.cell? ⟨B, 2, none⟩ = some c ∧ w.cell? ⟨B, 3, none⟩ = some d ∧ w.cell? ⟨B, 4, none⟩ = some e ∧ w.cell? ⟨B, 5, none⟩ = some f := six_cellsP h
def unV (CS CB : Bool) (m0 : Nat) (e : Int) (ps : List Pt) (zs : List Int) (ws : List Wl) (a b : Int) : Int := if CS then bwV CB m0 e ps zs ws a b else 0
def unE (CS CB : Bool) (m0 : Nat) (a b : Int) : Int := if CS then bwE CB m0 a b else 1
theorem unE_0 {CS CB : Bool} {m0 : Nat} {a b : Int} (h : unE CS CB m0 a b = 0) : CS = true ∧ CB = true ∧ hnB m0 a = true ∧ hnB m0 b = true := by
  unfold unE bwE bwB at h
  cases CS <;> cases CB <;> cases h1 : hnB m0 a <;> cases h2 : hnB m0 b <;> simp [h1, h2] at h ⊢
theorem lsS_bd (p : Fd → Bool) (fs : List Fd) (m : Int) (h : fs.all fdB = true) (m0 : 0 ≤ m) (m1 : m ≤ 1000) : 0 ≤ fs.foldl (lsS p) m ∧ fs.foldl (lsS p) m ≤ 1000 := by
  induction fs generalizing m with
  | nil => exact ⟨m0, m1⟩
  | cons f fs ih =>
    simp only [List.all_cons, Bool.and_eq_true] at h
    have hf : 0 ≤ f.fa ∧ f.fa ≤ 1000 := by
      have := h.1
      simp only [fdB, Bool.and_eq_true] at this
      exact inR_t.1 this.2
    rw [List.foldl_cons]
    refine ih _ h.2 ?_ ?_ <;> unfold lsS <;> split <;> (try split) <;> omega
theorem lsF_bd (p : Fd → Bool) (fs : List Fd) (h : fs.all fdB = true) : 0 ≤ lsF p fs ∧ lsF p fs ≤ 1000 := lsS_bd p fs 1000 h (by omega) (by omega)
theorem unV_bd {m0 m1 m2 l0 l1 : Nat} {e o th : Int} {ps : List Pt} {zs : List Int} {ws : List Wl} {ss : List Src} {fs : List Fd} {a b : Int} (hz : zs.length = m1) (h : unE (ckS l0 l1 ss fs) (ckB m0 m1 m2 e o th ps zs ws) m0 a b = 0) : 0 ≤ unV (ckS l0 l1 ss fs) (ckB m0 m1 m2 e o th ps zs ws) m0 e ps zs ws a b ∧ unV (ckS l0 l1 ss fs) (ckB m0 m1 m2 e o th ps zs ws) m0 e ps zs ws a b ≤ MX := by
  obtain ⟨h1, h2, h3, h4⟩ := unE_0 h
  have G := ckB_t h2
  obtain ⟨x0, x1⟩ := hnB_t h3
  have hv : unV (ckS l0 l1 ss fs) (ckB m0 m1 m2 e o th ps zs ws) m0 e ps zs ws a b = btF e ps zs ws a b := by simp [unV, bwV, bwB, h1, h2, h3, h4]
  rw [hv]
  exact btF_bound e ps zs ws a b G.zs (by have := G.n2; omega)
set_option maxHeartbeats 4000000 in
theorem unfaded_any (n0 : Option Addr) (m0 h0 : Nat) (n1 : Option Addr) (m1 h1 : Nat) (n2 : Option Addr) (m2 h2 : Nat) (e o th : Int) (ps : List Pt) (zs : List Int) (ws : List Wl) (a0 : Option Addr) (l0 k0 : Nat) (a1 : Option Addr) (l1 k1 : Nat) (ss : List Src) (fs : List Fd) (a b : Int) (w : World) (hst : StIn w n0 m0 n1 m1 n2 m2 ps zs ws) (hsp : SpIn w a0 l0 a1 l1 ss fs) :
    Calls Try.prog 98 #[.agg #[.slice n0 m0 h0, .slice n1 m1 h1, .slice n2 m2 h2, .int .i64 e, .int .i64 o, .int .i64 th], .agg #[.slice a0 l0 k0, .slice a1 l1 k1], .int .i64 a, .int .i64 b] w fun e' w' => e' = .returned (.tuple #[.int .i64 (unV (ckS l0 l1 ss fs) (ckB m0 m1 m2 e o th ps zs ws) m0 e ps zs ws a b), .int .i64 (unE (ckS l0 l1 ss fs) (ckB m0 m1 m2 e o th ps zs ws) m0 a b)]) ∧ Fr no w w' := by
  have hB := box2 w (.cells #[.slice n0 m0 h0, .slice n1 m1 h1, .slice n2 m2 h2, .int .i64 e, .int .i64 o, .int .i64 th] 26 (0, 0)) (.cells #[.slice a0 l0 k0, .slice a1 l1 k1] 47 (0, 0))
  obtain ⟨W, hW⟩ : ∃ W, W = (w.alloc (.cells #[.slice n0 m0 h0, .slice n1 m1 h1, .slice n2 m2 h2, .int .i64 e, .int .i64 o, .int .i64 th] 26 (0, 0))).alloc (.cells #[.slice a0 l0 k0, .slice a1 l1 k1] 47 (0, 0)) := ⟨_, rfl⟩
  rw [← hW] at hB
  have HST := Lib.hid (hst.kept hB.f)
  have HSP := Lib.hid (hsp.kept hB.f)
  obtain ⟨c0, c1⟩ := two_cells hB.x
  have HB := Lib.hid hB
  have HW := Lib.hid hW
  have HC := checkS_any a0 l0 k0 a1 l1 k1 ss fs W HSP.out.s HSP.out.f HSP.out.c
  have HV := Lib.hid (show unV (ckS l0 l1 ss fs) (ckB m0 m1 m2 e o th ps zs ws) m0 e ps zs ws a b = if (ckS l0 l1 ss fs) then bwV (ckB m0 m1 m2 e o th ps zs ws) m0 e ps zs ws a b else 0 from rfl)
  have HE := Lib.hid (show unE (ckS l0 l1 ss fs) (ckB m0 m1 m2 e o th ps zs ws) m0 a b = if (ckS l0 l1 ss fs) then bwE (ckB m0 m1 m2 e o th ps zs ws) m0 a b else 1 from rfl)
  clear hst hsp hB hW
  generalize ckS l0 l1 ss fs = CS at *
  cases CS
  · have HC := Lib.hid HC
    go_enter Try.func98, Try.ntmps98
    go_wp2_with fail
    rw [← HW.out]
    refine HC.out.mono ?_
    rintro e w1 ⟨rfl, f1⟩
    have HF1 := Lib.hid (HB.out.f.noTrans f1)
    clear f1
    go_wp2_with fail
    go_ret2
    rw [HV.out, HE.out]
    exact ⟨rfl, HF1.out⟩
  · have HC := Lib.hid HC
    go_enter Try.func98, Try.ntmps98
    go_wp2_with fail
    rw [← HW.out]
    refine HC.out.mono ?_
    rintro e w1 ⟨rfl, f1⟩
    obtain ⟨d0, d1, d2, d3, d4, d5⟩ := six_cellsS (HB.out.kept f1).s
    have HBW := Lib.hid (betweenW_any n0 m0 h0 n1 m1 h1 n2 m2 h2 e o th ps zs ws a b w1 (HST.out.kept f1).p (HST.out.kept f1).z (HST.out.kept f1).v)
    have HF1 := Lib.hid (HB.out.f.noTrans f1)
    clear f1
    go_wp2_with fail
    refine HBW.out.mono ?_
    rintro e w2 ⟨rfl, f2⟩
    have HF2 := Lib.hid (HF1.out.noTrans f2)
    clear f2
    go_wp2_with fail
    go_ret2
    rw [HV.out, HE.out]
    exact ⟨rfl, HF2.out⟩
def chT (c t : Int) : Bool := inR c 0 15 && inR t 0 1099511627776
def sgV (CS CB : Bool) (m0 : Nat) (e : Int) (ps : List Pt) (zs : List Int) (ws : List Wl) (a b c t : Int) (fs : List Fd) : Int := if unE CS CB m0 a b = 0 ∧ chT c t = true then unV CS CB m0 e ps zs ws a b * ftF a b c t fs / 1000 else 0
def sgE (CS CB : Bool) (m0 : Nat) (a b c t : Int) : Int := if unE CS CB m0 a b = 0 then (if chT c t then 0 else 2) else unE CS CB m0 a b
def wsV (CS CB : Bool) (m0 : Nat) (e : Int) (ps : List Pt) (zs : List Int) (ws : List Wl) (a b : Int) (fs : List Fd) : Int := if unE CS CB m0 a b = 0 then unV CS CB m0 e ps zs ws a b * wtF a b fs / 1000 else 0
theorem sc_ok {p f : Int} (h0 : 0 ≤ p ∧ p ≤ MX) (h1 : 0 ≤ f ∧ f ≤ 1000) : scV p f = p * f / 1000 ∧ scE p f = 0 := by
  have a1 : isP p = true := isP_t.2 h0
  have a2 : inR f 0 1000 = true := inR_t.2 h1
  simp [scV, scE, a1, a2]
end Go.Proofs.Ytdenlinehjigaaa
