/- What was written is read. -/
import Derived.Test.YtelpdihaonoedaaLw1
import Derived.Test.YtelpdihaonoedaaDed
namespace Go.Proofs.Ytelpdihaonoedaa
open Go.RowKit
set_option linter.unusedVariables false
set_option maxRecDepth 20000

def fU (w n : Int) : Fld := ⟨0, w, n, ByteArray.empty⟩
def fS (w n : Int) : Fld := ⟨1, w, n, ByteArray.empty⟩
def fB (b : Bool) : Fld := ⟨2, 0, if b then 1 else 0, ByteArray.empty⟩
def fT (d : ByteArray) : Fld := ⟨3, 127, 0, d⟩
def fl (l : List Fld) (k : Nat) : Fld := l.getD k ⟨9, 0, 0, ByteArray.empty⟩
section
variable {fs : Nat → Fld} {m : Nat} {s : ByteArray}
theorem stU (h : (bIter fs m).e = 0) (hs : s = wBytes (bIter fs m)) (k : Nat) (hk : k < m) {wd n : Int} (hf : fs k = fU wd n) : rUnsigned wd ⟨s, (bIter fs k).bs.length, 0⟩ = (n, ⟨s, (bIter fs (k + 1)).bs.length, 0⟩) := by
  obtain ⟨x, hx, hm⟩ := (back_step fs m k hk h s hs).2 (by rw [hf]; show (0 : Int) ≤ 0; decide) (by rw [hf]; show (0 : Int) ≤ 3; decide)
  rw [hf] at hx hm
  have e : rRead (fU wd n) ⟨s, (bIter fs k).bs.length, 0⟩ = (⟨0, wd, (rUnsigned wd ⟨s, (bIter fs k).bs.length, 0⟩).1, ByteArray.empty⟩, (rUnsigned wd ⟨s, (bIter fs k).bs.length, 0⟩).2) := rfl
  rw [e] at hx
  injection hx with h1 h2
  have h3 := hm.1 (by show (0 : Int) ≤ 1; decide)
  rw [← h1] at h3
  exact Prod.ext h3 h2
theorem stS (h : (bIter fs m).e = 0) (hs : s = wBytes (bIter fs m)) (k : Nat) (hk : k < m) {wd n : Int} (hf : fs k = fS wd n) : rSigned wd ⟨s, (bIter fs k).bs.length, 0⟩ = (n, ⟨s, (bIter fs (k + 1)).bs.length, 0⟩) := by
  obtain ⟨x, hx, hm⟩ := (back_step fs m k hk h s hs).2 (by rw [hf]; show (0 : Int) ≤ 1; decide) (by rw [hf]; show (1 : Int) ≤ 3; decide)
  rw [hf] at hx hm
  have e : rRead (fS wd n) ⟨s, (bIter fs k).bs.length, 0⟩ = (⟨1, wd, (rSigned wd ⟨s, (bIter fs k).bs.length, 0⟩).1, ByteArray.empty⟩, (rSigned wd ⟨s, (bIter fs k).bs.length, 0⟩).2) := rfl
  rw [e] at hx
  injection hx with h1 h2
  have h3 := hm.1 (by show (1 : Int) ≤ 1; decide)
  rw [← h1] at h3
  exact Prod.ext h3 h2
theorem stB (h : (bIter fs m).e = 0) (hs : s = wBytes (bIter fs m)) (k : Nat) (hk : k < m) {b : Bool} (hf : fs k = fB b) : rFlag ⟨s, (bIter fs k).bs.length, 0⟩ = (b, ⟨s, (bIter fs (k + 1)).bs.length, 0⟩) := by
  obtain ⟨x, hx, hm⟩ := (back_step fs m k hk h s hs).2 (by rw [hf]; show (0 : Int) ≤ 2; decide) (by rw [hf]; show (2 : Int) ≤ 3; decide)
  rw [hf] at hx hm
  have e : rRead (fB b) ⟨s, (bIter fs k).bs.length, 0⟩ = (⟨2, 0, if (rFlag ⟨s, (bIter fs k).bs.length, 0⟩).1 then 1 else 0, ByteArray.empty⟩, (rFlag ⟨s, (bIter fs k).bs.length, 0⟩).2) := rfl
  rw [e] at hx
  injection hx with h1 h2
  have h3 := hm.2.1 rfl
  rw [← h1] at h3
  refine Prod.ext ?_ h2
  simp only [fB] at h3
  cases b <;> cases h4 : (rFlag ⟨s, (bIter fs k).bs.length, 0⟩).1 <;> simp_all
theorem stT (h : (bIter fs m).e = 0) (hs : s = wBytes (bIter fs m)) (k : Nat) (hk : k < m) {d : ByteArray} (hf : fs k = fT d) : rText 127 ⟨s, (bIter fs k).bs.length, 0⟩ = (d, ⟨s, (bIter fs (k + 1)).bs.length, 0⟩) := by
  obtain ⟨x, hx, hm⟩ := (back_step fs m k hk h s hs).2 (by rw [hf]; show (0 : Int) ≤ 3; decide) (by rw [hf]; show (3 : Int) ≤ 3; decide)
  rw [hf] at hx hm
  have e : rRead (fT d) ⟨s, (bIter fs k).bs.length, 0⟩ = (⟨3, 127, 0, (rText 127 ⟨s, (bIter fs k).bs.length, 0⟩).1⟩, (rText 127 ⟨s, (bIter fs k).bs.length, 0⟩).2) := rfl
  rw [e] at hx
  injection hx with h1 h2
  have h3 := hm.2.2 rfl
  rw [← h1] at h3
  exact Prod.ext h3 h2
end
theorem intR {x : Frm} {st st' : RSt} (i : Nat) {wd n : Int} (h : rUnsigned wd st = (n, st')) : intF (macR 0 0 0) i wd (x, st) = (setI x i n, st') := by
  simp only [intF, macR, h]
theorem sgnR {x : Frm} {st st' : RSt} (i : Nat) {wd n : Int} (h : rSigned wd st = (n, st')) : sgnF (macR 0 0 0) i wd (x, st) = (setI x i n, st') := by
  simp only [sgnF, macR, h]
theorem txtR {x : Frm} {st st' : RSt} {d : ByteArray} (h : rText 127 st = (d, st')) : txtF (macR 0 0 0) (x, st) = ({ x with d := d }, st') := by
  simp only [txtF, macR, h]
theorem tgtR1 {x : Frm} {st st1 st2 : RSt} {n : Int} (h : rFlag st = (true, st1)) (h2 : rUnsigned 5 st1 = (n, st2)) : tgtF (macR 0 0 0) (x, st) = (setI x 2 n, st2) := by
  have e : (macR 0 0 0).fl (x.t != -1) st = (true, st1) := h
  unfold tgtF
  rw [e, if_pos rfl]
  exact intR 2 h2
theorem tgtR0 {x : Frm} {st st1 : RSt} (h : rFlag st = (false, st1)) : tgtF (macR 0 0 0) (x, st) = (setI x 2 (-1), st1) := by
  have e : (macR 0 0 0).fl (x.t != -1) st = (false, st1) := h
  unfold tgtF
  rw [e, if_neg Bool.false_ne_true]
theorem knd1 {α : Type} (M : Mach α) (p : Frm × α) (h : p.1.k = 1) : kndF M p = datF M p := by simp [kndF, h]
theorem knd2 {α : Type} (M : Mach α) (p : Frm × α) (h : p.1.k = 2) : kndF M p = sgnF M 7 16 p := by simp [kndF, h]
theorem knd3 {α : Type} (M : Mach α) (p : Frm × α) (h : p.1.k = 3) : kndF M p = beaF M p := by simp [kndF, h]
theorem knd4 {α : Type} (M : Mach α) (p : Frm × α) (h : p.1.k = 4) : kndF M p = txtF M p := by simp [kndF, h]
def fl1t (x : Frm) : List Fld := [fU 3 x.k, fU 5 x.s, fB true, fU 5 x.t, fU 8 x.l, fU 8 x.q, fU 8 x.f, fU 16 x.n, fT x.d]
theorem en1t {x : Frm} (hk : x.k = 1) (ht : x.t ≠ -1) : enS x = bIter (fl (fl1t x)) 9 := by
  have hb : (x.t != -1) = true := by simp [ht]
  simp [enS, kdS, hdS, tgS, hb, bIter, wWrite, fl, fl1t, fU, fB, fT, hk]
theorem rd1t {x : Frm} (hk : x.k = 1) (ht : x.t ≠ -1) (he : (enS x).e = 0) :
    allF (macR 0 0 0) (zeroF, ⟨wBytes (enS x), 0, 0⟩) = (⟨x.k, x.s, x.t, x.l, x.q, x.f, x.n, 0, 0, 0, 0, x.d⟩, ⟨wBytes (enS x), (enS x).bs.length, 0⟩) := by
  rw [en1t hk ht] at he ⊢
  obtain ⟨fs, hfs⟩ : ∃ fs, fs = fl (fl1t x) := ⟨_, rfl⟩
  rw [← hfs] at he ⊢
  obtain ⟨s, hs⟩ : ∃ s, s = wBytes (bIter fs 9) := ⟨_, rfl⟩
  rw [← hs]
  have h0 := stU he hs 0 (by decide) (show fs 0 = fU 3 x.k by rw [hfs]; rfl)
  have h1 := stU he hs 1 (by decide) (show fs 1 = fU 5 x.s by rw [hfs]; rfl)
  have h2 := stB he hs 2 (by decide) (show fs 2 = fB true by rw [hfs]; rfl)
  have h3 := stU he hs 3 (by decide) (show fs 3 = fU 5 x.t by rw [hfs]; rfl)
  have h4 := stU he hs 4 (by decide) (show fs 4 = fU 8 x.l by rw [hfs]; rfl)
  have h5 := stU he hs 5 (by decide) (show fs 5 = fU 8 x.q by rw [hfs]; rfl)
  have h6 := stU he hs 6 (by decide) (show fs 6 = fU 8 x.f by rw [hfs]; rfl)
  have h7 := stU he hs 7 (by decide) (show fs 7 = fU 16 x.n by rw [hfs]; rfl)
  have h8 := stT he hs 8 (by decide) (show fs 8 = fT x.d by rw [hfs]; rfl)
  clear he hs
  change rUnsigned 3 ⟨s, 0, 0⟩ = _ at h0
  clear hfs
  generalize (bIter fs 1).bs.length = p1 at *
  generalize (bIter fs 2).bs.length = p2 at *
  generalize (bIter fs 3).bs.length = p3 at *
  generalize (bIter fs 4).bs.length = p4 at *
  generalize (bIter fs 5).bs.length = p5 at *
  generalize (bIter fs 6).bs.length = p6 at *
  generalize (bIter fs 7).bs.length = p7 at *
  generalize (bIter fs 8).bs.length = p8 at *
  generalize (bIter fs 9).bs.length = p9 at *
  unfold allF hdF
  rw [intR 0 h0, intR 1 h1, tgtR1 h2 h3, intR 3 h4, intR 4 h5]
  rw [knd1 _ _ (show x.k = 1 from hk)]
  unfold datF
  rw [intR 5 h6, intR 6 h7, txtR h8]
  simp only [setI, zeroF]
def fl2t (x : Frm) : List Fld := [fU 3 x.k, fU 5 x.s, fB true, fU 5 x.t, fU 8 x.l, fU 8 x.q, fS 16 x.e]
theorem en2t {x : Frm} (hk : x.k = 2) (ht : x.t ≠ -1) : enS x = bIter (fl (fl2t x)) 7 := by
  have hb : (x.t != -1) = true := by simp [ht]
  simp [enS, kdS, hdS, tgS, hb, bIter, wWrite, fl, fl2t, fU, fS, fB, hk]
theorem rd2t {x : Frm} (hk : x.k = 2) (ht : x.t ≠ -1) (he : (enS x).e = 0) :
    allF (macR 0 0 0) (zeroF, ⟨wBytes (enS x), 0, 0⟩) = (⟨x.k, x.s, x.t, x.l, x.q, 0, 0, x.e, 0, 0, 0, ⟨#[]⟩⟩, ⟨wBytes (enS x), (enS x).bs.length, 0⟩) := by
  rw [en2t hk ht] at he ⊢
  obtain ⟨fs, hfs⟩ : ∃ fs, fs = fl (fl2t x) := ⟨_, rfl⟩
  rw [← hfs] at he ⊢
  obtain ⟨s, hs⟩ : ∃ s, s = wBytes (bIter fs 7) := ⟨_, rfl⟩
  rw [← hs]
  have h0 := stU he hs 0 (by decide) (show fs 0 = fU 3 x.k by rw [hfs]; rfl)
  have h1 := stU he hs 1 (by decide) (show fs 1 = fU 5 x.s by rw [hfs]; rfl)
  have h2 := stB he hs 2 (by decide) (show fs 2 = fB true by rw [hfs]; rfl)
  have h3 := stU he hs 3 (by decide) (show fs 3 = fU 5 x.t by rw [hfs]; rfl)
  have h4 := stU he hs 4 (by decide) (show fs 4 = fU 8 x.l by rw [hfs]; rfl)
  have h5 := stU he hs 5 (by decide) (show fs 5 = fU 8 x.q by rw [hfs]; rfl)
  have h6 := stS he hs 6 (by decide) (show fs 6 = fS 16 x.e by rw [hfs]; rfl)
  clear he hs
  change rUnsigned 3 ⟨s, 0, 0⟩ = _ at h0
  clear hfs
  generalize (bIter fs 1).bs.length = p1 at *
  generalize (bIter fs 2).bs.length = p2 at *
  generalize (bIter fs 3).bs.length = p3 at *
  generalize (bIter fs 4).bs.length = p4 at *
  generalize (bIter fs 5).bs.length = p5 at *
  generalize (bIter fs 6).bs.length = p6 at *
  generalize (bIter fs 7).bs.length = p7 at *
  unfold allF hdF
  rw [intR 0 h0, intR 1 h1, tgtR1 h2 h3, intR 3 h4, intR 4 h5]
  rw [knd2 _ _ (show x.k = 2 from hk)]
  rw [sgnR 7 h6]
  simp only [setI, zeroF]
def fl3f (x : Frm) : List Fld := [fU 3 x.k, fU 5 x.s, fB false, fU 8 x.l, fU 8 x.q, fU 27 x.sl, fU 16 x.r, fU 16 x.ep, fT x.d]
theorem en3f {x : Frm} (hk : x.k = 3) (ht : x.t = -1) : enS x = bIter (fl (fl3f x)) 9 := by
  have hb : (x.t != -1) = false := by simp [ht]
  simp [enS, kdS, hdS, tgS, hb, bIter, wWrite, fl, fl3f, fU, fB, fT, hk]
theorem rd3f {x : Frm} (hk : x.k = 3) (ht : x.t = -1) (he : (enS x).e = 0) :
    allF (macR 0 0 0) (zeroF, ⟨wBytes (enS x), 0, 0⟩) = (⟨x.k, x.s, -1, x.l, x.q, 0, 0, 0, x.sl, x.r, x.ep, x.d⟩, ⟨wBytes (enS x), (enS x).bs.length, 0⟩) := by
  rw [en3f hk ht] at he ⊢
  obtain ⟨fs, hfs⟩ : ∃ fs, fs = fl (fl3f x) := ⟨_, rfl⟩
  rw [← hfs] at he ⊢
  obtain ⟨s, hs⟩ : ∃ s, s = wBytes (bIter fs 9) := ⟨_, rfl⟩
  rw [← hs]
  have h0 := stU he hs 0 (by decide) (show fs 0 = fU 3 x.k by rw [hfs]; rfl)
  have h1 := stU he hs 1 (by decide) (show fs 1 = fU 5 x.s by rw [hfs]; rfl)
  have h2 := stB he hs 2 (by decide) (show fs 2 = fB false by rw [hfs]; rfl)
  have h3 := stU he hs 3 (by decide) (show fs 3 = fU 8 x.l by rw [hfs]; rfl)
  have h4 := stU he hs 4 (by decide) (show fs 4 = fU 8 x.q by rw [hfs]; rfl)
  have h5 := stU he hs 5 (by decide) (show fs 5 = fU 27 x.sl by rw [hfs]; rfl)
  have h6 := stU he hs 6 (by decide) (show fs 6 = fU 16 x.r by rw [hfs]; rfl)
  have h7 := stU he hs 7 (by decide) (show fs 7 = fU 16 x.ep by rw [hfs]; rfl)
  have h8 := stT he hs 8 (by decide) (show fs 8 = fT x.d by rw [hfs]; rfl)
  clear he hs
  change rUnsigned 3 ⟨s, 0, 0⟩ = _ at h0
  clear hfs
  generalize (bIter fs 1).bs.length = p1 at *
  generalize (bIter fs 2).bs.length = p2 at *
  generalize (bIter fs 3).bs.length = p3 at *
  generalize (bIter fs 4).bs.length = p4 at *
  generalize (bIter fs 5).bs.length = p5 at *
  generalize (bIter fs 6).bs.length = p6 at *
  generalize (bIter fs 7).bs.length = p7 at *
  generalize (bIter fs 8).bs.length = p8 at *
  generalize (bIter fs 9).bs.length = p9 at *
  unfold allF hdF
  rw [intR 0 h0, intR 1 h1, tgtR0 h2, intR 3 h3, intR 4 h4]
  rw [knd3 _ _ (show x.k = 3 from hk)]
  unfold beaF
  rw [intR 8 h5, intR 9 h6, intR 10 h7, txtR h8]
  simp only [setI, zeroF]
def fl4t (x : Frm) : List Fld := [fU 3 x.k, fU 5 x.s, fB true, fU 5 x.t, fU 8 x.l, fU 8 x.q, fT x.d]
theorem en4t {x : Frm} (hk : x.k = 4) (ht : x.t ≠ -1) : enS x = bIter (fl (fl4t x)) 7 := by
  have hb : (x.t != -1) = true := by simp [ht]
  simp [enS, kdS, hdS, tgS, hb, bIter, wWrite, fl, fl4t, fU, fB, fT, hk]
theorem rd4t {x : Frm} (hk : x.k = 4) (ht : x.t ≠ -1) (he : (enS x).e = 0) :
    allF (macR 0 0 0) (zeroF, ⟨wBytes (enS x), 0, 0⟩) = (⟨x.k, x.s, x.t, x.l, x.q, 0, 0, 0, 0, 0, 0, x.d⟩, ⟨wBytes (enS x), (enS x).bs.length, 0⟩) := by
  rw [en4t hk ht] at he ⊢
  obtain ⟨fs, hfs⟩ : ∃ fs, fs = fl (fl4t x) := ⟨_, rfl⟩
  rw [← hfs] at he ⊢
  obtain ⟨s, hs⟩ : ∃ s, s = wBytes (bIter fs 7) := ⟨_, rfl⟩
  rw [← hs]
  have h0 := stU he hs 0 (by decide) (show fs 0 = fU 3 x.k by rw [hfs]; rfl)
  have h1 := stU he hs 1 (by decide) (show fs 1 = fU 5 x.s by rw [hfs]; rfl)
  have h2 := stB he hs 2 (by decide) (show fs 2 = fB true by rw [hfs]; rfl)
  have h3 := stU he hs 3 (by decide) (show fs 3 = fU 5 x.t by rw [hfs]; rfl)
  have h4 := stU he hs 4 (by decide) (show fs 4 = fU 8 x.l by rw [hfs]; rfl)
  have h5 := stU he hs 5 (by decide) (show fs 5 = fU 8 x.q by rw [hfs]; rfl)
  have h6 := stT he hs 6 (by decide) (show fs 6 = fT x.d by rw [hfs]; rfl)
  clear he hs
  change rUnsigned 3 ⟨s, 0, 0⟩ = _ at h0
  clear hfs
  generalize (bIter fs 1).bs.length = p1 at *
  generalize (bIter fs 2).bs.length = p2 at *
  generalize (bIter fs 3).bs.length = p3 at *
  generalize (bIter fs 4).bs.length = p4 at *
  generalize (bIter fs 5).bs.length = p5 at *
  generalize (bIter fs 6).bs.length = p6 at *
  generalize (bIter fs 7).bs.length = p7 at *
  unfold allF hdF
  rw [intR 0 h0, intR 1 h1, tgtR1 h2 h3, intR 3 h4, intR 4 h5]
  rw [knd4 _ _ (show x.k = 4 from hk)]
  rw [txtR h6]
  simp only [setI, zeroF]
def fl4f (x : Frm) : List Fld := [fU 3 x.k, fU 5 x.s, fB false, fU 8 x.l, fU 8 x.q, fT x.d]
theorem en4f {x : Frm} (hk : x.k = 4) (ht : x.t = -1) : enS x = bIter (fl (fl4f x)) 6 := by
  have hb : (x.t != -1) = false := by simp [ht]
  simp [enS, kdS, hdS, tgS, hb, bIter, wWrite, fl, fl4f, fU, fB, fT, hk]
theorem rd4f {x : Frm} (hk : x.k = 4) (ht : x.t = -1) (he : (enS x).e = 0) :
    allF (macR 0 0 0) (zeroF, ⟨wBytes (enS x), 0, 0⟩) = (⟨x.k, x.s, -1, x.l, x.q, 0, 0, 0, 0, 0, 0, x.d⟩, ⟨wBytes (enS x), (enS x).bs.length, 0⟩) := by
  rw [en4f hk ht] at he ⊢
  obtain ⟨fs, hfs⟩ : ∃ fs, fs = fl (fl4f x) := ⟨_, rfl⟩
  rw [← hfs] at he ⊢
  obtain ⟨s, hs⟩ : ∃ s, s = wBytes (bIter fs 6) := ⟨_, rfl⟩
  rw [← hs]
  have h0 := stU he hs 0 (by decide) (show fs 0 = fU 3 x.k by rw [hfs]; rfl)
  have h1 := stU he hs 1 (by decide) (show fs 1 = fU 5 x.s by rw [hfs]; rfl)
  have h2 := stB he hs 2 (by decide) (show fs 2 = fB false by rw [hfs]; rfl)
  have h3 := stU he hs 3 (by decide) (show fs 3 = fU 8 x.l by rw [hfs]; rfl)
  have h4 := stU he hs 4 (by decide) (show fs 4 = fU 8 x.q by rw [hfs]; rfl)
  have h5 := stT he hs 5 (by decide) (show fs 5 = fT x.d by rw [hfs]; rfl)
  clear he hs
  change rUnsigned 3 ⟨s, 0, 0⟩ = _ at h0
  clear hfs
  generalize (bIter fs 1).bs.length = p1 at *
  generalize (bIter fs 2).bs.length = p2 at *
  generalize (bIter fs 3).bs.length = p3 at *
  generalize (bIter fs 4).bs.length = p4 at *
  generalize (bIter fs 5).bs.length = p5 at *
  generalize (bIter fs 6).bs.length = p6 at *
  unfold allF hdF
  rw [intR 0 h0, intR 1 h1, tgtR0 h2, intR 3 h3, intR 4 h4]
  rw [knd4 _ _ (show x.k = 4 from hk)]
  rw [txtR h5]
  simp only [setI, zeroF]
end Go.Proofs.Ytelpdihaonoedaa
