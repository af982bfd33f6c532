/- Reading a frame by the document's reader. -/
import Derived.Test.YtelpdihaonoedaaSyr
import Derived.Test.YtelpdihaonoedaaRky
import Derived.Test.YtelpdihaonoedaaDed
import Derived.Test.YtelpdihaonoedaaRefRw
namespace Go.Proofs.Ytelpdihaonoedaa
open Go.RowKit
set_option linter.unusedVariables false
set_option maxRecDepth 20000

theorem fr_nop {S : Nat → Prop} {a b : World} (h : Fr S a b) (hS : ∀ k, S k → False) : Fr no a b := h.mono (fun i _ hi => (hS i hi).elim)
/-- The reader in the block B, the frame in F, the result in Z. -/
structure Sx (F B : Nat) (w0 w : World) (x : Frm) (st : RSt) : Prop where
  rd : RdR w B st
  f : w.heap[F]? = some (.cells (frA x) 23 (0, 0))
  z : w.heap[w0.heap.size]? = some (.cells zA 23 (0, 0))
  fb : F ≠ B
  zb : w0.heap.size < B
  zf : w0.heap.size < F
  fr : Fr (fun k => w0.heap.size ≤ k) w0 w
theorem Sx.read {F B : Nat} {w0 w w' : World} {x : Frm} {st st' : RSt} (h : Sx F B w0 w x st) (hr : RdR w' B st') (hf : Fr (only B) w w') : Sx F B w0 w' x st' :=
  ⟨hr, hf.blk h.f h.fb, hf.blk h.z (by have := h.zb; simp only [only]; omega), h.fb, h.zb, h.zf, h.fr.trans (hf.mono (S' := fun k => w0.heap.size ≤ k) (fun i _ hi => by rw [show i = B from hi]; exact Nat.le_of_lt h.zb)) (fun _ _ hh => hh)⟩
theorem Sx.put {F B : Nat} {w0 w : World} {x : Frm} {st : RSt} (h : Sx F B w0 w x st) (i : Nat) (v : Value) (y : Frm) (hy : (frA x).setIfInBounds i v = frA y) : Sx F B w0 (w.setCell ⟨F, i, none⟩ v) y st := by
  have hs := (Fr.refl (fun k => k = F) w).setCell (p := ⟨F, i, none⟩) (.inl rfl) v
  refine ⟨h.rd.kept hs (fun e => h.fb e.symm), ?_, other_set h.z _ (by have := h.zf; omega), h.fb, h.zb, h.zf, h.fr.setCell (.inl (Nat.le_of_lt h.zf)) _⟩
  have := three_set h.f i v
  rwa [hy] at this
theorem ge_nop {w0 w : World} (h : Fr (fun k => w0.heap.size ≤ k) w0 w) : Fr no w0 w := h.mono (fun i hi hh => absurd hh (Nat.not_le.2 hi))
theorem dA1t {st0 : RSt} {n0 n1 n3 n4 n5 n6 n7 : Int} {d8 : ByteArray} {t0 t1 t2 t3 t4 t5 t6 t7 t8 : RSt} (h0 : rUnsigned 3 st0 = (n0, t0)) (h1 : rUnsigned 5 t0 = (n1, t1)) (h2 : rFlag t1 = (true, t2)) (h3 : rUnsigned 5 t2 = (n3, t3)) (h4 : rUnsigned 8 t3 = (n4, t4)) (h5 : rUnsigned 8 t4 = (n5, t5)) (h6 : rUnsigned 8 t5 = (n6, t6)) (h7 : rUnsigned 16 t6 = (n7, t7)) (h8 : rText 127 t7 = (d8, t8)) (hk : n0 = 1) : allF (macR 0 0 0) (zeroF, st0) = (⟨1, n1, n3, n4, n5, n6, n7, 0, 0, 0, 0, d8⟩, t8) := by
  subst hk
  unfold allF hdF
  rw [intR 0 h0, intR 1 h1, tgtR1 h2 h3, intR 3 h4, intR 4 h5]
  rw [knd1 _ _ rfl]
  unfold datF
  rw [intR 5 h6, intR 6 h7, txtR h8]
  simp only [setI, zeroF]
theorem dA1f {st0 : RSt} {n0 n1 n4 n5 n6 n7 : Int} {d8 : ByteArray} {t0 t1 t2 t3 t4 t5 t6 t7 : RSt} (h0 : rUnsigned 3 st0 = (n0, t0)) (h1 : rUnsigned 5 t0 = (n1, t1)) (h2 : rFlag t1 = (false, t2)) (h3 : rUnsigned 8 t2 = (n4, t3)) (h4 : rUnsigned 8 t3 = (n5, t4)) (h5 : rUnsigned 8 t4 = (n6, t5)) (h6 : rUnsigned 16 t5 = (n7, t6)) (h7 : rText 127 t6 = (d8, t7)) (hk : n0 = 1) : allF (macR 0 0 0) (zeroF, st0) = (⟨1, n1, -1, n4, n5, n6, n7, 0, 0, 0, 0, d8⟩, t7) := by
  subst hk
  unfold allF hdF
  rw [intR 0 h0, intR 1 h1, tgtR0 h2, intR 3 h3, intR 4 h4]
  rw [knd1 _ _ rfl]
  unfold datF
  rw [intR 5 h5, intR 6 h6, txtR h7]
  simp only [setI, zeroF]
theorem dA2t {st0 : RSt} {n0 n1 n3 n4 n5 n6 : Int} {t0 t1 t2 t3 t4 t5 t6 : RSt} (h0 : rUnsigned 3 st0 = (n0, t0)) (h1 : rUnsigned 5 t0 = (n1, t1)) (h2 : rFlag t1 = (true, t2)) (h3 : rUnsigned 5 t2 = (n3, t3)) (h4 : rUnsigned 8 t3 = (n4, t4)) (h5 : rUnsigned 8 t4 = (n5, t5)) (h6 : rSigned 16 t5 = (n6, t6)) (hk : n0 = 2) : allF (macR 0 0 0) (zeroF, st0) = (⟨2, n1, n3, n4, n5, 0, 0, n6, 0, 0, 0, ⟨#[]⟩⟩, t6) := by
  subst hk
  unfold allF hdF
  rw [intR 0 h0, intR 1 h1, tgtR1 h2 h3, intR 3 h4, intR 4 h5]
  rw [knd2 _ _ rfl]
  rw [sgnR 7 h6]
  simp only [setI, zeroF]
theorem dA2f {st0 : RSt} {n0 n1 n4 n5 n6 : Int} {t0 t1 t2 t3 t4 t5 : RSt} (h0 : rUnsigned 3 st0 = (n0, t0)) (h1 : rUnsigned 5 t0 = (n1, t1)) (h2 : rFlag t1 = (false, t2)) (h3 : rUnsigned 8 t2 = (n4, t3)) (h4 : rUnsigned 8 t3 = (n5, t4)) (h5 : rSigned 16 t4 = (n6, t5)) (hk : n0 = 2) : allF (macR 0 0 0) (zeroF, st0) = (⟨2, n1, -1, n4, n5, 0, 0, n6, 0, 0, 0, ⟨#[]⟩⟩, t5) := by
  subst hk
  unfold allF hdF
  rw [intR 0 h0, intR 1 h1, tgtR0 h2, intR 3 h3, intR 4 h4]
  rw [knd2 _ _ rfl]
  rw [sgnR 7 h5]
  simp only [setI, zeroF]
theorem dA3t {st0 : RSt} {n0 n1 n3 n4 n5 n6 n7 n8 : Int} {d9 : ByteArray} {t0 t1 t2 t3 t4 t5 t6 t7 t8 t9 : RSt} (h0 : rUnsigned 3 st0 = (n0, t0)) (h1 : rUnsigned 5 t0 = (n1, t1)) (h2 : rFlag t1 = (true, t2)) (h3 : rUnsigned 5 t2 = (n3, t3)) (h4 : rUnsigned 8 t3 = (n4, t4)) (h5 : rUnsigned 8 t4 = (n5, t5)) (h6 : rUnsigned 27 t5 = (n6, t6)) (h7 : rUnsigned 16 t6 = (n7, t7)) (h8 : rUnsigned 16 t7 = (n8, t8)) (h9 : rText 127 t8 = (d9, t9)) (hk : n0 = 3) : allF (macR 0 0 0) (zeroF, st0) = (⟨3, n1, n3, n4, n5, 0, 0, 0, n6, n7, n8, d9⟩, t9) := by
  subst hk
  unfold allF hdF
  rw [intR 0 h0, intR 1 h1, tgtR1 h2 h3, intR 3 h4, intR 4 h5]
  rw [knd3 _ _ rfl]
  unfold beaF
  rw [intR 8 h6, intR 9 h7, intR 10 h8, txtR h9]
  simp only [setI, zeroF]
theorem dA3f {st0 : RSt} {n0 n1 n4 n5 n6 n7 n8 : Int} {d9 : ByteArray} {t0 t1 t2 t3 t4 t5 t6 t7 t8 : RSt} (h0 : rUnsigned 3 st0 = (n0, t0)) (h1 : rUnsigned 5 t0 = (n1, t1)) (h2 : rFlag t1 = (false, t2)) (h3 : rUnsigned 8 t2 = (n4, t3)) (h4 : rUnsigned 8 t3 = (n5, t4)) (h5 : rUnsigned 27 t4 = (n6, t5)) (h6 : rUnsigned 16 t5 = (n7, t6)) (h7 : rUnsigned 16 t6 = (n8, t7)) (h8 : rText 127 t7 = (d9, t8)) (hk : n0 = 3) : allF (macR 0 0 0) (zeroF, st0) = (⟨3, n1, -1, n4, n5, 0, 0, 0, n6, n7, n8, d9⟩, t8) := by
  subst hk
  unfold allF hdF
  rw [intR 0 h0, intR 1 h1, tgtR0 h2, intR 3 h3, intR 4 h4]
  rw [knd3 _ _ rfl]
  unfold beaF
  rw [intR 8 h5, intR 9 h6, intR 10 h7, txtR h8]
  simp only [setI, zeroF]
theorem dA4t {st0 : RSt} {n0 n1 n3 n4 n5 : Int} {d6 : ByteArray} {t0 t1 t2 t3 t4 t5 t6 : RSt} (h0 : rUnsigned 3 st0 = (n0, t0)) (h1 : rUnsigned 5 t0 = (n1, t1)) (h2 : rFlag t1 = (true, t2)) (h3 : rUnsigned 5 t2 = (n3, t3)) (h4 : rUnsigned 8 t3 = (n4, t4)) (h5 : rUnsigned 8 t4 = (n5, t5)) (h6 : rText 127 t5 = (d6, t6)) (hk : n0 = 4) : allF (macR 0 0 0) (zeroF, st0) = (⟨4, n1, n3, n4, n5, 0, 0, 0, 0, 0, 0, d6⟩, t6) := by
  subst hk
  unfold allF hdF
  rw [intR 0 h0, intR 1 h1, tgtR1 h2 h3, intR 3 h4, intR 4 h5]
  rw [knd4 _ _ rfl]
  rw [txtR h6]
  simp only [setI, zeroF]
theorem dA4f {st0 : RSt} {n0 n1 n4 n5 : Int} {d6 : ByteArray} {t0 t1 t2 t3 t4 t5 : RSt} (h0 : rUnsigned 3 st0 = (n0, t0)) (h1 : rUnsigned 5 t0 = (n1, t1)) (h2 : rFlag t1 = (false, t2)) (h3 : rUnsigned 8 t2 = (n4, t3)) (h4 : rUnsigned 8 t3 = (n5, t4)) (h5 : rText 127 t4 = (d6, t5)) (hk : n0 = 4) : allF (macR 0 0 0) (zeroF, st0) = (⟨4, n1, -1, n4, n5, 0, 0, 0, 0, 0, 0, d6⟩, t5) := by
  subst hk
  unfold allF hdF
  rw [intR 0 h0, intR 1 h1, tgtR0 h2, intR 3 h3, intR 4 h4]
  rw [knd4 _ _ rfl]
  rw [txtR h5]
  simp only [setI, zeroF]
end Go.Proofs.Ytelpdihaonoedaa
