/- What is read was written so. -/
import Derived.Test.YtelpdihaonoedaaMbk
namespace Go.Proofs.Ytelpdihaonoedaa
open Go.RowKit
set_option linter.unusedVariables false
set_option maxRecDepth 20000

theorem str_ne {a b : ByteArray} (h : a ≠ b) : (a.toList == b.toList) = false := by
  rw [ByteArray.toList_eq, ByteArray.toList_eq, beq_eq_false_iff_ne]
  intro e
  apply h
  obtain ⟨⟨a⟩⟩ := a
  obtain ⟨⟨b⟩⟩ := b
  exact congrArg (fun l : List UInt8 => ByteArray.mk l.toArray) e
theorem str_eq {a b : ByteArray} (h : a.toList = b.toList) : a = b := by
  by_cases e : a = b
  · exact e
  · have := str_ne e; simp [h] at this
theorem eqF_parts {x y : Frm} (h : eqF x y = true) : x.k = y.k ∧ x.s = y.s ∧ x.t = y.t ∧ x.l = y.l ∧ x.q = y.q ∧ x.f = y.f ∧ x.n = y.n ∧ x.e = y.e ∧ x.sl = y.sl ∧ x.r = y.r ∧ x.ep = y.ep ∧ x.d = y.d := by
  simp only [eqF, Bool.and_eq_true, decide_eq_true_eq] at h
  obtain ⟨h0, h1, h2, h3, h4, h5, h6, h7, h8, h9, h10, h11, _⟩ := h
  exact ⟨h0, h1, h2, h3, h4, h5, h6, h7, h8, h9, h10, str_eq h11⟩
theorem eqF_eq {x y : Frm} (h : eqF x y = true) : x = y := by
  obtain ⟨h0, h1, h2, h3, h4, h5, h6, h7, h8, h9, h10, h11⟩ := eqF_parts h
  obtain ⟨k, s, t, l, q, f, n, e, sl, r, ep, d⟩ := x
  obtain ⟨k', s', t', l', q', f', n', e', sl', r', ep', d'⟩ := y
  simp only at h0 h1 h2 h3 h4 h5 h6 h7 h8 h9 h10 h11
  subst h0 h1 h2 h3 h4 h5 h6 h7 h8 h9 h10 h11
  rfl
theorem back_all {x : Frm} (hx : okF x = true) (he : (enS x).e = 0) : allF (macR 0 0 0) (zeroF, ⟨wBytes (enS x), 0, 0⟩) = (x, ⟨wBytes (enS x), (enS x).bs.length, 0⟩) := by
  obtain ⟨h0, h1, h2, h3, h4, h5, h6, h7, h8, h9, h10⟩ := okF_parts hx
  obtain ⟨a1, a2, a3, a4⟩ := adB_parts h2
  have hn := eqF_eq h1
  rcases (show x.k = 1 ∨ x.k = 2 ∨ x.k = 3 ∨ x.k = 4 by omega) with hk | hk | hk | hk
  · have ht : x.t ≠ -1 := fun e => by have := a3 e; omega
    rw [rd1t hk ht he]
    have : nmF x = ⟨x.k, x.s, x.t, x.l, x.q, x.f, x.n, 0, 0, 0, 0, x.d⟩ := by unfold nmF; rw [if_pos hk]
    rw [← this, ← hn]
  · have ht : x.t ≠ -1 := fun e => by have := a3 e; omega
    rw [rd2t hk ht he]
    have : nmF x = ⟨x.k, x.s, x.t, x.l, x.q, 0, 0, x.e, 0, 0, 0, ⟨#[]⟩⟩ := by unfold nmF; rw [if_neg (by omega), if_pos hk]
    rw [← this, ← hn]
  · have ht : x.t = -1 := Decidable.byContradiction fun e => by have := (a4 e).1; omega
    rw [rd3f hk ht he]
    have : nmF x = ⟨x.k, x.s, -1, x.l, x.q, 0, 0, 0, x.sl, x.r, x.ep, x.d⟩ := by unfold nmF; rw [if_neg (by omega), if_neg (by omega), if_pos hk, ht]
    rw [← this, ← hn]
  · by_cases ht : x.t = -1
    · rw [rd4f hk ht he]
      have : nmF x = ⟨x.k, x.s, -1, x.l, x.q, 0, 0, 0, 0, 0, 0, x.d⟩ := by unfold nmF; rw [if_neg (by omega), if_neg (by omega), if_neg (by omega), ht]
      rw [← this, ← hn]
    · rw [rd4t hk ht he]
      have : nmF x = ⟨x.k, x.s, x.t, x.l, x.q, 0, 0, 0, 0, 0, 0, x.d⟩ := by unfold nmF; rw [if_neg (by omega), if_neg (by omega), if_neg (by omega)]
      rw [← this, ← hn]
theorem enE_0 {x : Frm} (h : enE x = 0) : okF x = true ∧ (enS x).e = 0 ∧ (prS x).size ≤ 127 ∧ enV x = prS x := by
  have h' := h
  unfold enE at h
  split at h
  · rename_i h1
    split at h
    · rename_i h2
      split at h
      · rename_i h3
        exact ⟨h1, h2, h3, (enc_4 h1 h2 h3).1⟩
      · cases h
    · cases h
  · cases h
theorem enE_n {x : Frm} (h : enE x ≠ 0) : enV x = ⟨#[]⟩ ∧ (enE x == 1) = !(okF x) := by
  cases hx : okF x
  · exact ⟨(enc_1 hx).1, by rw [(enc_1 hx).2]; rfl⟩
  · by_cases he : (enS x).e = 0
    · by_cases hs : (prS x).size ≤ 127
      · exact absurd (enc_4 hx he hs).2 h
      · exact ⟨(enc_3 hx he hs).1, by rw [(enc_3 hx he hs).2]; rfl⟩
    · exact ⟨(enc_2 hx he).1, by rw [(enc_2 hx he).2]; rfl⟩
theorem back_frame {x : Frm} (h : enE x = 0) : deV (enV x) = x ∧ deE (enV x) = 0 := by
  obtain ⟨h1, h2, h3, h4⟩ := enE_0 h
  have hb : enS x = ⟨(enS x).bs, 0⟩ := by rw [← h2]
  have hp : prS x = protB (wBytes (enS x)) := rfl
  have hsz : (wBytes (enS x)).size ≤ 125 := by rw [hp, prot_size] at h3; omega
  have hr : rNew (wBytes (enS x)) = ⟨wBytes (enS x), 0, 0⟩ := by unfold rNew; rw [if_neg (by omega)]
  have hle : (enS x).bs.length ≤ 524288 := by
    have := (packs_packB (enS x).bs).len
    have h5 : (wBytes (enS x)).size = (packB (enS x).bs).length := by unfold wBytes; rw [if_neg (by rw [h2]; decide), strOf_size]
    omega
  have hA : deA (enV x) = (x, ⟨wBytes (enS x), (enS x).bs.length, 0⟩) := by
    unfold deA
    rw [h4, hp, chkV_prot, hr, back_all h1 h2]
  have hc : rClose (deA (enV x)).2 = 0 := by
    rw [hA]
    have := back_close (enS x).bs hle
    rw [← hb] at this
    exact this
  have he : chkE (enV x) = 0 := by rw [h4, hp, chkE_prot]
  have hs2 : (enV x).size ≤ 127 := enV_small x
  unfold deV deE
  rw [if_pos hs2, if_pos hs2, if_pos he, if_pos he, if_pos hc, if_pos hc, hA]
  simp only [h1, if_true]
  exact ⟨trivial, trivial⟩
theorem rU_nonneg (wd : Int) (st : RSt) : 0 ≤ (rUnsigned wd st).1 := by
  unfold rUnsigned rNum
  split
  · simp only; omega
  · simp only; omega
theorem rClose_e {st : RSt} (h : rClose st = 0) : st.e = 0 := by
  unfold rClose at h
  by_cases e : st.e = 0
  · exact e
  · rw [if_pos e] at h; exact absurd h e
/-- The end of the way back. -/
theorem strict_end (fs : Nat → Fld) (m : Nat) (b : ByteArray) (hb : b.size ≤ 65536) (st : RSt) (x : Frm) (h1 : st = rIter fs ⟨b, 0, 0⟩ m) (h2 : enS x = wIter fs ⟨b, 0, 0⟩ ⟨[], 0⟩ m) (hc : rClose st = 0) : wBytes (enS x) = b ∧ (enS x).e = 0 := by
  have he := rClose_e hc
  rw [h1] at he
  obtain ⟨a, e1, e2, e3⟩ := strict_iter fs b hb m he
  rw [h1, e1] at hc
  rw [h2, e3]
  exact ⟨closed_bytes b a e2 hc, rfl⟩
set_option maxHeartbeats 1000000 in
theorem sr1t {b : ByteArray} {n0 n1 n3 n4 n5 n6 n7 : Int} {d8 : ByteArray} {t0 t1 t2 t3 t4 t5 t6 t7 t8 : RSt} (h0 : rUnsigned 3 ⟨b, 0, 0⟩ = (n0, t0)) (h1 : rUnsigned 5 t0 = (n1, t1)) (h2 : rFlag t1 = (true, t2)) (h3 : rUnsigned 5 t2 = (n3, t3)) (h4 : rUnsigned 8 t3 = (n4, t4)) (h5 : rUnsigned 8 t4 = (n5, t5)) (h6 : rUnsigned 8 t5 = (n6, t6)) (h7 : rUnsigned 16 t6 = (n7, t7)) (h8 : rText 127 t7 = (d8, t8)) (hk : n0 = 1) (ht : (n3 != -1) = true) :
    allF (macR 0 0 0) (zeroF, ⟨b, 0, 0⟩) = (⟨1, n1, n3, n4, n5, n6, n7, 0, 0, 0, 0, d8⟩, t8) ∧ t8 = rIter (fl (fl1t zeroF)) ⟨b, 0, 0⟩ 9 ∧ enS ⟨1, n1, n3, n4, n5, n6, n7, 0, 0, 0, 0, d8⟩ = wIter (fl (fl1t zeroF)) ⟨b, 0, 0⟩ ⟨[], 0⟩ 9 := by
  subst hk
  refine ⟨?_, ?_, ?_⟩
  · unfold allF hdF
    rw [intR 0 h0, intR 1 h1, tgtR1 h2 h3, intR 3 h4, intR 4 h5]
    rw [knd1 _ _ rfl]
    unfold datF
    rw [intR 5 h6, intR 6 h7, txtR h8]
    simp only [setI, zeroF]
  · simp [rIter, rRead, fl, fl1t, fU, fB, fT, h0, h1, h2, h3, h4, h5, h6, h7, h8]
  · simp [enS, kdS, hdS, tgS, ht, wIter, wWrite, rIter, rRead, fl, fl1t, fU, fB, fT, h0, h1, h2, h3, h4, h5, h6, h7, h8]
set_option maxHeartbeats 1000000 in
theorem sr2t {b : ByteArray} {n0 n1 n3 n4 n5 n6 : Int} {t0 t1 t2 t3 t4 t5 t6 : RSt} (h0 : rUnsigned 3 ⟨b, 0, 0⟩ = (n0, t0)) (h1 : rUnsigned 5 t0 = (n1, t1)) (h2 : rFlag t1 = (true, t2)) (h3 : rUnsigned 5 t2 = (n3, t3)) (h4 : rUnsigned 8 t3 = (n4, t4)) (h5 : rUnsigned 8 t4 = (n5, t5)) (h6 : rSigned 16 t5 = (n6, t6)) (hk : n0 = 2) (ht : (n3 != -1) = true) :
    allF (macR 0 0 0) (zeroF, ⟨b, 0, 0⟩) = (⟨2, n1, n3, n4, n5, 0, 0, n6, 0, 0, 0, ⟨#[]⟩⟩, t6) ∧ t6 = rIter (fl (fl2t zeroF)) ⟨b, 0, 0⟩ 7 ∧ enS ⟨2, n1, n3, n4, n5, 0, 0, n6, 0, 0, 0, ⟨#[]⟩⟩ = wIter (fl (fl2t zeroF)) ⟨b, 0, 0⟩ ⟨[], 0⟩ 7 := by
  subst hk
  refine ⟨?_, ?_, ?_⟩
  · unfold allF hdF
    rw [intR 0 h0, intR 1 h1, tgtR1 h2 h3, intR 3 h4, intR 4 h5]
    rw [knd2 _ _ rfl]
    rw [sgnR 7 h6]
    simp only [setI, zeroF]
  · simp [rIter, rRead, fl, fl2t, fU, fS, fB, h0, h1, h2, h3, h4, h5, h6]
  · simp [enS, kdS, hdS, tgS, ht, wIter, wWrite, rIter, rRead, fl, fl2t, fU, fS, fB, h0, h1, h2, h3, h4, h5, h6]
set_option maxHeartbeats 1000000 in
theorem sr3f {b : ByteArray} {n0 n1 n3 n4 n5 n6 n7 : Int} {d8 : ByteArray} {t0 t1 t2 t3 t4 t5 t6 t7 t8 : RSt} (h0 : rUnsigned 3 ⟨b, 0, 0⟩ = (n0, t0)) (h1 : rUnsigned 5 t0 = (n1, t1)) (h2 : rFlag t1 = (false, t2)) (h3 : rUnsigned 8 t2 = (n3, t3)) (h4 : rUnsigned 8 t3 = (n4, t4)) (h5 : rUnsigned 27 t4 = (n5, t5)) (h6 : rUnsigned 16 t5 = (n6, t6)) (h7 : rUnsigned 16 t6 = (n7, t7)) (h8 : rText 127 t7 = (d8, t8)) (hk : n0 = 3) :
    allF (macR 0 0 0) (zeroF, ⟨b, 0, 0⟩) = (⟨3, n1, -1, n3, n4, 0, 0, 0, n5, n6, n7, d8⟩, t8) ∧ t8 = rIter (fl (fl3f zeroF)) ⟨b, 0, 0⟩ 9 ∧ enS ⟨3, n1, -1, n3, n4, 0, 0, 0, n5, n6, n7, d8⟩ = wIter (fl (fl3f zeroF)) ⟨b, 0, 0⟩ ⟨[], 0⟩ 9 := by
  subst hk
  refine ⟨?_, ?_, ?_⟩
  · unfold allF hdF
    rw [intR 0 h0, intR 1 h1, tgtR0 h2, intR 3 h3, intR 4 h4]
    rw [knd3 _ _ rfl]
    unfold beaF
    rw [intR 8 h5, intR 9 h6, intR 10 h7, txtR h8]
    simp only [setI, zeroF]
  · simp [rIter, rRead, fl, fl3f, fU, fB, fT, h0, h1, h2, h3, h4, h5, h6, h7, h8]
  · simp [enS, kdS, hdS, tgS, wIter, wWrite, rIter, rRead, fl, fl3f, fU, fB, fT, h0, h1, h2, h3, h4, h5, h6, h7, h8]
set_option maxHeartbeats 1000000 in
theorem sr4t {b : ByteArray} {n0 n1 n3 n4 n5 : Int} {d6 : ByteArray} {t0 t1 t2 t3 t4 t5 t6 : RSt} (h0 : rUnsigned 3 ⟨b, 0, 0⟩ = (n0, t0)) (h1 : rUnsigned 5 t0 = (n1, t1)) (h2 : rFlag t1 = (true, t2)) (h3 : rUnsigned 5 t2 = (n3, t3)) (h4 : rUnsigned 8 t3 = (n4, t4)) (h5 : rUnsigned 8 t4 = (n5, t5)) (h6 : rText 127 t5 = (d6, t6)) (hk : n0 = 4) (ht : (n3 != -1) = true) :
    allF (macR 0 0 0) (zeroF, ⟨b, 0, 0⟩) = (⟨4, n1, n3, n4, n5, 0, 0, 0, 0, 0, 0, d6⟩, t6) ∧ t6 = rIter (fl (fl4t zeroF)) ⟨b, 0, 0⟩ 7 ∧ enS ⟨4, n1, n3, n4, n5, 0, 0, 0, 0, 0, 0, d6⟩ = wIter (fl (fl4t zeroF)) ⟨b, 0, 0⟩ ⟨[], 0⟩ 7 := by
  subst hk
  refine ⟨?_, ?_, ?_⟩
  · unfold allF hdF
    rw [intR 0 h0, intR 1 h1, tgtR1 h2 h3, intR 3 h4, intR 4 h5]
    rw [knd4 _ _ rfl]
    rw [txtR h6]
    simp only [setI, zeroF]
  · simp [rIter, rRead, fl, fl4t, fU, fB, fT, h0, h1, h2, h3, h4, h5, h6]
  · simp [enS, kdS, hdS, tgS, ht, wIter, wWrite, rIter, rRead, fl, fl4t, fU, fB, fT, h0, h1, h2, h3, h4, h5, h6]
set_option maxHeartbeats 1000000 in
theorem sr4f {b : ByteArray} {n0 n1 n3 n4 : Int} {d5 : ByteArray} {t0 t1 t2 t3 t4 t5 : RSt} (h0 : rUnsigned 3 ⟨b, 0, 0⟩ = (n0, t0)) (h1 : rUnsigned 5 t0 = (n1, t1)) (h2 : rFlag t1 = (false, t2)) (h3 : rUnsigned 8 t2 = (n3, t3)) (h4 : rUnsigned 8 t3 = (n4, t4)) (h5 : rText 127 t4 = (d5, t5)) (hk : n0 = 4) :
    allF (macR 0 0 0) (zeroF, ⟨b, 0, 0⟩) = (⟨4, n1, -1, n3, n4, 0, 0, 0, 0, 0, 0, d5⟩, t5) ∧ t5 = rIter (fl (fl4f zeroF)) ⟨b, 0, 0⟩ 6 ∧ enS ⟨4, n1, -1, n3, n4, 0, 0, 0, 0, 0, 0, d5⟩ = wIter (fl (fl4f zeroF)) ⟨b, 0, 0⟩ ⟨[], 0⟩ 6 := by
  subst hk
  refine ⟨?_, ?_, ?_⟩
  · unfold allF hdF
    rw [intR 0 h0, intR 1 h1, tgtR0 h2, intR 3 h3, intR 4 h4]
    rw [knd4 _ _ rfl]
    rw [txtR h5]
    simp only [setI, zeroF]
  · simp [rIter, rRead, fl, fl4f, fU, fB, fT, h0, h1, h2, h3, h4, h5]
  · simp [enS, kdS, hdS, tgS, wIter, wWrite, rIter, rRead, fl, fl4f, fU, fB, fT, h0, h1, h2, h3, h4, h5]
theorem strict_all (b : ByteArray) (hb : b.size ≤ 65536) (hx : okF (allF (macR 0 0 0) (zeroF, ⟨b, 0, 0⟩)).1 = true) (hc : rClose (allF (macR 0 0 0) (zeroF, ⟨b, 0, 0⟩)).2 = 0) :
    wBytes (enS (allF (macR 0 0 0) (zeroF, ⟨b, 0, 0⟩)).1) = b ∧ (enS (allF (macR 0 0 0) (zeroF, ⟨b, 0, 0⟩)).1).e = 0 := by
  obtain ⟨n0, t0, h0⟩ : ∃ n t, rUnsigned 3 ⟨b, 0, 0⟩ = (n, t) := ⟨_, _, rfl⟩
  obtain ⟨n1, t1, h1⟩ : ∃ n t, rUnsigned 5 t0 = (n, t) := ⟨_, _, rfl⟩
  obtain ⟨g, t2, h2⟩ : ∃ n t, rFlag t1 = (n, t) := ⟨_, _, rfl⟩
  cases g
  · obtain ⟨n3, t3, h3⟩ : ∃ n t, rUnsigned 8 t2 = (n, t) := ⟨_, _, rfl⟩
    obtain ⟨n4, t4, h4⟩ : ∃ n t, rUnsigned 8 t3 = (n, t) := ⟨_, _, rfl⟩
    have hh : hdF (macR 0 0 0) (zeroF, ⟨b, 0, 0⟩) = (⟨n0, n1, -1, n3, n4, 0, 0, 0, 0, 0, 0, ⟨#[]⟩⟩, t4) := by
      unfold hdF
      rw [intR 0 h0, intR 1 h1, tgtR0 h2, intR 3 h3, intR 4 h4]
      rfl
    have hp : allF (macR 0 0 0) (zeroF, ⟨b, 0, 0⟩) = kndF (macR 0 0 0) (⟨n0, n1, -1, n3, n4, 0, 0, 0, 0, 0, 0, ⟨#[]⟩⟩, t4) := by unfold allF; rw [hh]
    by_cases k1 : n0 = 1
    · exfalso
      rw [hp, knd1 _ _ k1] at hx
      obtain ⟨_, _, q2, _⟩ := okF_parts hx
      have q3 := (adB_parts q2).2.2.1 rfl
      have e : (datF (macR 0 0 0) (⟨n0, n1, -1, n3, n4, 0, 0, 0, 0, 0, 0, ⟨#[]⟩⟩, t4)).1.k = n0 := rfl
      rw [e] at q3
      omega
    by_cases k2 : n0 = 2
    · exfalso
      rw [hp, knd2 _ _ k2] at hx
      obtain ⟨_, _, q2, _⟩ := okF_parts hx
      have q3 := (adB_parts q2).2.2.1 rfl
      have e : (sgnF (macR 0 0 0) 7 16 (⟨n0, n1, -1, n3, n4, 0, 0, 0, 0, 0, 0, ⟨#[]⟩⟩, t4)).1.k = n0 := rfl
      rw [e] at q3
      omega
    by_cases k3 : n0 = 3
    · obtain ⟨n5, t5, h5⟩ : ∃ n t, rUnsigned 27 t4 = (n, t) := ⟨_, _, rfl⟩
      obtain ⟨n6, t6, h6⟩ : ∃ n t, rUnsigned 16 t5 = (n, t) := ⟨_, _, rfl⟩
      obtain ⟨n7, t7, h7⟩ : ∃ n t, rUnsigned 16 t6 = (n, t) := ⟨_, _, rfl⟩
      obtain ⟨d8, t8, h8⟩ : ∃ n t, rText 127 t7 = (n, t) := ⟨_, _, rfl⟩
      obtain ⟨r1, r2, r3⟩ := sr3f h0 h1 h2 h3 h4 h5 h6 h7 h8 k3
      rw [r1] at hc ⊢
      exact strict_end _ _ b hb _ _ r2 r3 hc
    by_cases k4 : n0 = 4
    · obtain ⟨d5, t5, h5⟩ : ∃ n t, rText 127 t4 = (n, t) := ⟨_, _, rfl⟩
      obtain ⟨r1, r2, r3⟩ := sr4f h0 h1 h2 h3 h4 h5 k4
      rw [r1] at hc ⊢
      exact strict_end _ _ b hb _ _ r2 r3 hc
    · exfalso
      have hk : kndF (macR 0 0 0) (⟨n0, n1, -1, n3, n4, 0, 0, 0, 0, 0, 0, ⟨#[]⟩⟩, t4) = (⟨n0, n1, -1, n3, n4, 0, 0, 0, 0, 0, 0, ⟨#[]⟩⟩, t4) := by simp [kndF, k1, k2, k3, k4]
      rw [hp, hk] at hx
      have := (okF_parts hx).1
      simp only at this
      omega
  · obtain ⟨n3, t3, h3⟩ : ∃ n t, rUnsigned 5 t2 = (n, t) := ⟨_, _, rfl⟩
    obtain ⟨n4, t4, h4⟩ : ∃ n t, rUnsigned 8 t3 = (n, t) := ⟨_, _, rfl⟩
    obtain ⟨n5, t5, h5⟩ : ∃ n t, rUnsigned 8 t4 = (n, t) := ⟨_, _, rfl⟩
    have hn3 : 0 ≤ n3 := by have := rU_nonneg 5 t2; rw [h3] at this; exact this
    have ht : (n3 != -1) = true := by simp; omega
    have hh : hdF (macR 0 0 0) (zeroF, ⟨b, 0, 0⟩) = (⟨n0, n1, n3, n4, n5, 0, 0, 0, 0, 0, 0, ⟨#[]⟩⟩, t5) := by
      unfold hdF
      rw [intR 0 h0, intR 1 h1, tgtR1 h2 h3, intR 3 h4, intR 4 h5]
      rfl
    have hp : allF (macR 0 0 0) (zeroF, ⟨b, 0, 0⟩) = kndF (macR 0 0 0) (⟨n0, n1, n3, n4, n5, 0, 0, 0, 0, 0, 0, ⟨#[]⟩⟩, t5) := by unfold allF; rw [hh]
    by_cases k1 : n0 = 1
    · obtain ⟨n6, t6, h6⟩ : ∃ n t, rUnsigned 8 t5 = (n, t) := ⟨_, _, rfl⟩
      obtain ⟨n7, t7, h7⟩ : ∃ n t, rUnsigned 16 t6 = (n, t) := ⟨_, _, rfl⟩
      obtain ⟨d8, t8, h8⟩ : ∃ n t, rText 127 t7 = (n, t) := ⟨_, _, rfl⟩
      obtain ⟨r1, r2, r3⟩ := sr1t h0 h1 h2 h3 h4 h5 h6 h7 h8 k1 ht
      rw [r1] at hc ⊢
      exact strict_end _ _ b hb _ _ r2 r3 hc
    by_cases k2 : n0 = 2
    · obtain ⟨n6, t6, h6⟩ : ∃ n t, rSigned 16 t5 = (n, t) := ⟨_, _, rfl⟩
      obtain ⟨r1, r2, r3⟩ := sr2t h0 h1 h2 h3 h4 h5 h6 k2 ht
      rw [r1] at hc ⊢
      exact strict_end _ _ b hb _ _ r2 r3 hc
    by_cases k3 : n0 = 3
    · exfalso
      rw [hp, knd3 _ _ k3] at hx
      obtain ⟨_, _, q2, _⟩ := okF_parts hx
      have q3 := (adB_parts q2).2.2.2
      have e : (beaF (macR 0 0 0) (⟨n0, n1, n3, n4, n5, 0, 0, 0, 0, 0, 0, ⟨#[]⟩⟩, t5)).1.k = n0 := rfl
      have e2 : (beaF (macR 0 0 0) (⟨n0, n1, n3, n4, n5, 0, 0, 0, 0, 0, 0, ⟨#[]⟩⟩, t5)).1.t = n3 := rfl
      rw [e, e2] at q3
      have := (q3 (by omega)).1
      omega
    by_cases k4 : n0 = 4
    · obtain ⟨d6, t6, h6⟩ : ∃ n t, rText 127 t5 = (n, t) := ⟨_, _, rfl⟩
      obtain ⟨r1, r2, r3⟩ := sr4t h0 h1 h2 h3 h4 h5 h6 k4 ht
      rw [r1] at hc ⊢
      exact strict_end _ _ b hb _ _ r2 r3 hc
    · exfalso
      have hk : kndF (macR 0 0 0) (⟨n0, n1, n3, n4, n5, 0, 0, 0, 0, 0, 0, ⟨#[]⟩⟩, t5) = (⟨n0, n1, n3, n4, n5, 0, 0, 0, 0, 0, 0, ⟨#[]⟩⟩, t5) := by simp [kndF, k1, k2, k3, k4]
      rw [hp, hk] at hx
      have := (okF_parts hx).1
      simp only at this
      omega
theorem deE_0 {s : ByteArray} (h : deE s = 0) : s.size ≤ 127 ∧ chkE s = 0 ∧ rClose (deA s).2 = 0 ∧ okF (deA s).1 = true ∧ deV s = (deA s).1 := by
  unfold deE at h
  split at h
  · rename_i h1
    split at h
    · rename_i h2
      split at h
      · rename_i h3
        split at h
        · rename_i h4
          refine ⟨h1, h2, h3, h4, ?_⟩
          unfold deV
          rw [if_pos h1, if_pos h2, if_pos h3, if_pos h4]
        · cases h
      · cases h
    · rename_i h2
      exact absurd h h2
  · cases h
theorem deE_n {s : ByteArray} (h : deE s ≠ 0) : deV s = zeroF := by
  unfold deE at h
  unfold deV
  split
  · rename_i h1
    rw [if_pos h1] at h
    split
    · rename_i h2
      rw [if_pos h2] at h
      split
      · rename_i h3
        rw [if_pos h3] at h
        split
        · rename_i h4
          rw [if_pos h4] at h
          exact absurd rfl h
        · rfl
      · rfl
    · rfl
  · rfl
theorem chkE_inv {s : ByteArray} (h : chkE s = 0) : 2 ≤ s.size ∧ protB (chkV s) = s := by
  unfold chkE at h
  split at h
  · cases h
  · rename_i h1
    split at h
    · rename_i h2
      have hs : s.size = (s.size - 2) + 2 := by omega
      refine ⟨by omega, ?_⟩
      unfold chkV
      rw [if_neg h1, if_pos h2]
      exact (prot_iff s (s.size - 2) hs).2 h2
    · cases h
theorem strict_frame {s : ByteArray} (h : deE s = 0) : enV (deV s) = s ∧ enE (deV s) = 0 := by
  obtain ⟨h1, h2, h3, h4, h5⟩ := deE_0 h
  obtain ⟨h6, h7⟩ := chkE_inv h2
  have hb : (chkV s).size ≤ 127 := chkV_small s h1
  have hr : rNew (chkV s) = ⟨chkV s, 0, 0⟩ := by unfold rNew; rw [if_neg (by omega)]
  have hA : deA s = allF (macR 0 0 0) (zeroF, ⟨chkV s, 0, 0⟩) := by unfold deA; rw [hr]
  rw [hA] at h3 h4
  obtain ⟨g1, g2⟩ := strict_all (chkV s) (by omega) h4 h3
  rw [← hA] at g1 g2 h4
  have hp : prS (deA s).1 = s := by unfold prS; rw [g1, h7]
  have := enc_4 h4 g2 (by rw [hp]; exact h1)
  rw [h5, this.1, hp]
  exact ⟨rfl, this.2⟩
theorem wText_e {d : ByteArray} {st : WSt} (h : (wText 127 d st).e = 0) : d.size ≤ 127 := by
  unfold wText wField at h
  by_cases e : st.e = 0
  · rw [if_neg (by simp [e])] at h
    by_cases g : tErr 127 d.size = 0
    · have := (tErr_zero g).2.2
      omega
    · rw [if_pos g] at h
      exact absurd h g
  · rw [if_pos e] at h
    exact absurd h e
theorem en_small {x : Frm} (hx : okF x = true) (he : (enS x).e = 0) : x.d.size ≤ 127 := by
  obtain ⟨h0, h1, _⟩ := okF_parts hx
  have hn := eqF_eq h1
  unfold enS kdS at he
  rcases (show x.k = 1 ∨ x.k = 2 ∨ x.k = 3 ∨ x.k = 4 by omega) with hk | hk | hk | hk
  · rw [if_pos hk] at he
    exact wText_e he
  · have : nmF x = ⟨x.k, x.s, x.t, x.l, x.q, 0, 0, x.e, 0, 0, 0, ⟨#[]⟩⟩ := by unfold nmF; rw [if_neg (by omega), if_pos hk]
    rw [hn, this]
    exact Nat.zero_le _
  · rw [if_neg (by omega), if_neg (by omega), if_pos hk] at he
    exact wText_e he
  · rw [if_neg (by omega), if_neg (by omega), if_neg (by omega), if_pos hk] at he
    exact wText_e he
end Go.Proofs.Ytelpdihaonoedaa
