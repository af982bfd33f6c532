/- FrameFinds: the law. -/
import Derived.Test.YtelpdihaonoedaaMst
import Derived.Test.YtelpdihaonoedaaAns
import Derived.Test.YtelpdihaonoedaaBytes
import Derived.Test.YtelpdihaonoedaaFlip
import Derived.BigRegion
namespace Go.Proofs.Ytelpdihaonoedaa
open Go.RowKit
set_option linter.unusedVariables false
set_option maxRecDepth 20000

theorem wf_u16 {n : Int} (h : (Lit.int .u16 n).wf = true) : 0 ≤ n ∧ n ≤ 65535 := by
  simp [Lit.wf, IntKind.min, IntKind.max, IntKind.signed, IntKind.bits] at h
  omega
theorem check_val (d : ByteArray) (h2 : 2 ≤ d.size) : chkE d = if val 0#16 (bytesOf d) = 0#16 then 0 else 10 := by
  rw [chkE, if_neg (by omega), synL_val _ (bytesOf_lt d) (by rw [bytesOf_len]; exact h2)]
theorem val_prot (d : ByteArray) : val 0#16 (bytesOf (protB d)) = 0#16 := by
  rw [← synL_val _ (bytesOf_lt _) (by rw [bytesOf_len, prot_size]; omega), bytesOf_prot, synL_prot]
/-- One bit of the byte i / 8 turned. -/
def tnL (l : List Nat) (i : Nat) : List Nat := l.set (i / 8) (l.getD (i / 8) 0 ^^^ 2 ^ (i % 8))
def inv (n i : Nat) : Nat := 8 * (n - 1 - i / 8) + i % 8
theorem tn_fl (l : List Nat) (i : Nat) (hi : i < 8 * l.length) : tnL l i = flL l (inv l.length i) := by
  have e1 : inv l.length i / 8 = l.length - 1 - i / 8 := by unfold inv; omega
  have e2 : inv l.length i % 8 = i % 8 := by unfold inv; omega
  unfold tnL flL
  rw [e1, e2, show l.length - 1 - (l.length - 1 - i / 8) = i / 8 by omega]
theorem inv_lt (n i : Nat) (hi : i < 8 * n) : inv n i < 8 * n := by unfold inv; omega
theorem inv_inj {n i k : Nat} (hi : i < 8 * n) (hk : k < 8 * n) (h : inv n i = inv n k) : i = k := by unfold inv at h; omega
theorem tn_len (l : List Nat) (i : Nat) : (tnL l i).length = l.length := by simp [tnL]
theorem tn_lt (l : List Nat) (i : Nat) (hi : i < 8 * l.length) (h : ∀ x ∈ l, x < 256) : ∀ x ∈ tnL l i, x < 256 := by rw [tn_fl l i hi]; exact flL_lt _ _ h
theorem tn_tn (l : List Nat) (i : Nat) (hi : i < 8 * l.length) : tnL (tnL l i) i = l := by
  have h : i / 8 < l.length := by omega
  unfold tnL
  apply List.ext_getElem
  · simp
  · intro j h1 h2
    by_cases e : i / 8 = j
    · subst e
      simp [List.getD_eq_getElem?_getD, h, Nat.xor_assoc]
    · simp [List.getElem_set_ne e]
theorem pw_ne_zero (n : Nat) : pw n ≠ 0#16 := by
  intro e
  have := par_pw n
  rw [e] at this
  exact absurd this (by decide)
theorem xor_eq_zero (a b : Wd) (h : a ^^^ b = 0#16) : a = b := by
  have : a ^^^ b ^^^ b = 0#16 ^^^ b := by rw [h]
  simpa [BitVec.xor_assoc] using this
theorem bytes_str_size (l : List Nat) : (strOf l).size = l.length := strOf_size l
theorem deE_bad {l : List Nat} (h : ∀ x ∈ l, x < 256) (h2 : 2 ≤ l.length) (h127 : l.length ≤ 127) (hv : val 0#16 l ≠ 0#16) : deE (strOf l) = 10 := by
  have hs : (strOf l).size = l.length := strOf_size l
  have hc : chkE (strOf l) = 10 := by rw [check_val _ (by omega), bytesOf_str l h, if_neg hv]
  unfold deE
  rw [if_pos (by omega), if_neg (by rw [hc]; decide), hc]
theorem turn_one {V : ByteArray} {i : Nat} (hv : val 0#16 (bytesOf V) = 0#16) (h2 : 2 ≤ V.size) (h127 : V.size ≤ 127) (hi : i < 8 * V.size) : deE (strOf (tnL (bytesOf V) i)) = 10 := by
  have hl : (bytesOf V).length = V.size := bytesOf_len V
  refine deE_bad (tn_lt _ _ (by rw [hl]; exact hi) (bytesOf_lt V)) (by rw [tn_len, hl]; exact h2) (by rw [tn_len, hl]; exact h127) ?_
  rw [tn_fl _ _ (by rw [hl]; exact hi), val_flip _ _ (by rw [hl]; exact inv_lt _ _ hi), hv, BitVec.zero_xor]
  exact pw_ne_zero _
theorem turn_two {V : ByteArray} {i k : Nat} (hv : val 0#16 (bytesOf V) = 0#16) (h2 : 2 ≤ V.size) (h127 : V.size ≤ 127) (hi : i < 8 * V.size) (hk : k < 8 * V.size) (hne : i ≠ k) : deE (strOf (tnL (tnL (bytesOf V) i) k)) = 10 := by
  have hl : (bytesOf V).length = V.size := bytesOf_len V
  have hl1 : (tnL (bytesOf V) i).length = V.size := by rw [tn_len, hl]
  refine deE_bad (tn_lt _ _ (by rw [hl1]; exact hk) (tn_lt _ _ (by rw [hl]; exact hi) (bytesOf_lt V))) (by rw [tn_len, hl1]; exact h2) (by rw [tn_len, hl1]; exact h127) ?_
  rw [tn_fl _ k (by rw [hl1]; exact hk), val_flip _ _ (by rw [hl1]; exact inv_lt _ _ hk), tn_fl _ i (by rw [hl]; exact hi), val_flip _ _ (by rw [hl]; exact inv_lt _ _ hi), hv, BitVec.zero_xor, flL_len, hl]
  intro e
  have := pw_inj (by have := inv_lt V.size i hi; omega) (by have := inv_lt V.size k hk; omega) (xor_eq_zero _ _ e)
  exact hne (inv_inj hi hk this)
theorem turn_back {V : ByteArray} {i : Nat} (hi : i < 8 * V.size) : strOf (tnL (tnL (bytesOf V) i) i) = V := by
  rw [tn_tn _ _ (by rw [bytesOf_len]; exact hi)]
  have : bytesOf (strOf (bytesOf V)) = bytesOf V := bytesOf_str _ (bytesOf_lt V)
  exact bytesOf_inj this
theorem xor_turn (l : List Nat) (j r : Nat) (hl : ∀ x ∈ l, x < 256) (hj : j < l.length) (hr : r < 8) : bits .xor .u8 ((l.getD j 0 : Nat) : Int) ((2 : Int) ^ r % (256 : Int)) = ((l.getD j 0 ^^^ 2 ^ r : Nat) : Int) := by
  have h2 := pow_small r hr
  rw [show (2 : Int) ^ r % (256 : Int) = ((2 ^ r : Nat) : Int) by rw [show (2 : Int) ^ r = ((2 ^ r : Nat) : Int) by rw [Int.natCast_pow]; rfl]; exact Int.emod_eq_of_lt (Int.natCast_nonneg _) (Int.ofNat_lt.2 h2)]
  refine xor_byte _ _ ?_ h2
  rw [List.getD_eq_getElem?_getD, List.getElem?_eq_getElem hj]
  exact hl _ (List.getElem_mem hj)
theorem finds_bigF (x : Frm) (a b : Int) (w : World) (hd : 100 < x.d.size) : Calls Try.prog 8 #[.agg (frA x), .int .u16 a, .int .u16 b] w fun e w' => e = .returned (.bool true) ∧ Fr no w w' := by
  have HAW := Lib.hid awake_any
  obtain ⟨k, s, t, l, q, f, n, e, sl, r, ep, d⟩ := x
  simp only at hd
  have hd1 : (100 : Int) < (d.size : Int) := by omega
  clear hd
  simp only [frA]
  obtain ⟨w0, hW⟩ : ∃ w0, w0 = w.alloc (.cells #[.int .i64 k, .int .i64 s, .int .i64 t, .int .i64 l, .int .i64 q, .int .i64 f, .int .i64 n, .int .i64 e, .int .i64 sl, .int .i64 r, .int .i64 ep, .string d] 23 (0, 0)) := ⟨_, rfl⟩
  have hBc : w0.heap[w.heap.size]? = some (.cells #[.int .i64 k, .int .i64 s, .int .i64 t, .int .i64 l, .int .i64 q, .int .i64 f, .int .i64 n, .int .i64 e, .int .i64 sl, .int .i64 r, .int .i64 ep, .string d] 23 (0, 0)) := by rw [hW]; exact heap_alloc_new w _
  have Hc0 := Lib.hid hBc
  have HF0 := Lib.hid (show Fr no w w0 by rw [hW]; exact (Fr.refl no w).alloc _)
  have HW := Lib.hid hW
  obtain ⟨c0, c1, c2, c3, c4, c5, c6, c7, c8, c9, c10, c11⟩ := twelve_cells Hc0.out
  clear hW hBc
  go_enter Try.func8, Try.ntmps8
  go_wp2_with fail
  rw [← HW.out]
  go_wp2_with fail
  refine (HAW.out _).mono ?_
  rintro e1 w1 ⟨rfl, f1⟩
  have HF1 := Lib.hid (HF0.out.noTrans f1)
  have Hc1 := Lib.hid (f1.blk Hc0.out (fun h => h))
  clear f1
  clear c0 c1 c2 c3 c4 c5 c6 c7 c8 c9 c10 c11
  obtain ⟨c0, c1, c2, c3, c4, c5, c6, c7, c8, c9, c10, c11⟩ := twelve_cells Hc1.out
  go_wp2_with fail
  go_ret
  exact ⟨rfl, HF1.out⟩
theorem finds_errF (x : Frm) (a b : Int) (w : World) (hd : ¬ 100 < x.d.size) (hE : enE x ≠ 0) : Calls Try.prog 8 #[.agg (frA x), .int .u16 a, .int .u16 b] w fun e w' => e = .returned (.bool true) ∧ Fr no w w' := by
  have HAW := Lib.hid awake_any
  have HT := Lib.hid (fun w => encode_any x w (by omega))
  have hE1 : (enE x != 0) = true := by simp [hE]
  clear hE
  generalize enE x = E at *
  generalize enV x = V at *
  obtain ⟨k, s, t, l, q, f, n, e, sl, r, ep, d⟩ := x
  simp only at hd
  have hd1 : ¬ (100 : Int) < (d.size : Int) := by omega
  clear hd
  simp only [frA] at HT ⊢
  obtain ⟨w0, hW⟩ : ∃ w0, w0 = w.alloc (.cells #[.int .i64 k, .int .i64 s, .int .i64 t, .int .i64 l, .int .i64 q, .int .i64 f, .int .i64 n, .int .i64 e, .int .i64 sl, .int .i64 r, .int .i64 ep, .string d] 23 (0, 0)) := ⟨_, rfl⟩
  have hBc : w0.heap[w.heap.size]? = some (.cells #[.int .i64 k, .int .i64 s, .int .i64 t, .int .i64 l, .int .i64 q, .int .i64 f, .int .i64 n, .int .i64 e, .int .i64 sl, .int .i64 r, .int .i64 ep, .string d] 23 (0, 0)) := by rw [hW]; exact heap_alloc_new w _
  have Hc0 := Lib.hid hBc
  have HF0 := Lib.hid (show Fr no w w0 by rw [hW]; exact (Fr.refl no w).alloc _)
  have HW := Lib.hid hW
  obtain ⟨c0, c1, c2, c3, c4, c5, c6, c7, c8, c9, c10, c11⟩ := twelve_cells Hc0.out
  clear hW hBc
  go_enter Try.func8, Try.ntmps8
  go_wp2_with fail
  rw [← HW.out]
  go_wp2_with fail
  refine (HAW.out _).mono ?_
  rintro e1 w1 ⟨rfl, f1⟩
  have HF1 := Lib.hid (HF0.out.noTrans f1)
  have Hc1 := Lib.hid (f1.blk Hc0.out (fun h => h))
  clear f1
  clear c0 c1 c2 c3 c4 c5 c6 c7 c8 c9 c10 c11
  obtain ⟨c0, c1, c2, c3, c4, c5, c6, c7, c8, c9, c10, c11⟩ := twelve_cells Hc1.out
  go_wp2_with fail
  refine (HT.out _).mono ?_
  rintro e2 w2 ⟨rfl, f2⟩
  have HF2 := Lib.hid (HF1.out.noTrans f2)
  have Hc2 := Lib.hid (f2.blk Hc1.out (fun h => h))
  clear f2
  clear c0 c1 c2 c3 c4 c5 c6 c7 c8 c9 c10 c11
  obtain ⟨c0, c1, c2, c3, c4, c5, c6, c7, c8, c9, c10, c11⟩ := twelve_cells Hc2.out
  go_wp2_with fail
  go_ret
  exact ⟨by simp, HF2.out⟩
set_option maxHeartbeats 4000000 in
theorem finds_okF (x y1 y2 : Frm) (V : ByteArray) (a b : Int) (i k : Nat) (E2 : Int) (w : World) (hd : ¬ 100 < x.d.size) (a0 : 0 ≤ a) (a1 : a ≤ 65535) (b0 : 0 ≤ b) (b1 : b ≤ 65535) (h2 : 2 ≤ V.size) (h127 : V.size ≤ 127)
    (hi : (i : Int) = a % (8 * (V.size : Int))) (hk : (k : Int) = b % (8 * (V.size : Int)))
    (HT : Hid (∀ w, Calls Try.prog 12 #[.agg (frA x)] w fun e w' => e = .returned (.tuple #[.string V, .int .i64 0]) ∧ Fr no w w'))
    (HD1 : Hid (∀ w, Calls Try.prog 20 #[.string (strOf (tnL (bytesOf V) i))] w fun e w' => e = .returned (.tuple #[.agg (frA y1), .int .i64 10]) ∧ Fr no w w'))
    (HD2 : Hid (∀ w, Calls Try.prog 20 #[.string (strOf (tnL (tnL (bytesOf V) i) k))] w fun e w' => e = .returned (.tuple #[.agg (frA y2), .int .i64 E2]) ∧ Fr no w w'))
    (hE : (E2 == 10) = (((i : Int)) != (k : Int))) :
    Calls Try.prog 8 #[.agg (frA x), .int .u16 a, .int .u16 b] w fun e w' => e = .returned (.bool true) ∧ Fr no w w' := by
  have HAW := Lib.hid awake_any
  have HEE := Lib.hid hE
  have v0 : ((V.size : Int) == 0) = false := by rw [beq_eq_false_iff_ne]; omega
  have v1 : ¬ (8 * (V.size : Int)) = 0 := by omega
  have v4 : IntKind.i64.wrap a = a := IntWalk.i64_in _ (by omega)
  have v5 : IntKind.i64.wrap b = b := IntWalk.i64_in _ (by omega)
  have v2 : (V.size : Int) ≤ 127 := by omega
  have v3 : 2 ≤ (V.size : Int) := by omega
  have ha1 : Int.tmod a (8 * (V.size : Int)) = (i : Int) := by rw [Int.tmod_eq_emod_of_nonneg a0, hi]
  have hb1 : Int.tmod b (8 * (V.size : Int)) = (k : Int) := by rw [Int.tmod_eq_emod_of_nonneg b0, hk]
  have hil : i < 8 * V.size := by have := Int.emod_lt_of_pos a (show 0 < 8 * (V.size : Int) by omega); omega
  have hkl : k < 8 * V.size := by have := Int.emod_lt_of_pos b (show 0 < 8 * (V.size : Int) by omega); omega
  have ha2 := hi.symm
  have hb2 := hk.symm
  clear hi hk hE h2 h127
  obtain ⟨xk, s, t, l, q, f, n, e, sl, r, ep, d⟩ := x
  obtain ⟨k1, s1, t1, l1, q1, f1, n1, e1, sl1, r1, ep1, d1⟩ := y1
  obtain ⟨k2, s2, t2, l2, q2, f2, n2, e2, sl2, r2, ep2, d2⟩ := y2
  simp only at hd
  have hd1 : ¬ (100 : Int) < (d.size : Int) := by omega
  clear hd
  simp only [frA] at HT HD1 HD2 ⊢
  obtain ⟨w0, hW⟩ : ∃ w0, w0 = w.alloc (.cells #[.int .i64 xk, .int .i64 s, .int .i64 t, .int .i64 l, .int .i64 q, .int .i64 f, .int .i64 n, .int .i64 e, .int .i64 sl, .int .i64 r, .int .i64 ep, .string d] 23 (0, 0)) := ⟨_, rfl⟩
  have hBc : w0.heap[w.heap.size]? = some (.cells #[.int .i64 xk, .int .i64 s, .int .i64 t, .int .i64 l, .int .i64 q, .int .i64 f, .int .i64 n, .int .i64 e, .int .i64 sl, .int .i64 r, .int .i64 ep, .string d] 23 (0, 0)) := by rw [hW]; exact heap_alloc_new w _
  have Hc0 := Lib.hid hBc
  have HF0 := Lib.hid (show Fr no w w0 by rw [hW]; exact (Fr.refl no w).alloc _)
  have HW := Lib.hid hW
  obtain ⟨c0, c1, c2, c3, c4, c5, c6, c7, c8, c9, c10, c11⟩ := twelve_cells Hc0.out
  clear hW hBc
  go_enter Try.func8, Try.ntmps8
  go_wp2_with fail
  rw [← HW.out]
  go_wp2_with fail
  refine (HAW.out _).mono ?_
  rintro e1 w1 ⟨rfl, f1⟩
  have HF1 := Lib.hid (HF0.out.noTrans f1)
  have Hc1 := Lib.hid (f1.blk Hc0.out (fun h => h))
  clear f1
  clear c0 c1 c2 c3 c4 c5 c6 c7 c8 c9 c10 c11
  obtain ⟨c0, c1, c2, c3, c4, c5, c6, c7, c8, c9, c10, c11⟩ := twelve_cells Hc1.out
  go_wp2_with fail
  refine (HT.out _).mono ?_
  rintro e2 w2 ⟨rfl, f2⟩
  have HF2 := Lib.hid (HF1.out.noTrans f2)
  have Hc2 := Lib.hid (f2.blk Hc1.out (fun h => h))
  clear f2
  clear c0 c1 c2 c3 c4 c5 c6 c7 c8 c9 c10 c11
  obtain ⟨c0, c1, c2, c3, c4, c5, c6, c7, c8, c9, c10, c11⟩ := twelve_cells Hc2.out
  go_wp2_with fail
  go_quiet (fail)
  obtain ⟨w3, hw3⟩ : ∃ w3, w3 = w2.drewN nq := ⟨_, rfl⟩
  rw [← hw3]
  have HF3 := Lib.hid (show Fr no w w3 by rw [hw3]; exact ⟨HF2.out.os, HF2.out.tape, HF2.out.output, HF2.out.size, HF2.out.block⟩)
  clear hw3 c0 c1 c2 c3 c4 c5 c6 c7 c8 c9 c10 c11 v1 v4 v5 ha1 ha2 hb1 hb2
  have hcv := conv_to w3 V
  have HB4 := Lib.hid (Bts.new w3 V)
  have HF4 := Lib.hid (HF3.out.noTrans (Fr.bytes w3 V))
  have HS4 := Lib.hid (show w.heap.size ≤ w3.heap.size from HF3.out.size)
  generalize Lib.bytesWorld w3 5 V = w4 at *
  generalize grownCap w3 V.size 0 5 = cap at *
  go_wp2_with fail
  clear hcv
  have HLT := Lib.hid (bytesOf_lt V)
  have HLN := Lib.hid (bytesOf_len V)
  generalize bytesOf V = L at *
  obtain ⟨qi, hqi⟩ : ∃ q, q = i / 8 := ⟨_, rfl⟩
  obtain ⟨ri, hri⟩ : ∃ r, r = i % 8 := ⟨_, rfl⟩
  obtain ⟨qk, hqk⟩ : ∃ q, q = k / 8 := ⟨_, rfl⟩
  obtain ⟨rk, hrk⟩ : ∃ r, r = k % 8 := ⟨_, rfl⟩
  have hq1 : Int.tdiv (i : Int) 8 = (qi : Int) := by rw [Int.tdiv_eq_ediv_of_nonneg (by omega)]; omega
  have hq2 : (i : Int) / (8 : Int) = (qi : Int) := by omega
  have hr1 : (i : Int) % (8 : Int) = (ri : Int) := by omega
  have hr2 : Int.tmod (i : Int) 8 = (ri : Int) := by rw [Int.tmod_eq_emod_of_nonneg (by omega)]; omega
  have hr8 : (ri : Int) ≤ 7 := by omega
  have hqI : (qi : Int) < (V.size : Int) := by omega
  have hqL : qi < L.length := by rw [HLN.out]; omega
  have HT1 := Lib.hid (show tnL L i = L.set qi (L.getD qi 0 ^^^ 2 ^ ri) by unfold tnL; rw [hqi, hri])
  have HX1 := Lib.hid (show bits .xor .u8 ((L[qi]?.getD 0 : Nat) : Int) ((2 : Int) ^ ri % (256 : Int)) = ((L.getD qi 0 ^^^ 2 ^ ri : Nat) : Int) by rw [← List.getD_eq_getElem?_getD]; exact xor_turn L qi ri HLT.out hqL (by omega))
  have HL1 := Lib.hid (tn_lt L i (by rw [HLN.out]; exact hil) HLT.out)
  have kq1 : Int.tdiv (k : Int) 8 = (qk : Int) := by rw [Int.tdiv_eq_ediv_of_nonneg (by omega)]; omega
  have kq2 : (k : Int) / (8 : Int) = (qk : Int) := by omega
  have kr1 : (k : Int) % (8 : Int) = (rk : Int) := by omega
  have kr2 : Int.tmod (k : Int) 8 = (rk : Int) := by rw [Int.tmod_eq_emod_of_nonneg (by omega)]; omega
  have kr8 : (rk : Int) ≤ 7 := by omega
  have kqI : (qk : Int) < (V.size : Int) := by omega
  have HN1 := Lib.hid (show (tnL L i).length = V.size by rw [tn_len, HLN.out])
  have HT2 := Lib.hid (show tnL (tnL L i) k = (tnL L i).set qk ((tnL L i).getD qk 0 ^^^ 2 ^ rk) by rw [hqk, hrk]; rfl)
  have HX2 := Lib.hid (show bits .xor .u8 (((tnL L i)[qk]?.getD 0 : Nat) : Int) ((2 : Int) ^ rk % (256 : Int)) = (((tnL L i).getD qk 0 ^^^ 2 ^ rk : Nat) : Int) by rw [← List.getD_eq_getElem?_getD]; exact xor_turn (tnL L i) qk rk HL1.out (by rw [HN1.out]; omega) (by omega))
  have HL2 := Lib.hid (tn_lt (tnL L i) k (by rw [HN1.out]; exact hkl) HL1.out)
  have HN2 := Lib.hid (show (tnL (tnL L i) k).length = V.size by rw [tn_len, HN1.out])
  have HQ2 := Lib.hid (show qk < (tnL L i).length by rw [HN1.out]; omega)
  have hcell := HB4.out.cell qi hqL
  have hfz := HB4.out.frozen qi hqL
  clear hqi hri hqk hrk hil hkl hqL v3
  go_region
  go_wp2_with fail
  rw [HX1.out]
  clear hcell hfz
  obtain ⟨w5, hw5⟩ : ∃ w5, w5 = (w4.setCell ⟨w3.heap.size, qi, none⟩ (.int .u8 ((L.getD qi 0 ^^^ 2 ^ ri : Nat) : Int))).drew := ⟨_, rfl⟩
  have HB5 := Lib.hid (show Bts w5 w3.heap.size (tnL L i) by rw [hw5, HT1.out]; exact (HB4.out.set qi _).drew)
  have HF5 := Lib.hid (show Fr no w w5 by
    rw [hw5]
    exact (HF4.out.setCell (p := ⟨w3.heap.size, qi, none⟩) (.inr HS4.out) _).drew)
  rw [← hw5]
  clear hw5
  have hcv := conv_back (cap := cap) (n := V.size) HB5.out HL1.out (by rw [HN1.out])
  rw [hcv]
  go_wp2_with fail
  clear hcv
  refine (HD1.out _).mono ?_
  rintro e6 w6 ⟨rfl, f6⟩
  have HB6 := Lib.hid (HB5.out.kept f6 (fun h => h))
  have HF6 := Lib.hid (HF5.out.noTrans f6)
  clear f6
  have HB7 := Lib.hid (HB6.out.kept ((Fr.refl no w6).alloc (.cells #[.int .i64 k1, .int .i64 s1, .int .i64 t1, .int .i64 l1, .int .i64 q1, .int .i64 f1, .int .i64 n1, .int .i64 e1, .int .i64 sl1, .int .i64 r1, .int .i64 ep1, .string d1] 23 (0, 0))) (fun h => h))
  have HF7 := Lib.hid (HF6.out.alloc (.cells #[.int .i64 k1, .int .i64 s1, .int .i64 t1, .int .i64 l1, .int .i64 q1, .int .i64 f1, .int .i64 n1, .int .i64 e1, .int .i64 sl1, .int .i64 r1, .int .i64 ep1, .string d1] 23 (0, 0)))
  go_wp2_with fail
  generalize w6.alloc (.cells #[.int .i64 k1, .int .i64 s1, .int .i64 t1, .int .i64 l1, .int .i64 q1, .int .i64 f1, .int .i64 n1, .int .i64 e1, .int .i64 sl1, .int .i64 r1, .int .i64 ep1, .string d1] 23 (0, 0)) = w7 at *
  have hcell := HB7.out.cell qk HQ2.out
  have hfz := HB7.out.frozen qk HQ2.out
  go_wp2_with fail
  go_region
  go_wp2_with fail
  rw [HX2.out]
  clear hcell hfz
  obtain ⟨w8, hw8⟩ : ∃ w8, w8 = (w7.setCell ⟨w3.heap.size, qk, none⟩ (.int .u8 (((tnL L i).getD qk 0 ^^^ 2 ^ rk : Nat) : Int))).drew := ⟨_, rfl⟩
  have HB8 := Lib.hid (show Bts w8 w3.heap.size (tnL (tnL L i) k) by rw [hw8, HT2.out]; exact (HB7.out.set qk _).drew)
  have HF8 := Lib.hid (show Fr no w w8 by
    rw [hw8]
    exact (HF7.out.setCell (p := ⟨w3.heap.size, qk, none⟩) (.inr HS4.out) _).drew)
  rw [← hw8]
  clear hw8
  have hcv := conv_back (cap := cap) (n := V.size) HB8.out HL2.out (by rw [HN2.out])
  rw [hcv]
  go_wp2_with fail
  clear hcv
  refine (HD2.out _).mono ?_
  rintro e9 w9 ⟨rfl, f9⟩
  have HF9 := Lib.hid (HF8.out.noTrans f9)
  clear f9
  go_wp2_with fail
  go_ret
  exact ⟨by simp [HEE.out], HF9.out.alloc _⟩
theorem finds_lawF (x : Frm) (a b : Int) (w : World) (a0 : 0 ≤ a) (a1 : a ≤ 65535) (b0 : 0 ≤ b) (b1 : b ≤ 65535) : Calls Try.prog 8 #[.agg (frA x), .int .u16 a, .int .u16 b] w fun e w' => e = .returned (.bool true) ∧ Fr no w w' := by
  by_cases hd : 100 < x.d.size
  · exact finds_bigF x a b w hd
  by_cases hE : enE x = 0
  · obtain ⟨c1, c2, c3, c4⟩ := enE_0 hE
    have hT := fun w => encode_any x w (by omega)
    rw [hE] at hT
    have hv : val 0#16 (bytesOf (enV x)) = 0#16 := by rw [c4]; exact val_prot _
    have h2 : 2 ≤ (enV x).size := by rw [c4]; unfold prS; rw [prot_size]; omega
    have h127 := enV_small x
    generalize hV : enV x = V at *
    have hp : 0 < 8 * (V.size : Int) := by omega
    have m1 := Int.emod_lt_of_pos a hp
    have m2 := Int.emod_nonneg a (show 8 * (V.size : Int) ≠ 0 by omega)
    have m3 := Int.emod_lt_of_pos b hp
    have m4 := Int.emod_nonneg b (show 8 * (V.size : Int) ≠ 0 by omega)
    obtain ⟨i, hi⟩ : ∃ i : Nat, (i : Int) = a % (8 * (V.size : Int)) := ⟨(a % (8 * (V.size : Int))).toNat, by omega⟩
    obtain ⟨k, hk⟩ : ∃ i : Nat, (i : Int) = b % (8 * (V.size : Int)) := ⟨(b % (8 * (V.size : Int))).toNat, by omega⟩
    have hil : i < 8 * V.size := by omega
    have hkl : k < 8 * V.size := by omega
    have s1 : (strOf (tnL (bytesOf V) i)).size ≤ 1000000 := by rw [strOf_size, tn_len, bytesOf_len]; omega
    have s2 : (strOf (tnL (tnL (bytesOf V) i) k)).size ≤ 1000000 := by rw [strOf_size, tn_len, tn_len, bytesOf_len]; omega
    have hD1 := fun w => decode_any (strOf (tnL (bytesOf V) i)) w s1
    rw [turn_one hv h2 h127 hil] at hD1
    have hD2 := fun w => decode_any (strOf (tnL (tnL (bytesOf V) i) k)) w s2
    refine finds_okF x _ _ V a b i k _ w hd a0 a1 b0 b1 h2 h127 hi hk (Lib.hid hT) (Lib.hid hD1) (Lib.hid hD2) ?_
    by_cases e : i = k
    · subst e
      rw [turn_back hil, ← hV, (back_frame hE).2]
      simp
    · rw [turn_two hv h2 h127 hil hkl e]
      simp; omega
  · exact finds_errF x a b w hd hE
end Go.Proofs.Ytelpdihaonoedaa
