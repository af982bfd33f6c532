/- The document's Protect; writing a frame by the document's writer. -/
import Derived.Test.YtelpdihaonoedaaRky
import Derived.Test.YtelpdihaonoedaaEnc
import Derived.Test.YtelpdihaonoedaaUpdR
import Derived.Test.YtelpdihaonoedaaRefW4
import Derived.Test.YtelpdihaonoedaaLw5
namespace Go.Proofs.Ytelpdihaonoedaa
open Go.RowKit
set_option linter.unusedVariables false
set_option maxRecDepth 20000

set_option maxHeartbeats 2000000 in
theorem protectR_any (d : ByteArray) (w : World) (hd : d.size ≤ 1000000) :
    Calls Try.prog 41 #[.string d] w fun e w' => e = .returned (.string (protB d)) ∧ Fr no w w' := by
  obtain ⟨s, hs⟩ : ∃ s, s = (updB 0#16 d) := ⟨_, rfl⟩
  have hp : protB d = d ++ ⟨#[UInt8.ofNat (s.toNat / 256), UInt8.ofNat (s.toNat % 256)]⟩ := by rw [hs]; rfl
  have HS := sumR_any d w hd
  rw [← hs] at HS
  have HS := Lib.hid HS
  have HP := Lib.hid hp
  have HF0 := Lib.hid (Fr.refl no w)
  clear hs hp
  go_enter Try.func41, Try.ntmps41
  go_wp2_with fail
  refine HS.out.mono ?_
  rintro e w1 ⟨rfl, rfl⟩
  have hsl := s.isLt
  obtain ⟨x, hx⟩ : ∃ x, x = s.toNat / 256 := ⟨_, rfl⟩
  obtain ⟨y, hy⟩ : ∃ y, y = s.toNat % 256 := ⟨_, rfl⟩
  rw [← hx, ← hy] at HP
  have hx' : (s.toNat : Int) / 256 = (x : Int) := by omega
  have hy' : (s.toNat : Int) % 256 = (y : Int) := by omega
  have hxl : x < 256 := by omega
  have hyl : y < 256 := by omega
  have hcv := conv_two (w1.alloc (.cells #[.int .u8 (x : Int), .int .u8 (y : Int)] 5 (0, 0))) w1.heap.size x y hxl hyl (heap_alloc_new w1 _)
  have HF := Lib.hid (HF0.out.alloc (.cells #[.int .u8 (x : Int), .int .u8 (y : Int)] 5 (0, 0)))
  clear hx hy hsl hxl hyl
  go_wp2_with fail
  go_ret
  rw [HP.out]
  exact ⟨rfl, HF.out⟩
theorem RwS.ownge {base : Nat} {w : World} {B : Nat} {v : Value} {st : WSt} (h : RwS base w B v st) (k : Nat) (hk : v.ownBlock = some k) : base ≤ k := by
  rcases h.own.2 with hn | ⟨g, cap, cur, rfl, hb, hg, rest⟩
  · rw [hn.1] at hk; cases hk
  · cases hk; exact hb
structure Rx (base F B : Nat) (w0 w : World) (x : Frm) (st : WSt) : Prop where
  v : ∃ v, RwS base w B v st ∧ v.ownBlock ≠ some F
  f : w.heap[F]? = some (.cells (frA x) 23 (0, 0))
  fb : F ≠ B
  fr : Fr (fun k => base ≤ k) w0 w
theorem Rx.step {base F B : Nat} {w0 w w' : World} {x : Frm} {st st' : WSt} {v v' : Value} (h : Rx base F B w0 w x st) (hv : v.ownBlock ≠ some F) (hw : RwS base w B v st) (hr : RwS base w' B v' st') (ha : Adv w w' B v v') : Rx base F B w0 w' x st' := by
  have nF : ¬ foot B v F := by rintro (e | e); exact h.fb e; exact hv e
  refine ⟨⟨v', hr, ?_⟩, ha.fr.blk h.f nF, h.fb, h.fr.trans (ha.fr.mono (S' := fun k => base ≤ k) ?_) (fun _ _ hh => hh)⟩
  · intro e
    rcases ha.row F e with e1 | e1
    · exact hv e1
    · have := lt_of_blk h.f; omega
  · intro i _ hi
    rcases hi with rfl | hi
    · exact hw.hB
    · exact hw.ownge i hi
theorem rxU {base F B : Nat} {w0 w : World} {x : Frm} {st : WSt} (h : Rx base F B w0 w x st) (wd n : Int) (hn : i64B n) : Calls Try.prog 36 #[.pointer (some ⟨B, 0, none⟩), .int .i64 wd, .int .i64 n] w fun e w' => e = .returned (.tuple #[]) ∧ Rx base F B w0 w' x (wUnsigned wd n st) := by
  obtain ⟨v, hw, hv⟩ := h.v
  exact (runsigned_any base B v st wd n w hn.1 hn.2 hw).mono fun _ _ ⟨he, v', hr, ha⟩ => ⟨he, h.step hv hw hr ha⟩
theorem rxS {base F B : Nat} {w0 w : World} {x : Frm} {st : WSt} (h : Rx base F B w0 w x st) (wd n : Int) (hn : i64B n) : Calls Try.prog 38 #[.pointer (some ⟨B, 0, none⟩), .int .i64 wd, .int .i64 n] w fun e w' => e = .returned (.tuple #[]) ∧ Rx base F B w0 w' x (wSigned wd n st) := by
  obtain ⟨v, hw, hv⟩ := h.v
  exact (rsigned_any base B v st wd n w hn.1 hn.2 hw).mono fun _ _ ⟨he, v', hr, ha⟩ => ⟨he, h.step hv hw hr ha⟩
theorem rxF {base F B : Nat} {w0 w : World} {x : Frm} {st : WSt} (h : Rx base F B w0 w x st) (b : Bool) : Calls Try.prog 37 #[.pointer (some ⟨B, 0, none⟩), .bool b] w fun e w' => e = .returned (.tuple #[]) ∧ Rx base F B w0 w' x (wFlag b st) := by
  obtain ⟨v, hw, hv⟩ := h.v
  exact (rflag_any base B v st b w hw).mono fun _ _ ⟨he, v', hr, ha⟩ => ⟨he, h.step hv hw hr ha⟩
theorem rxT {base F B : Nat} {w0 w : World} {x : Frm} {st : WSt} (h : Rx base F B w0 w x st) (d : ByteArray) (hd : d.size ≤ 127) : Calls Try.prog 39 #[.pointer (some ⟨B, 0, none⟩), .int .i64 127, .string d] w fun e w' => e = .returned (.tuple #[]) ∧ Rx base F B w0 w' x (wText 127 d st) := by
  obtain ⟨v, hw, hv⟩ := h.v
  exact (rtext_any base B v st 127 d w (by decide) (by omega) hw).mono fun _ _ ⟨he, v', hr, ha⟩ => ⟨he, h.step hv hw hr ha⟩
theorem rxB {base F B : Nat} {w0 w : World} {x : Frm} {st : WSt} (h : Rx base F B w0 w x st) : Calls Try.prog 40 #[.pointer (some ⟨B, 0, none⟩)] w fun e w' => e = .returned (.tuple #[.string (wBytes st), .int .i64 st.e]) ∧ Fr (fun k => base ≤ k) w0 w' := by
  obtain ⟨v, hw, hv⟩ := h.v
  exact (rbytes_any base B v st w hw).mono fun _ _ ⟨he, hf⟩ => ⟨he, h.fr.trans hf (fun _ _ hh => hh.elim)⟩
theorem ge_no {w0 w : World} (h : Fr (fun k => w0.heap.size ≤ k) w0 w) : Fr no w0 w := h.mono (fun i hi hh => absurd hh (Nat.not_le.2 hi))
set_option maxHeartbeats 4000000 in
theorem wrR1t (s t l q f n e sl r ep : Int) (d : ByteArray) (S : WSt) (P : ByteArray) (w : World) (hr : FrR ⟨1, s, t, l, q, f, n, e, sl, r, ep, d⟩) (hd : d.size ≤ 127) (ht : 0 ≤ t) (hS : (wText 127 d (wUnsigned 16 n (wUnsigned 8 f (wUnsigned 8 q (wUnsigned 8 l (wUnsigned 5 t (wFlag true (wUnsigned 5 s (wUnsigned 3 1 ⟨[], 0⟩))))))))) = S) (hb : wBytes S = P) (hP : P.size ≤ 1000000) (V : ByteArray) (E : Int)
    (hk : (¬ (protB P).size ≤ 127 ∧ V = ⟨#[]⟩ ∧ E = 8) ∨ ((protB P).size ≤ 127 ∧ V = protB P ∧ E = 0))
    (HV : Hid (∀ w, Calls Try.prog 19 #[.agg #[.int .i64 1, .int .i64 s, .int .i64 t, .int .i64 l, .int .i64 q, .int .i64 f, .int .i64 n, .int .i64 e, .int .i64 sl, .int .i64 r, .int .i64 ep, .string d]] w fun x w' => x = .returned (.int .i64 0) ∧ Fr no w w')) :
    Calls Try.prog 13 #[.agg #[.int .i64 1, .int .i64 s, .int .i64 t, .int .i64 l, .int .i64 q, .int .i64 f, .int .i64 n, .int .i64 e, .int .i64 sl, .int .i64 r, .int .i64 ep, .string d]] w fun e w' => e = .returned (.tuple #[.string V, .int .i64 E]) ∧ Fr no w w' := by
  have hd1 : ¬ (127 : Int) < (d.size : Int) := by omega
  have HD := Lib.hid hd
  have HRR := Lib.hid hr
  have HSS := Lib.hid hS
  have HBB := Lib.hid hb
  have HPP := Lib.hid (fun w => protectR_any P w hP)
  have HK := Lib.hid hk
  clear hd hr hS hb hP hk
  obtain ⟨w0, hW⟩ : ∃ w0, w0 = w.alloc (.cells #[.int .i64 1, .int .i64 s, .int .i64 t, .int .i64 l, .int .i64 q, .int .i64 f, .int .i64 n, .int .i64 e, .int .i64 sl, .int .i64 r, .int .i64 ep, .string d] 23 (0, 0)) := ⟨_, rfl⟩
  have hBc : w0.heap[w.heap.size]? = some (.cells #[.int .i64 1, .int .i64 s, .int .i64 t, .int .i64 l, .int .i64 q, .int .i64 f, .int .i64 n, .int .i64 e, .int .i64 sl, .int .i64 r, .int .i64 ep, .string d] 23 (0, 0)) := by rw [hW]; exact heap_alloc_new w _
  have Hc0 := Lib.hid hBc
  have HF0 := Lib.hid (show Fr no w w0 by rw [hW]; exact (Fr.refl no w).alloc _)
  have HW := Lib.hid hW
  obtain ⟨c0, c1, c2, c3, c4, c5, c6, c7, c8, c9, c10, c11⟩ := twelve_cells Hc0.out
  clear hW hBc
  go_enter Try.func13, Try.ntmps13
  go_wp2_with fail
  rw [← HW.out]
  go_wp2_with fail
  refine (HV.out _).mono ?_
  rintro e1 w1 ⟨rfl, f1⟩
  have HF1 := Lib.hid (HF0.out.noTrans f1)
  have Hc1 := Lib.hid (f1.blk Hc0.out (fun h => h))
  clear f1
  clear c0 c1 c2 c3 c4 c5 c6 c7 c8 c9 c10 c11
  obtain ⟨c0, c1, c2, c3, c4, c5, c6, c7, c8, c9, c10, c11⟩ := twelve_cells Hc1.out
  go_wp2_with fail
  refine (rnewWriter_any _).mono ?_
  rintro e2 w2 ⟨rfl, hw2⟩
  have R0 := Lib.hid (show Rx w.heap.size w.heap.size w1.heap.size w w2 ⟨1, s, t, l, q, f, n, e, sl, r, ep, d⟩ ⟨[], 0⟩ by
    refine ⟨⟨.slice none 0 0, ?_, by simp [Value.ownBlock]⟩, ?_, ?_, ?_⟩
    · rw [hw2]; exact rnewWriter_st _ _ HF1.out.size
    · rw [hw2]; exact alloc_keeps Hc1.out _
    · have := lt_of_blk Hc1.out; omega
    · rw [hw2]; exact (HF1.out.mono (fun _ _ hh => hh.elim)).alloc _)
  clear hw2
  clear c0 c1 c2 c3 c4 c5 c6 c7 c8 c9 c10 c11
  obtain ⟨c0, c1, c2, c3, c4, c5, c6, c7, c8, c9, c10, c11⟩ := twelve_cells (R0.out.f)
  go_wp2_with fail
  refine (rxU R0.out 3 1 (HRR.out.1 0 (by decide))).mono ?_
  rintro e3 w3 ⟨rfl, hr⟩
  have R1 := Lib.hid hr
  clear hr R0 c0 c1 c2 c3 c4 c5 c6 c7 c8 c9 c10 c11
  obtain ⟨c0, c1, c2, c3, c4, c5, c6, c7, c8, c9, c10, c11⟩ := twelve_cells (R1.out.f)
  go_wp2_with fail
  refine (rxU R1.out 5 s (HRR.out.1 1 (by decide))).mono ?_
  rintro e4 w4 ⟨rfl, hr⟩
  have R2 := Lib.hid hr
  clear hr R1 c0 c1 c2 c3 c4 c5 c6 c7 c8 c9 c10 c11
  obtain ⟨c0, c1, c2, c3, c4, c5, c6, c7, c8, c9, c10, c11⟩ := twelve_cells (R2.out.f)
  go_wp2_with fail
  refine (rxF R2.out true).mono ?_
  rintro e5 w5 ⟨rfl, hr⟩
  have R3 := Lib.hid hr
  clear hr R2 c0 c1 c2 c3 c4 c5 c6 c7 c8 c9 c10 c11
  obtain ⟨c0, c1, c2, c3, c4, c5, c6, c7, c8, c9, c10, c11⟩ := twelve_cells (R3.out.f)
  go_wp2_with fail
  refine (rxU R3.out 5 t (HRR.out.1 2 (by decide))).mono ?_
  rintro e6 w6 ⟨rfl, hr⟩
  have R4 := Lib.hid hr
  clear hr R3 c0 c1 c2 c3 c4 c5 c6 c7 c8 c9 c10 c11
  obtain ⟨c0, c1, c2, c3, c4, c5, c6, c7, c8, c9, c10, c11⟩ := twelve_cells (R4.out.f)
  go_wp2_with fail
  refine (rxU R4.out 8 l (HRR.out.1 3 (by decide))).mono ?_
  rintro e7 w7 ⟨rfl, hr⟩
  have R5 := Lib.hid hr
  clear hr R4 c0 c1 c2 c3 c4 c5 c6 c7 c8 c9 c10 c11
  obtain ⟨c0, c1, c2, c3, c4, c5, c6, c7, c8, c9, c10, c11⟩ := twelve_cells (R5.out.f)
  go_wp2_with fail
  refine (rxU R5.out 8 q (HRR.out.1 4 (by decide))).mono ?_
  rintro e8 w8 ⟨rfl, hr⟩
  have R6 := Lib.hid hr
  clear hr R5 c0 c1 c2 c3 c4 c5 c6 c7 c8 c9 c10 c11
  obtain ⟨c0, c1, c2, c3, c4, c5, c6, c7, c8, c9, c10, c11⟩ := twelve_cells (R6.out.f)
  go_wp2_with fail
  refine (rxU R6.out 8 f (HRR.out.1 5 (by decide))).mono ?_
  rintro e9 w9 ⟨rfl, hr⟩
  have R7 := Lib.hid hr
  clear hr R6 c0 c1 c2 c3 c4 c5 c6 c7 c8 c9 c10 c11
  obtain ⟨c0, c1, c2, c3, c4, c5, c6, c7, c8, c9, c10, c11⟩ := twelve_cells (R7.out.f)
  go_wp2_with fail
  refine (rxU R7.out 16 n (HRR.out.1 6 (by decide))).mono ?_
  rintro e10 w10 ⟨rfl, hr⟩
  have R8 := Lib.hid hr
  clear hr R7 c0 c1 c2 c3 c4 c5 c6 c7 c8 c9 c10 c11
  obtain ⟨c0, c1, c2, c3, c4, c5, c6, c7, c8, c9, c10, c11⟩ := twelve_cells (R8.out.f)
  go_wp2_with fail
  refine (rxT R8.out d HD.out).mono ?_
  rintro e11 w11 ⟨rfl, hr⟩
  have R9 := Lib.hid hr
  clear hr R8 c0 c1 c2 c3 c4 c5 c6 c7 c8 c9 c10 c11
  obtain ⟨c0, c1, c2, c3, c4, c5, c6, c7, c8, c9, c10, c11⟩ := twelve_cells (R9.out.f)
  go_wp2_with fail
  rw [HSS.out] at R9
  refine (rxB R9.out).mono ?_
  rintro e20 w20 ⟨rfl, f20⟩
  have HF20 := Lib.hid (ge_no f20)
  clear f20 R9 c0 c1 c2 c3 c4 c5 c6 c7 c8 c9 c10 c11
  rw [HBB.out]
  generalize S.e = se at *
  go_wp2_with fail
  refine (HPP.out _).mono ?_
  rintro e21 w21 ⟨rfl, f21⟩
  have HF21 := Lib.hid (HF20.out.noTrans f21)
  clear f21
  generalize protB P = PP at *
  rcases HK.out with ⟨k2, rfl, rfl⟩ | ⟨k2, rfl, rfl⟩
  · have kb : ((127 : Int) < (PP.size : Int)) := by omega
    clear HK k2
    go_wp2_with fail
    go_ret2
    exact ⟨rfl, HF21.out⟩
  · have kb : ¬ ((127 : Int) < (V.size : Int)) := by omega
    clear HK k2
    go_wp2_with fail
    go_ret2
    exact ⟨rfl, HF21.out⟩
set_option maxHeartbeats 4000000 in
theorem wrR2t (s t l q f n e sl r ep : Int) (d : ByteArray) (S : WSt) (P : ByteArray) (w : World) (hr : FrR ⟨2, s, t, l, q, f, n, e, sl, r, ep, d⟩) (hd : d.size ≤ 127) (ht : 0 ≤ t) (hS : (wSigned 16 e (wUnsigned 8 q (wUnsigned 8 l (wUnsigned 5 t (wFlag true (wUnsigned 5 s (wUnsigned 3 2 ⟨[], 0⟩))))))) = S) (hb : wBytes S = P) (hP : P.size ≤ 1000000) (V : ByteArray) (E : Int)
    (hk : (¬ (protB P).size ≤ 127 ∧ V = ⟨#[]⟩ ∧ E = 8) ∨ ((protB P).size ≤ 127 ∧ V = protB P ∧ E = 0))
    (HV : Hid (∀ w, Calls Try.prog 19 #[.agg #[.int .i64 2, .int .i64 s, .int .i64 t, .int .i64 l, .int .i64 q, .int .i64 f, .int .i64 n, .int .i64 e, .int .i64 sl, .int .i64 r, .int .i64 ep, .string d]] w fun x w' => x = .returned (.int .i64 0) ∧ Fr no w w')) :
    Calls Try.prog 13 #[.agg #[.int .i64 2, .int .i64 s, .int .i64 t, .int .i64 l, .int .i64 q, .int .i64 f, .int .i64 n, .int .i64 e, .int .i64 sl, .int .i64 r, .int .i64 ep, .string d]] w fun e w' => e = .returned (.tuple #[.string V, .int .i64 E]) ∧ Fr no w w' := by
  have hd1 : ¬ (127 : Int) < (d.size : Int) := by omega
  have HD := Lib.hid hd
  have HRR := Lib.hid hr
  have HSS := Lib.hid hS
  have HBB := Lib.hid hb
  have HPP := Lib.hid (fun w => protectR_any P w hP)
  have HK := Lib.hid hk
  clear hd hr hS hb hP hk
  obtain ⟨w0, hW⟩ : ∃ w0, w0 = w.alloc (.cells #[.int .i64 2, .int .i64 s, .int .i64 t, .int .i64 l, .int .i64 q, .int .i64 f, .int .i64 n, .int .i64 e, .int .i64 sl, .int .i64 r, .int .i64 ep, .string d] 23 (0, 0)) := ⟨_, rfl⟩
  have hBc : w0.heap[w.heap.size]? = some (.cells #[.int .i64 2, .int .i64 s, .int .i64 t, .int .i64 l, .int .i64 q, .int .i64 f, .int .i64 n, .int .i64 e, .int .i64 sl, .int .i64 r, .int .i64 ep, .string d] 23 (0, 0)) := by rw [hW]; exact heap_alloc_new w _
  have Hc0 := Lib.hid hBc
  have HF0 := Lib.hid (show Fr no w w0 by rw [hW]; exact (Fr.refl no w).alloc _)
  have HW := Lib.hid hW
  obtain ⟨c0, c1, c2, c3, c4, c5, c6, c7, c8, c9, c10, c11⟩ := twelve_cells Hc0.out
  clear hW hBc
  go_enter Try.func13, Try.ntmps13
  go_wp2_with fail
  rw [← HW.out]
  go_wp2_with fail
  refine (HV.out _).mono ?_
  rintro e1 w1 ⟨rfl, f1⟩
  have HF1 := Lib.hid (HF0.out.noTrans f1)
  have Hc1 := Lib.hid (f1.blk Hc0.out (fun h => h))
  clear f1
  clear c0 c1 c2 c3 c4 c5 c6 c7 c8 c9 c10 c11
  obtain ⟨c0, c1, c2, c3, c4, c5, c6, c7, c8, c9, c10, c11⟩ := twelve_cells Hc1.out
  go_wp2_with fail
  refine (rnewWriter_any _).mono ?_
  rintro e2 w2 ⟨rfl, hw2⟩
  have R0 := Lib.hid (show Rx w.heap.size w.heap.size w1.heap.size w w2 ⟨2, s, t, l, q, f, n, e, sl, r, ep, d⟩ ⟨[], 0⟩ by
    refine ⟨⟨.slice none 0 0, ?_, by simp [Value.ownBlock]⟩, ?_, ?_, ?_⟩
    · rw [hw2]; exact rnewWriter_st _ _ HF1.out.size
    · rw [hw2]; exact alloc_keeps Hc1.out _
    · have := lt_of_blk Hc1.out; omega
    · rw [hw2]; exact (HF1.out.mono (fun _ _ hh => hh.elim)).alloc _)
  clear hw2
  clear c0 c1 c2 c3 c4 c5 c6 c7 c8 c9 c10 c11
  obtain ⟨c0, c1, c2, c3, c4, c5, c6, c7, c8, c9, c10, c11⟩ := twelve_cells (R0.out.f)
  go_wp2_with fail
  refine (rxU R0.out 3 2 (HRR.out.1 0 (by decide))).mono ?_
  rintro e3 w3 ⟨rfl, hr⟩
  have R1 := Lib.hid hr
  clear hr R0 c0 c1 c2 c3 c4 c5 c6 c7 c8 c9 c10 c11
  obtain ⟨c0, c1, c2, c3, c4, c5, c6, c7, c8, c9, c10, c11⟩ := twelve_cells (R1.out.f)
  go_wp2_with fail
  refine (rxU R1.out 5 s (HRR.out.1 1 (by decide))).mono ?_
  rintro e4 w4 ⟨rfl, hr⟩
  have R2 := Lib.hid hr
  clear hr R1 c0 c1 c2 c3 c4 c5 c6 c7 c8 c9 c10 c11
  obtain ⟨c0, c1, c2, c3, c4, c5, c6, c7, c8, c9, c10, c11⟩ := twelve_cells (R2.out.f)
  go_wp2_with fail
  refine (rxF R2.out true).mono ?_
  rintro e5 w5 ⟨rfl, hr⟩
  have R3 := Lib.hid hr
  clear hr R2 c0 c1 c2 c3 c4 c5 c6 c7 c8 c9 c10 c11
  obtain ⟨c0, c1, c2, c3, c4, c5, c6, c7, c8, c9, c10, c11⟩ := twelve_cells (R3.out.f)
  go_wp2_with fail
  refine (rxU R3.out 5 t (HRR.out.1 2 (by decide))).mono ?_
  rintro e6 w6 ⟨rfl, hr⟩
  have R4 := Lib.hid hr
  clear hr R3 c0 c1 c2 c3 c4 c5 c6 c7 c8 c9 c10 c11
  obtain ⟨c0, c1, c2, c3, c4, c5, c6, c7, c8, c9, c10, c11⟩ := twelve_cells (R4.out.f)
  go_wp2_with fail
  refine (rxU R4.out 8 l (HRR.out.1 3 (by decide))).mono ?_
  rintro e7 w7 ⟨rfl, hr⟩
  have R5 := Lib.hid hr
  clear hr R4 c0 c1 c2 c3 c4 c5 c6 c7 c8 c9 c10 c11
  obtain ⟨c0, c1, c2, c3, c4, c5, c6, c7, c8, c9, c10, c11⟩ := twelve_cells (R5.out.f)
  go_wp2_with fail
  refine (rxU R5.out 8 q (HRR.out.1 4 (by decide))).mono ?_
  rintro e8 w8 ⟨rfl, hr⟩
  have R6 := Lib.hid hr
  clear hr R5 c0 c1 c2 c3 c4 c5 c6 c7 c8 c9 c10 c11
  obtain ⟨c0, c1, c2, c3, c4, c5, c6, c7, c8, c9, c10, c11⟩ := twelve_cells (R6.out.f)
  go_wp2_with fail
  refine (rxS R6.out 16 e (HRR.out.1 7 (by decide))).mono ?_
  rintro e9 w9 ⟨rfl, hr⟩
  have R7 := Lib.hid hr
  clear hr R6 c0 c1 c2 c3 c4 c5 c6 c7 c8 c9 c10 c11
  obtain ⟨c0, c1, c2, c3, c4, c5, c6, c7, c8, c9, c10, c11⟩ := twelve_cells (R7.out.f)
  go_wp2_with fail
  rw [HSS.out] at R7
  refine (rxB R7.out).mono ?_
  rintro e20 w20 ⟨rfl, f20⟩
  have HF20 := Lib.hid (ge_no f20)
  clear f20 R7 c0 c1 c2 c3 c4 c5 c6 c7 c8 c9 c10 c11
  rw [HBB.out]
  generalize S.e = se at *
  go_wp2_with fail
  refine (HPP.out _).mono ?_
  rintro e21 w21 ⟨rfl, f21⟩
  have HF21 := Lib.hid (HF20.out.noTrans f21)
  clear f21
  generalize protB P = PP at *
  rcases HK.out with ⟨k2, rfl, rfl⟩ | ⟨k2, rfl, rfl⟩
  · have kb : ((127 : Int) < (PP.size : Int)) := by omega
    clear HK k2
    go_wp2_with fail
    go_ret2
    exact ⟨rfl, HF21.out⟩
  · have kb : ¬ ((127 : Int) < (V.size : Int)) := by omega
    clear HK k2
    go_wp2_with fail
    go_ret2
    exact ⟨rfl, HF21.out⟩
set_option maxHeartbeats 4000000 in
theorem wrR3f (s l q f n e sl r ep : Int) (d : ByteArray) (S : WSt) (P : ByteArray) (w : World) (hr : FrR ⟨3, s, -1, l, q, f, n, e, sl, r, ep, d⟩) (hd : d.size ≤ 127) (hS : (wText 127 d (wUnsigned 16 ep (wUnsigned 16 r (wUnsigned 27 sl (wUnsigned 8 q (wUnsigned 8 l (wFlag false (wUnsigned 5 s (wUnsigned 3 3 ⟨[], 0⟩))))))))) = S) (hb : wBytes S = P) (hP : P.size ≤ 1000000) (V : ByteArray) (E : Int)
    (hk : (¬ (protB P).size ≤ 127 ∧ V = ⟨#[]⟩ ∧ E = 8) ∨ ((protB P).size ≤ 127 ∧ V = protB P ∧ E = 0))
    (HV : Hid (∀ w, Calls Try.prog 19 #[.agg #[.int .i64 3, .int .i64 s, .int .i64 (-1), .int .i64 l, .int .i64 q, .int .i64 f, .int .i64 n, .int .i64 e, .int .i64 sl, .int .i64 r, .int .i64 ep, .string d]] w fun x w' => x = .returned (.int .i64 0) ∧ Fr no w w')) :
    Calls Try.prog 13 #[.agg #[.int .i64 3, .int .i64 s, .int .i64 (-1), .int .i64 l, .int .i64 q, .int .i64 f, .int .i64 n, .int .i64 e, .int .i64 sl, .int .i64 r, .int .i64 ep, .string d]] w fun e w' => e = .returned (.tuple #[.string V, .int .i64 E]) ∧ Fr no w w' := by
  have hd1 : ¬ (127 : Int) < (d.size : Int) := by omega
  have HD := Lib.hid hd
  have HRR := Lib.hid hr
  have HSS := Lib.hid hS
  have HBB := Lib.hid hb
  have HPP := Lib.hid (fun w => protectR_any P w hP)
  have HK := Lib.hid hk
  clear hd hr hS hb hP hk
  obtain ⟨w0, hW⟩ : ∃ w0, w0 = w.alloc (.cells #[.int .i64 3, .int .i64 s, .int .i64 (-1), .int .i64 l, .int .i64 q, .int .i64 f, .int .i64 n, .int .i64 e, .int .i64 sl, .int .i64 r, .int .i64 ep, .string d] 23 (0, 0)) := ⟨_, rfl⟩
  have hBc : w0.heap[w.heap.size]? = some (.cells #[.int .i64 3, .int .i64 s, .int .i64 (-1), .int .i64 l, .int .i64 q, .int .i64 f, .int .i64 n, .int .i64 e, .int .i64 sl, .int .i64 r, .int .i64 ep, .string d] 23 (0, 0)) := by rw [hW]; exact heap_alloc_new w _
  have Hc0 := Lib.hid hBc
  have HF0 := Lib.hid (show Fr no w w0 by rw [hW]; exact (Fr.refl no w).alloc _)
  have HW := Lib.hid hW
  obtain ⟨c0, c1, c2, c3, c4, c5, c6, c7, c8, c9, c10, c11⟩ := twelve_cells Hc0.out
  clear hW hBc
  go_enter Try.func13, Try.ntmps13
  go_wp2_with fail
  rw [← HW.out]
  go_wp2_with fail
  refine (HV.out _).mono ?_
  rintro e1 w1 ⟨rfl, f1⟩
  have HF1 := Lib.hid (HF0.out.noTrans f1)
  have Hc1 := Lib.hid (f1.blk Hc0.out (fun h => h))
  clear f1
  clear c0 c1 c2 c3 c4 c5 c6 c7 c8 c9 c10 c11
  obtain ⟨c0, c1, c2, c3, c4, c5, c6, c7, c8, c9, c10, c11⟩ := twelve_cells Hc1.out
  go_wp2_with fail
  refine (rnewWriter_any _).mono ?_
  rintro e2 w2 ⟨rfl, hw2⟩
  have R0 := Lib.hid (show Rx w.heap.size w.heap.size w1.heap.size w w2 ⟨3, s, -1, l, q, f, n, e, sl, r, ep, d⟩ ⟨[], 0⟩ by
    refine ⟨⟨.slice none 0 0, ?_, by simp [Value.ownBlock]⟩, ?_, ?_, ?_⟩
    · rw [hw2]; exact rnewWriter_st _ _ HF1.out.size
    · rw [hw2]; exact alloc_keeps Hc1.out _
    · have := lt_of_blk Hc1.out; omega
    · rw [hw2]; exact (HF1.out.mono (fun _ _ hh => hh.elim)).alloc _)
  clear hw2
  clear c0 c1 c2 c3 c4 c5 c6 c7 c8 c9 c10 c11
  obtain ⟨c0, c1, c2, c3, c4, c5, c6, c7, c8, c9, c10, c11⟩ := twelve_cells (R0.out.f)
  go_wp2_with fail
  refine (rxU R0.out 3 3 (HRR.out.1 0 (by decide))).mono ?_
  rintro e3 w3 ⟨rfl, hr⟩
  have R1 := Lib.hid hr
  clear hr R0 c0 c1 c2 c3 c4 c5 c6 c7 c8 c9 c10 c11
  obtain ⟨c0, c1, c2, c3, c4, c5, c6, c7, c8, c9, c10, c11⟩ := twelve_cells (R1.out.f)
  go_wp2_with fail
  refine (rxU R1.out 5 s (HRR.out.1 1 (by decide))).mono ?_
  rintro e4 w4 ⟨rfl, hr⟩
  have R2 := Lib.hid hr
  clear hr R1 c0 c1 c2 c3 c4 c5 c6 c7 c8 c9 c10 c11
  obtain ⟨c0, c1, c2, c3, c4, c5, c6, c7, c8, c9, c10, c11⟩ := twelve_cells (R2.out.f)
  go_wp2_with fail
  refine (rxF R2.out false).mono ?_
  rintro e5 w5 ⟨rfl, hr⟩
  have R3 := Lib.hid hr
  clear hr R2 c0 c1 c2 c3 c4 c5 c6 c7 c8 c9 c10 c11
  obtain ⟨c0, c1, c2, c3, c4, c5, c6, c7, c8, c9, c10, c11⟩ := twelve_cells (R3.out.f)
  go_wp2_with fail
  refine (rxU R3.out 8 l (HRR.out.1 3 (by decide))).mono ?_
  rintro e6 w6 ⟨rfl, hr⟩
  have R4 := Lib.hid hr
  clear hr R3 c0 c1 c2 c3 c4 c5 c6 c7 c8 c9 c10 c11
  obtain ⟨c0, c1, c2, c3, c4, c5, c6, c7, c8, c9, c10, c11⟩ := twelve_cells (R4.out.f)
  go_wp2_with fail
  refine (rxU R4.out 8 q (HRR.out.1 4 (by decide))).mono ?_
  rintro e7 w7 ⟨rfl, hr⟩
  have R5 := Lib.hid hr
  clear hr R4 c0 c1 c2 c3 c4 c5 c6 c7 c8 c9 c10 c11
  obtain ⟨c0, c1, c2, c3, c4, c5, c6, c7, c8, c9, c10, c11⟩ := twelve_cells (R5.out.f)
  go_wp2_with fail
  refine (rxU R5.out 27 sl (HRR.out.1 8 (by decide))).mono ?_
  rintro e8 w8 ⟨rfl, hr⟩
  have R6 := Lib.hid hr
  clear hr R5 c0 c1 c2 c3 c4 c5 c6 c7 c8 c9 c10 c11
  obtain ⟨c0, c1, c2, c3, c4, c5, c6, c7, c8, c9, c10, c11⟩ := twelve_cells (R6.out.f)
  go_wp2_with fail
  refine (rxU R6.out 16 r (HRR.out.1 9 (by decide))).mono ?_
  rintro e9 w9 ⟨rfl, hr⟩
  have R7 := Lib.hid hr
  clear hr R6 c0 c1 c2 c3 c4 c5 c6 c7 c8 c9 c10 c11
  obtain ⟨c0, c1, c2, c3, c4, c5, c6, c7, c8, c9, c10, c11⟩ := twelve_cells (R7.out.f)
  go_wp2_with fail
  refine (rxU R7.out 16 ep (HRR.out.1 10 (by decide))).mono ?_
  rintro e10 w10 ⟨rfl, hr⟩
  have R8 := Lib.hid hr
  clear hr R7 c0 c1 c2 c3 c4 c5 c6 c7 c8 c9 c10 c11
  obtain ⟨c0, c1, c2, c3, c4, c5, c6, c7, c8, c9, c10, c11⟩ := twelve_cells (R8.out.f)
  go_wp2_with fail
  refine (rxT R8.out d HD.out).mono ?_
  rintro e11 w11 ⟨rfl, hr⟩
  have R9 := Lib.hid hr
  clear hr R8 c0 c1 c2 c3 c4 c5 c6 c7 c8 c9 c10 c11
  obtain ⟨c0, c1, c2, c3, c4, c5, c6, c7, c8, c9, c10, c11⟩ := twelve_cells (R9.out.f)
  go_wp2_with fail
  rw [HSS.out] at R9
  refine (rxB R9.out).mono ?_
  rintro e20 w20 ⟨rfl, f20⟩
  have HF20 := Lib.hid (ge_no f20)
  clear f20 R9 c0 c1 c2 c3 c4 c5 c6 c7 c8 c9 c10 c11
  rw [HBB.out]
  generalize S.e = se at *
  go_wp2_with fail
  refine (HPP.out _).mono ?_
  rintro e21 w21 ⟨rfl, f21⟩
  have HF21 := Lib.hid (HF20.out.noTrans f21)
  clear f21
  generalize protB P = PP at *
  rcases HK.out with ⟨k2, rfl, rfl⟩ | ⟨k2, rfl, rfl⟩
  · have kb : ((127 : Int) < (PP.size : Int)) := by omega
    clear HK k2
    go_wp2_with fail
    go_ret2
    exact ⟨rfl, HF21.out⟩
  · have kb : ¬ ((127 : Int) < (V.size : Int)) := by omega
    clear HK k2
    go_wp2_with fail
    go_ret2
    exact ⟨rfl, HF21.out⟩
set_option maxHeartbeats 4000000 in
theorem wrR4t (s t l q f n e sl r ep : Int) (d : ByteArray) (S : WSt) (P : ByteArray) (w : World) (hr : FrR ⟨4, s, t, l, q, f, n, e, sl, r, ep, d⟩) (hd : d.size ≤ 127) (ht : 0 ≤ t) (hS : (wText 127 d (wUnsigned 8 q (wUnsigned 8 l (wUnsigned 5 t (wFlag true (wUnsigned 5 s (wUnsigned 3 4 ⟨[], 0⟩))))))) = S) (hb : wBytes S = P) (hP : P.size ≤ 1000000) (V : ByteArray) (E : Int)
    (hk : (¬ (protB P).size ≤ 127 ∧ V = ⟨#[]⟩ ∧ E = 8) ∨ ((protB P).size ≤ 127 ∧ V = protB P ∧ E = 0))
    (HV : Hid (∀ w, Calls Try.prog 19 #[.agg #[.int .i64 4, .int .i64 s, .int .i64 t, .int .i64 l, .int .i64 q, .int .i64 f, .int .i64 n, .int .i64 e, .int .i64 sl, .int .i64 r, .int .i64 ep, .string d]] w fun x w' => x = .returned (.int .i64 0) ∧ Fr no w w')) :
    Calls Try.prog 13 #[.agg #[.int .i64 4, .int .i64 s, .int .i64 t, .int .i64 l, .int .i64 q, .int .i64 f, .int .i64 n, .int .i64 e, .int .i64 sl, .int .i64 r, .int .i64 ep, .string d]] w fun e w' => e = .returned (.tuple #[.string V, .int .i64 E]) ∧ Fr no w w' := by
  have hd1 : ¬ (127 : Int) < (d.size : Int) := by omega
  have HD := Lib.hid hd
  have HRR := Lib.hid hr
  have HSS := Lib.hid hS
  have HBB := Lib.hid hb
  have HPP := Lib.hid (fun w => protectR_any P w hP)
  have HK := Lib.hid hk
  clear hd hr hS hb hP hk
  obtain ⟨w0, hW⟩ : ∃ w0, w0 = w.alloc (.cells #[.int .i64 4, .int .i64 s, .int .i64 t, .int .i64 l, .int .i64 q, .int .i64 f, .int .i64 n, .int .i64 e, .int .i64 sl, .int .i64 r, .int .i64 ep, .string d] 23 (0, 0)) := ⟨_, rfl⟩
  have hBc : w0.heap[w.heap.size]? = some (.cells #[.int .i64 4, .int .i64 s, .int .i64 t, .int .i64 l, .int .i64 q, .int .i64 f, .int .i64 n, .int .i64 e, .int .i64 sl, .int .i64 r, .int .i64 ep, .string d] 23 (0, 0)) := by rw [hW]; exact heap_alloc_new w _
  have Hc0 := Lib.hid hBc
  have HF0 := Lib.hid (show Fr no w w0 by rw [hW]; exact (Fr.refl no w).alloc _)
  have HW := Lib.hid hW
  obtain ⟨c0, c1, c2, c3, c4, c5, c6, c7, c8, c9, c10, c11⟩ := twelve_cells Hc0.out
  clear hW hBc
  go_enter Try.func13, Try.ntmps13
  go_wp2_with fail
  rw [← HW.out]
  go_wp2_with fail
  refine (HV.out _).mono ?_
  rintro e1 w1 ⟨rfl, f1⟩
  have HF1 := Lib.hid (HF0.out.noTrans f1)
  have Hc1 := Lib.hid (f1.blk Hc0.out (fun h => h))
  clear f1
  clear c0 c1 c2 c3 c4 c5 c6 c7 c8 c9 c10 c11
  obtain ⟨c0, c1, c2, c3, c4, c5, c6, c7, c8, c9, c10, c11⟩ := twelve_cells Hc1.out
  go_wp2_with fail
  refine (rnewWriter_any _).mono ?_
  rintro e2 w2 ⟨rfl, hw2⟩
  have R0 := Lib.hid (show Rx w.heap.size w.heap.size w1.heap.size w w2 ⟨4, s, t, l, q, f, n, e, sl, r, ep, d⟩ ⟨[], 0⟩ by
    refine ⟨⟨.slice none 0 0, ?_, by simp [Value.ownBlock]⟩, ?_, ?_, ?_⟩
    · rw [hw2]; exact rnewWriter_st _ _ HF1.out.size
    · rw [hw2]; exact alloc_keeps Hc1.out _
    · have := lt_of_blk Hc1.out; omega
    · rw [hw2]; exact (HF1.out.mono (fun _ _ hh => hh.elim)).alloc _)
  clear hw2
  clear c0 c1 c2 c3 c4 c5 c6 c7 c8 c9 c10 c11
  obtain ⟨c0, c1, c2, c3, c4, c5, c6, c7, c8, c9, c10, c11⟩ := twelve_cells (R0.out.f)
  go_wp2_with fail
  refine (rxU R0.out 3 4 (HRR.out.1 0 (by decide))).mono ?_
  rintro e3 w3 ⟨rfl, hr⟩
  have R1 := Lib.hid hr
  clear hr R0 c0 c1 c2 c3 c4 c5 c6 c7 c8 c9 c10 c11
  obtain ⟨c0, c1, c2, c3, c4, c5, c6, c7, c8, c9, c10, c11⟩ := twelve_cells (R1.out.f)
  go_wp2_with fail
  refine (rxU R1.out 5 s (HRR.out.1 1 (by decide))).mono ?_
  rintro e4 w4 ⟨rfl, hr⟩
  have R2 := Lib.hid hr
  clear hr R1 c0 c1 c2 c3 c4 c5 c6 c7 c8 c9 c10 c11
  obtain ⟨c0, c1, c2, c3, c4, c5, c6, c7, c8, c9, c10, c11⟩ := twelve_cells (R2.out.f)
  go_wp2_with fail
  refine (rxF R2.out true).mono ?_
  rintro e5 w5 ⟨rfl, hr⟩
  have R3 := Lib.hid hr
  clear hr R2 c0 c1 c2 c3 c4 c5 c6 c7 c8 c9 c10 c11
  obtain ⟨c0, c1, c2, c3, c4, c5, c6, c7, c8, c9, c10, c11⟩ := twelve_cells (R3.out.f)
  go_wp2_with fail
  refine (rxU R3.out 5 t (HRR.out.1 2 (by decide))).mono ?_
  rintro e6 w6 ⟨rfl, hr⟩
  have R4 := Lib.hid hr
  clear hr R3 c0 c1 c2 c3 c4 c5 c6 c7 c8 c9 c10 c11
  obtain ⟨c0, c1, c2, c3, c4, c5, c6, c7, c8, c9, c10, c11⟩ := twelve_cells (R4.out.f)
  go_wp2_with fail
  refine (rxU R4.out 8 l (HRR.out.1 3 (by decide))).mono ?_
  rintro e7 w7 ⟨rfl, hr⟩
  have R5 := Lib.hid hr
  clear hr R4 c0 c1 c2 c3 c4 c5 c6 c7 c8 c9 c10 c11
  obtain ⟨c0, c1, c2, c3, c4, c5, c6, c7, c8, c9, c10, c11⟩ := twelve_cells (R5.out.f)
  go_wp2_with fail
  refine (rxU R5.out 8 q (HRR.out.1 4 (by decide))).mono ?_
  rintro e8 w8 ⟨rfl, hr⟩
  have R6 := Lib.hid hr
  clear hr R5 c0 c1 c2 c3 c4 c5 c6 c7 c8 c9 c10 c11
  obtain ⟨c0, c1, c2, c3, c4, c5, c6, c7, c8, c9, c10, c11⟩ := twelve_cells (R6.out.f)
  go_wp2_with fail
  refine (rxT R6.out d HD.out).mono ?_
  rintro e9 w9 ⟨rfl, hr⟩
  have R7 := Lib.hid hr
  clear hr R6 c0 c1 c2 c3 c4 c5 c6 c7 c8 c9 c10 c11
  obtain ⟨c0, c1, c2, c3, c4, c5, c6, c7, c8, c9, c10, c11⟩ := twelve_cells (R7.out.f)
  go_wp2_with fail
  rw [HSS.out] at R7
  refine (rxB R7.out).mono ?_
  rintro e20 w20 ⟨rfl, f20⟩
  have HF20 := Lib.hid (ge_no f20)
  clear f20 R7 c0 c1 c2 c3 c4 c5 c6 c7 c8 c9 c10 c11
  rw [HBB.out]
  generalize S.e = se at *
  go_wp2_with fail
  refine (HPP.out _).mono ?_
  rintro e21 w21 ⟨rfl, f21⟩
  have HF21 := Lib.hid (HF20.out.noTrans f21)
  clear f21
  generalize protB P = PP at *
  rcases HK.out with ⟨k2, rfl, rfl⟩ | ⟨k2, rfl, rfl⟩
  · have kb : ((127 : Int) < (PP.size : Int)) := by omega
    clear HK k2
    go_wp2_with fail
    go_ret2
    exact ⟨rfl, HF21.out⟩
  · have kb : ¬ ((127 : Int) < (V.size : Int)) := by omega
    clear HK k2
    go_wp2_with fail
    go_ret2
    exact ⟨rfl, HF21.out⟩
set_option maxHeartbeats 4000000 in
theorem wrR4f (s l q f n e sl r ep : Int) (d : ByteArray) (S : WSt) (P : ByteArray) (w : World) (hr : FrR ⟨4, s, -1, l, q, f, n, e, sl, r, ep, d⟩) (hd : d.size ≤ 127) (hS : (wText 127 d (wUnsigned 8 q (wUnsigned 8 l (wFlag false (wUnsigned 5 s (wUnsigned 3 4 ⟨[], 0⟩)))))) = S) (hb : wBytes S = P) (hP : P.size ≤ 1000000) (V : ByteArray) (E : Int)
    (hk : (¬ (protB P).size ≤ 127 ∧ V = ⟨#[]⟩ ∧ E = 8) ∨ ((protB P).size ≤ 127 ∧ V = protB P ∧ E = 0))
    (HV : Hid (∀ w, Calls Try.prog 19 #[.agg #[.int .i64 4, .int .i64 s, .int .i64 (-1), .int .i64 l, .int .i64 q, .int .i64 f, .int .i64 n, .int .i64 e, .int .i64 sl, .int .i64 r, .int .i64 ep, .string d]] w fun x w' => x = .returned (.int .i64 0) ∧ Fr no w w')) :
    Calls Try.prog 13 #[.agg #[.int .i64 4, .int .i64 s, .int .i64 (-1), .int .i64 l, .int .i64 q, .int .i64 f, .int .i64 n, .int .i64 e, .int .i64 sl, .int .i64 r, .int .i64 ep, .string d]] w fun e w' => e = .returned (.tuple #[.string V, .int .i64 E]) ∧ Fr no w w' := by
  have hd1 : ¬ (127 : Int) < (d.size : Int) := by omega
  have HD := Lib.hid hd
  have HRR := Lib.hid hr
  have HSS := Lib.hid hS
  have HBB := Lib.hid hb
  have HPP := Lib.hid (fun w => protectR_any P w hP)
  have HK := Lib.hid hk
  clear hd hr hS hb hP hk
  obtain ⟨w0, hW⟩ : ∃ w0, w0 = w.alloc (.cells #[.int .i64 4, .int .i64 s, .int .i64 (-1), .int .i64 l, .int .i64 q, .int .i64 f, .int .i64 n, .int .i64 e, .int .i64 sl, .int .i64 r, .int .i64 ep, .string d] 23 (0, 0)) := ⟨_, rfl⟩
  have hBc : w0.heap[w.heap.size]? = some (.cells #[.int .i64 4, .int .i64 s, .int .i64 (-1), .int .i64 l, .int .i64 q, .int .i64 f, .int .i64 n, .int .i64 e, .int .i64 sl, .int .i64 r, .int .i64 ep, .string d] 23 (0, 0)) := by rw [hW]; exact heap_alloc_new w _
  have Hc0 := Lib.hid hBc
  have HF0 := Lib.hid (show Fr no w w0 by rw [hW]; exact (Fr.refl no w).alloc _)
  have HW := Lib.hid hW
  obtain ⟨c0, c1, c2, c3, c4, c5, c6, c7, c8, c9, c10, c11⟩ := twelve_cells Hc0.out
  clear hW hBc
  go_enter Try.func13, Try.ntmps13
  go_wp2_with fail
  rw [← HW.out]
  go_wp2_with fail
  refine (HV.out _).mono ?_
  rintro e1 w1 ⟨rfl, f1⟩
  have HF1 := Lib.hid (HF0.out.noTrans f1)
  have Hc1 := Lib.hid (f1.blk Hc0.out (fun h => h))
  clear f1
  clear c0 c1 c2 c3 c4 c5 c6 c7 c8 c9 c10 c11
  obtain ⟨c0, c1, c2, c3, c4, c5, c6, c7, c8, c9, c10, c11⟩ := twelve_cells Hc1.out
  go_wp2_with fail
  refine (rnewWriter_any _).mono ?_
  rintro e2 w2 ⟨rfl, hw2⟩
  have R0 := Lib.hid (show Rx w.heap.size w.heap.size w1.heap.size w w2 ⟨4, s, -1, l, q, f, n, e, sl, r, ep, d⟩ ⟨[], 0⟩ by
    refine ⟨⟨.slice none 0 0, ?_, by simp [Value.ownBlock]⟩, ?_, ?_, ?_⟩
    · rw [hw2]; exact rnewWriter_st _ _ HF1.out.size
    · rw [hw2]; exact alloc_keeps Hc1.out _
    · have := lt_of_blk Hc1.out; omega
    · rw [hw2]; exact (HF1.out.mono (fun _ _ hh => hh.elim)).alloc _)
  clear hw2
  clear c0 c1 c2 c3 c4 c5 c6 c7 c8 c9 c10 c11
  obtain ⟨c0, c1, c2, c3, c4, c5, c6, c7, c8, c9, c10, c11⟩ := twelve_cells (R0.out.f)
  go_wp2_with fail
  refine (rxU R0.out 3 4 (HRR.out.1 0 (by decide))).mono ?_
  rintro e3 w3 ⟨rfl, hr⟩
  have R1 := Lib.hid hr
  clear hr R0 c0 c1 c2 c3 c4 c5 c6 c7 c8 c9 c10 c11
  obtain ⟨c0, c1, c2, c3, c4, c5, c6, c7, c8, c9, c10, c11⟩ := twelve_cells (R1.out.f)
  go_wp2_with fail
  refine (rxU R1.out 5 s (HRR.out.1 1 (by decide))).mono ?_
  rintro e4 w4 ⟨rfl, hr⟩
  have R2 := Lib.hid hr
  clear hr R1 c0 c1 c2 c3 c4 c5 c6 c7 c8 c9 c10 c11
  obtain ⟨c0, c1, c2, c3, c4, c5, c6, c7, c8, c9, c10, c11⟩ := twelve_cells (R2.out.f)
  go_wp2_with fail
  refine (rxF R2.out false).mono ?_
  rintro e5 w5 ⟨rfl, hr⟩
  have R3 := Lib.hid hr
  clear hr R2 c0 c1 c2 c3 c4 c5 c6 c7 c8 c9 c10 c11
  obtain ⟨c0, c1, c2, c3, c4, c5, c6, c7, c8, c9, c10, c11⟩ := twelve_cells (R3.out.f)
  go_wp2_with fail
  refine (rxU R3.out 8 l (HRR.out.1 3 (by decide))).mono ?_
  rintro e6 w6 ⟨rfl, hr⟩
  have R4 := Lib.hid hr
  clear hr R3 c0 c1 c2 c3 c4 c5 c6 c7 c8 c9 c10 c11
  obtain ⟨c0, c1, c2, c3, c4, c5, c6, c7, c8, c9, c10, c11⟩ := twelve_cells (R4.out.f)
  go_wp2_with fail
  refine (rxU R4.out 8 q (HRR.out.1 4 (by decide))).mono ?_
  rintro e7 w7 ⟨rfl, hr⟩
  have R5 := Lib.hid hr
  clear hr R4 c0 c1 c2 c3 c4 c5 c6 c7 c8 c9 c10 c11
  obtain ⟨c0, c1, c2, c3, c4, c5, c6, c7, c8, c9, c10, c11⟩ := twelve_cells (R5.out.f)
  go_wp2_with fail
  refine (rxT R5.out d HD.out).mono ?_
  rintro e8 w8 ⟨rfl, hr⟩
  have R6 := Lib.hid hr
  clear hr R5 c0 c1 c2 c3 c4 c5 c6 c7 c8 c9 c10 c11
  obtain ⟨c0, c1, c2, c3, c4, c5, c6, c7, c8, c9, c10, c11⟩ := twelve_cells (R6.out.f)
  go_wp2_with fail
  rw [HSS.out] at R6
  refine (rxB R6.out).mono ?_
  rintro e20 w20 ⟨rfl, f20⟩
  have HF20 := Lib.hid (ge_no f20)
  clear f20 R6 c0 c1 c2 c3 c4 c5 c6 c7 c8 c9 c10 c11
  rw [HBB.out]
  generalize S.e = se at *
  go_wp2_with fail
  refine (HPP.out _).mono ?_
  rintro e21 w21 ⟨rfl, f21⟩
  have HF21 := Lib.hid (HF20.out.noTrans f21)
  clear f21
  generalize protB P = PP at *
  rcases HK.out with ⟨k2, rfl, rfl⟩ | ⟨k2, rfl, rfl⟩
  · have kb : ((127 : Int) < (PP.size : Int)) := by omega
    clear HK k2
    go_wp2_with fail
    go_ret2
    exact ⟨rfl, HF21.out⟩
  · have kb : ¬ ((127 : Int) < (V.size : Int)) := by omega
    clear HK k2
    go_wp2_with fail
    go_ret2
    exact ⟨rfl, HF21.out⟩
end Go.Proofs.Ytelpdihaonoedaa
