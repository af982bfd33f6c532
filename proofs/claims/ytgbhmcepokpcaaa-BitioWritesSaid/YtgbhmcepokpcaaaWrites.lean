/- BitioWrites. -/
import Derived.Test.YtgbhmcepokpcaaaRefW4
namespace Go.Proofs.Ytgbhmcepokpcaaa
open Go.RowKit

set_option maxHeartbeats 1000000 in
theorem rwrite_any (base B : Nat) (v : Value) (st : WSt) (f : Fld) (w : World) (ok : f.Ok) (hsz : f.s.size ≤ 140737488355328) (h : RwS base w B v st) :
    Calls Try.prog 16 #[.pointer (some ⟨B, 0, none⟩), f.val] w fun e w' => e = .returned (.tuple #[]) ∧ ∃ v', RwS base w' B v' (wWrite f st) ∧ Adv w w' B v v' := by
  obtain ⟨kind, wd, n, s⟩ := f
  obtain ⟨k1, k2, w1, w2, n1, n2, _⟩ := ok
  have s1 := hsz
  clear hsz
  simp only at k1 k2 w1 w2 n1 n2 s1
  simp only [Fld.val]
  have H1 := Lib.hid (h.alloc (.cells #[.int .i64 kind, .int .i64 wd, .int .i64 n, .string s] 30))
  have A1 := Lib.hid ((Adv.refl w B v).alloc (.cells #[.int .i64 kind, .int .i64 wd, .int .i64 n, .string s] 30))
  clear h
  by_cases c0 : kind = 0
  · subst c0
    have HF := Lib.hid (show wWrite ⟨0, wd, n, s⟩ st = wUnsigned wd n st by simp [wWrite])
    go_enter Try.func16, Try.ntmps16
    go_wp2_with fail
    refine (runsigned_any base B v st wd n _ n1 n2 H1.out).mono ?_
    rintro e w' ⟨rfl, v', hr, ha⟩
    have HR := Lib.hid hr
    have HA := Lib.hid ha
    clear hr ha
    go_wp2_with fail
    go_end0
    rw [HF.out]
    exact ⟨rfl, v', HR.out, A1.out.trans HA.out⟩
  by_cases c1 : kind = 1
  · subst c1
    have HF := Lib.hid (show wWrite ⟨1, wd, n, s⟩ st = wSigned wd n st by simp [wWrite])
    go_enter Try.func16, Try.ntmps16
    go_wp2_with fail
    refine (rsigned_any base B v st wd n _ n1 n2 H1.out).mono ?_
    rintro e w' ⟨rfl, v', hr, ha⟩
    have HR := Lib.hid hr
    have HA := Lib.hid ha
    clear hr ha
    go_wp2_with fail
    go_end0
    rw [HF.out]
    exact ⟨rfl, v', HR.out, A1.out.trans HA.out⟩
  by_cases c2 : kind = 2
  · subst c2
    have HF := Lib.hid (show wWrite ⟨2, wd, n, s⟩ st = wFlag (n != 0) st by simp [wWrite])
    go_enter Try.func16, Try.ntmps16
    go_wp2_with fail
    refine (rflag_any base B v st (n != 0) _ H1.out).mono ?_
    rintro e w' ⟨rfl, v', hr, ha⟩
    have HR := Lib.hid hr
    have HA := Lib.hid ha
    clear hr ha
    go_wp2_with fail
    go_end0
    rw [HF.out]
    exact ⟨rfl, v', HR.out, A1.out.trans HA.out⟩
  by_cases c3 : kind = 3
  · subst c3
    have HF := Lib.hid (show wWrite ⟨3, wd, n, s⟩ st = wText wd s st by simp [wWrite])
    go_enter Try.func16, Try.ntmps16
    go_wp2_with fail
    refine (rtext_any base B v st wd s _ w2 s1 H1.out).mono ?_
    rintro e w' ⟨rfl, v', hr, ha⟩
    have HR := Lib.hid hr
    have HA := Lib.hid ha
    clear hr ha
    go_wp2_with fail
    go_end0
    rw [HF.out]
    exact ⟨rfl, v', HR.out, A1.out.trans HA.out⟩
  · have HF := Lib.hid (show wWrite ⟨kind, wd, n, s⟩ st = st by simp [wWrite, c0, c1, c2, c3])
    have b0 : (kind == 0) = false := by simpa using c0
    have b1 : (kind == 1) = false := by simpa using c1
    have b2 : (kind == 2) = false := by simpa using c2
    have b3 : (kind == 3) = false := by simpa using c3
    clear c0 c1 c2 c3
    go_enter Try.func16, Try.ntmps16
    go_wp2_with fail
    go_end0
    rw [HF.out]
    exact ⟨rfl, v, H1.out, A1.out⟩


theorem adv_other {w w' : World} {W : Nat} {v v' : Value} (h : Adv w w' W v v') {X : Nat} (hX : X < w.heap.size) (h1 : X ≠ W) (h2 : v.ownBlock ≠ some X) : ¬ foot W v X ∧ v'.ownBlock ≠ some X :=
  ⟨fun hf => by rcases hf with hf | hf; exact h1 hf; exact h2 hf, fun hj => by rcases h.row _ hj with hj | hj; exact h2 hj; omega⟩

set_option maxHeartbeats 4000000 in
set_option maxRecDepth 100000 in
theorem writes_law (ao : Option Addr) (len cap : Nat) (fs : Nat → Fld) (w : World) (hl : len ≤ 9223372036854775807) (h : FieldsIn w.heap.size w ao len fs) :
    Calls Try.prog 3 #[.slice ao len cap] w fun e w' => e = .returned (.bool true) ∧ Below w.heap.size w w' := by
  go_enter Try.func3, Try.ntmps3
  go_wp2_with fail
  refine (awake_any w).mono ?_
  rintro e w1 ⟨rfl, b1⟩
  have B1 := Lib.hid b1
  clear b1
  go_wp2_with fail
  refine (few_any w.heap.size ao len cap fs w1 hl B1.out.size (h.below B1.out)).mono ?_
  rintro e w2 ⟨rfl, b2⟩
  have B2 := Lib.hid (B1.out.trans (b2.mono B1.out.size))
  clear b2
  cases hfew : fewB fs len
  · go_wp2_with fail
    go_ret
    exact ⟨rfl, B2.out⟩
  · have HFW := Lib.hid hfew
    clear hfew
    go_wp2_with fail
    refine (newWriter_any w2).mono ?_
    rintro e w3 ⟨rfl, hw3⟩
    have h3 := newWriter_st w.heap.size w2 B2.out.size
    rw [← hw3] at h3
    have B3 := Lib.hid (show Below w.heap.size w w3 by rw [hw3]; exact B2.out.alloc B2.out.size _)
    have hsz3 : w2.heap.size < w3.heap.size := lt_of_blk h3.blk
    have H3 := Lib.hid h3
    clear h3 hw3
    go_wp2_with fail
    refine (rnewWriter_any w3).mono ?_
    rintro e w4 ⟨rfl, hw4⟩
    have h4 := rnewWriter_st w.heap.size w3 B3.out.size
    rw [← hw4] at h4
    have B4 := Lib.hid (show Below w.heap.size w w4 by rw [hw4]; exact B3.out.alloc B3.out.size _)
    have G4 := Lib.hid (show WrS w.heap.size w4 w2.heap.size (.slice none 0 0) ⟨[], 0⟩ by rw [hw4]; exact H3.out.alloc _)
    have H4 := Lib.hid h4
    clear h4 hw4
    go_wp2_with fail
    go_loopw [22] (fun i wr => ∃ (k : Nat) (v u : Value), k ≤ len ∧ i = .int .i64 k ∧ WrS w.heap.size wr w2.heap.size v (bIter fs k) ∧ RwS w.heap.size wr w3.heap.size u (bIter fs k) ∧
      Hid (v.ownBlock ≠ some w3.heap.size ∧ u.ownBlock ≠ some w2.heap.size ∧ ∀ j, v.ownBlock = some j → u.ownBlock ≠ some j) ∧ Below w.heap.size w wr) (fun i _ => len - (intOf i).toNat)
    case atStart => exact ⟨0, _, _, Nat.zero_le _, rfl, G4.out, H4.out, Lib.hid ⟨by simp [Value.ownBlock], by simp [Value.ownBlock], by simp [Value.ownBlock]⟩, B4.out⟩
    case round =>
      obtain ⟨k, v, u, hk, rfl, hw, hr, HD, hb⟩ := hrel
      have HWR := Lib.hid hw
      have HRR := Lib.hid hr
      have HB := Lib.hid hb
      clear hw hr hb
      by_cases hlt : k < len
      · obtain ⟨ok, b, off, rfl, hblt, c0, c1, c2, c3⟩ := (h.below HB.out) k hlt
        have HWT := Lib.hid (show bIter fs (k + 1) = wWrite (fs k) (bIter fs k) from rfl)
        have HXS := Lib.hid (few_size fs len k HFW.out hlt)
        have HOK := Lib.hid ok
        clear h ok
        generalize bIter fs k = ws at *
        generalize hfk : fs k = f at *
        clear hfk
        have hWlt := lt_of_blk HWR.out.blk
        have hXlt := lt_of_blk HRR.out.blk
        go_wp2_with fail
        have hal := HWR.out.alloc (.cells #[.int .i64 f.kind, .int .i64 f.width, .int .i64 f.n, .string f.s] 30)
        have hbox : (wr.alloc (.cells #[.int .i64 f.kind, .int .i64 f.width, .int .i64 f.n, .string f.s] 30)).heap[wr.heap.size]? = some (.cells #[.int .i64 f.kind, .int .i64 f.width, .int .i64 f.n, .string f.s] 30 (0, 0)) := heap_alloc_new wr _
        refine (write_any _ _ _ ws f _ HOK.out (by have := HXS.out; omega) hal).mono ?_
        rintro e w6 ⟨rfl, v6, h6, a6⟩
        obtain ⟨D1, D2, D3⟩ := HD.out
        have x6 := adv_other a6 (X := w3.heap.size) (by simp; omega) (by omega) D1
        have bx6 := adv_other a6 (X := wr.heap.size) (by simp) (by omega) (fun hj => by
          obtain ⟨bs, e⟩ := ws
          by_cases he : e = 0
          · obtain ⟨l, _, ho⟩ := HWR.out.own he
            have := (ho.lt _ hj).2; omega
          · rw [HWR.out.nil he] at hj; simp [Value.ownBlock] at hj)
        have hulive : ∀ j, u.ownBlock = some j → j < wr.heap.size := fun j hj => (HRR.out.own.lt j hj).2
        have g6 : RwS w.heap.size w6 w3.heap.size u ws := (HRR.out.alloc _).kept a6.fr x6.1 (fun j hj hf => by
          rcases hf with hf | hf
          · exact D2 (by rw [hj, hf])
          · exact D3 j hf hj)
        have d6 : v6.ownBlock ≠ some w3.heap.size ∧ u.ownBlock ≠ some w2.heap.size ∧ ∀ j, v6.ownBlock = some j → u.ownBlock ≠ some j := by
          refine ⟨x6.2, D2, fun j hj hu => ?_⟩
          rcases a6.row j hj with hj | hj
          · exact D3 j hj hu
          · have := hulive j hu; simp at hj; omega
        obtain ⟨q0, q1, q2, q3, _, _, _, _⟩ := four_cells (a6.fr.blk hbox bx6.1)
        have hsz6 : wr.heap.size < w6.heap.size := by have := a6.fr.size; simp at this; omega
        have B6 := Lib.hid ((HB.out.alloc HB.out.size _).trans (a6.below hal))
        have W6 := Lib.hid h6
        have R6 := Lib.hid g6
        have D6 := Lib.hid d6
        clear h6 a6 g6 d6 x6 bx6 hal hbox D1 D2 D3 hulive
        go_wp2_with fail
        refine (rwrite_any _ _ _ ws f _ HOK.out (by have := HXS.out; omega) R6.out).mono ?_
        rintro e w7 ⟨rfl, u7, h7, a7⟩
        obtain ⟨D1, D2, D3⟩ := D6.out
        have x7 := adv_other a7 (X := w2.heap.size) (by omega) (by omega) D2
        have hvlive : ∀ j, v6.ownBlock = some j → j < w6.heap.size := fun j hj => by
          have hW := W6.out
          generalize wWrite f ws = st2 at hW
          obtain ⟨bs, e⟩ := st2
          by_cases he : e = 0
          · obtain ⟨l, _, ho⟩ := hW.own he
            exact (ho.lt _ hj).2
          · rw [hW.nil he] at hj; simp [Value.ownBlock] at hj
        have g7 : WrS w.heap.size w7 w2.heap.size v6 (wWrite f ws) := W6.out.kept a7.fr x7.1 (fun j hj hf => by
          rcases hf with hf | hf
          · exact D1 (by rw [hj, hf])
          · exact D3 j hj hf)
        have d7 : v6.ownBlock ≠ some w3.heap.size ∧ u7.ownBlock ≠ some w2.heap.size ∧ ∀ j, v6.ownBlock = some j → u7.ownBlock ≠ some j := by
          refine ⟨D1, x7.2, fun j hj hu => ?_⟩
          rcases a7.row j hu with hu | hu
          · exact D3 j hj hu
          · have := hvlive j hj; omega
        have B7 := Lib.hid (B6.out.trans (a7.belowR R6.out))
        have W7 := Lib.hid g7
        have R7 := Lib.hid h7
        have D7 := Lib.hid d7
        clear h7 a7 g7 d7 x7 D1 D2 D3 hvlive
        generalize wWrite f ws = st2 at *
        go_wp2_with fail
        refine (bytes_any _ _ _ _ _ W7.out).mono ?_
        rintro e w8 ⟨rfl, k8, hw8⟩
        have W8 := Lib.hid (show WrS w.heap.size w8 w2.heap.size v6 st2 by subst hw8; exact ⟨W7.out.blk, W7.out.hB, W7.out.own, W7.out.ne, W7.out.nil, W7.out.le⟩)
        have R8 := Lib.hid (show RwS w.heap.size w8 w3.heap.size u7 st2 by subst hw8; exact R7.out.drewN _)
        have B8 := Lib.hid (show Below w.heap.size w w8 by subst hw8; exact ⟨B7.out.os, B7.out.tape, B7.out.output, B7.out.size, B7.out.block⟩)
        clear hw8
        go_wp2_with fail
        refine (rbytes_any _ _ _ _ _ R8.out).mono ?_
        rintro e w9 ⟨rfl, a9⟩
        have W9 := Lib.hid (W8.out.kept a9 (fun h => h) (fun _ _ h => h))
        have R9 := Lib.hid (R8.out.kept a9 (fun h => h) (fun _ _ h => h))
        have B9 := Lib.hid (B8.out.trans (a9.belowNone B8.out.size))
        clear a9
        generalize wBytes st2 = S
        go_wp2_with fail
        refine (bits_any _ _ _ _ _ W9.out).mono ?_
        rintro e w' ⟨rfl, hwq⟩
        rw [hwq]
        clear hwq w'
        go_wp2_with fail
        refine (rbits_any _ _ _ _ _ R9.out).mono ?_
        rintro e w' ⟨rfl, hwq⟩
        rw [hwq]
        clear hwq w'
        go_wp2_with fail
        go_roundw
        case rel => exact ⟨k + 1, v6, u7, by omega, by go_num, by rw [HWT.out]; exact W9.out, by rw [HWT.out]; exact R9.out, D7, B9.out⟩
        case measure => simp [intOf]; omega
      · have ek : k = len := by omega
        subst ek
        go_wp2_with fail
        refine (bits_any _ _ _ _ _ HWR.out).mono ?_
        rintro e w' ⟨rfl, hwq⟩
        rw [hwq]
        clear hwq w'
        go_wp2_with fail
        refine (rbits_any _ _ _ _ _ HRR.out).mono ?_
        rintro e w' ⟨rfl, hwq⟩
        rw [hwq]
        clear hwq w'
        go_wp2_with fail
        go_ret
        exact ⟨by simp, HB.out⟩
end Go.Proofs.Ytgbhmcepokpcaaa
