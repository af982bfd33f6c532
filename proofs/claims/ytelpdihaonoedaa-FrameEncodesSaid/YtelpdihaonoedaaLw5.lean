/- FrameRooms: the law. -/
import Derived.Test.YtelpdihaonoedaaMst
import Derived.Test.YtelpdihaonoedaaAwk
import Derived.Test.YtelpdihaonoedaaLw1
import Derived.Test.YtelpdihaonoedaaRep
import Derived.Lib.Repeat
import Derived.Deep.RegionWith
namespace Go.Proofs.Ytelpdihaonoedaa
open Go.RowKit
set_option linter.unusedVariables false
set_option maxRecDepth 20000

theorem okF_d {x : Frm} (h : okF x = true) (hk : x.k ≠ 2) (d' : ByteArray) : okF { x with d := d' } = true := by
  obtain ⟨h0, h1, h2, h3, h4, h5, h6, h7, h8, h9, h10⟩ := okF_parts h
  have hn : eqF { x with d := d' } (nmF { x with d := d' }) = true := by
    have e := eqF_eq h1
    have hm : nmF { x with d := d' } = { nmF x with d := d' } := by
      rcases (show x.k = 1 ∨ x.k = 3 ∨ x.k = 4 by omega) with hk | hk | hk <;> simp [nmF, hk]
    rw [hm, ← e]
    exact eqF_refl _
  have ha : adB { x with d := d' } = true := h2
  unfold okF
  rw [hn, ha]
  simp only [inR_t.2 h0, inR_t.2 h3, inR_t.2 h4, inR_t.2 h5, inR_t.2 h6, inR_t.2 h7, inR_t.2 h8, inR_t.2 h9, inR_t.2 h10, Bool.and_self]
def hB (x : Frm) : Int := (if x.t = -1 then 25 else 30) + (if x.k = 1 then 24 else if x.k = 3 then 59 else 0)
theorem wid127 : width 127 = 7 := by decide
theorem txt_step (d : ByteArray) (bs : List Bool) (hd : d.size ≤ 127) (hb : bs.length ≤ 1000) : ∃ bs' : List Bool, wText 127 d ⟨bs, 0⟩ = ⟨bs', 0⟩ ∧ bs'.length = bs.length + 7 + 8 * d.size := by
  have ht : tErr 127 (d.size : Int) = 0 := by unfold tErr; simp; omega
  refine ⟨bs ++ (ibits 7 d.size ++ sbits d d.size), ?_, ?_⟩
  · unfold wText wField
    rw [if_neg (by simp), ht, if_neg (by simp), wid127, if_neg (by simp only; omega)]
  · simp [ibits_len, sbits_len d d.size (Nat.le_refl _)]; omega
theorem txt_bits {x : Frm} (hx : okF x = true) (hk : x.k ≠ 2) (hd : x.d.size ≤ 127) : ∃ bs : List Bool, enS x = ⟨bs, 0⟩ ∧ (bs.length : Int) = hB x + 7 + 8 * (x.d.size : Int) := by
  obtain ⟨h0, h1, h2, h3, h4, h5, h6, h7, h8, h9, h10⟩ := okF_parts hx
  obtain ⟨bs, hb, hl⟩ := hd_bits hx
  have hl2 : bs.length ≤ 30 := by split at hl <;> omega
  unfold enS kdS hB
  rw [hb]
  rcases (show x.k = 1 ∨ x.k = 3 ∨ x.k = 4 by omega) with hk | hk | hk
  · rw [if_pos hk, if_pos hk]
    rw [show (8 : Int) = ((8 : Nat) : Int) from rfl, show (16 : Int) = ((16 : Nat) : Int) from rfl, bit_step 8 x.f bs (by decide) (by decide) (by omega) (by omega) (by omega), bit_step 16 x.n _ (by decide) (by decide) (by omega) (by omega) (by simp [ibits_len]; omega)]
    obtain ⟨b2, e1, e2⟩ := txt_step x.d (bs ++ ibits 8 x.f ++ ibits 16 x.n) hd (by simp [ibits_len]; omega)
    refine ⟨b2, e1, ?_⟩
    simp [ibits_len] at e2
    omega
  · rw [if_neg (show ¬ x.k = 1 by omega), if_neg (show ¬ x.k = 2 by omega), if_pos hk, if_neg (show ¬ x.k = 1 by omega), if_pos hk]
    rw [show (27 : Int) = ((27 : Nat) : Int) from rfl, show (16 : Int) = ((16 : Nat) : Int) from rfl, bit_step 27 x.sl bs (by decide) (by decide) (by omega) (by omega) (by omega), bit_step 16 x.r _ (by decide) (by decide) (by omega) (by omega) (by simp [ibits_len]; omega), bit_step 16 x.ep _ (by decide) (by decide) (by omega) (by omega) (by simp [ibits_len]; omega)]
    obtain ⟨b2, e1, e2⟩ := txt_step x.d (bs ++ ibits 27 x.sl ++ ibits 16 x.r ++ ibits 16 x.ep) hd (by simp [ibits_len]; omega)
    refine ⟨b2, e1, ?_⟩
    simp [ibits_len] at e2
    omega
  · rw [if_neg (show ¬ x.k = 1 by omega), if_neg (show ¬ x.k = 2 by omega), if_neg (show ¬ x.k = 3 by omega), if_pos hk, if_neg (show ¬ x.k = 1 by omega), if_neg (show ¬ x.k = 3 by omega)]
    obtain ⟨b2, e1, e2⟩ := txt_step x.d bs hd (by omega)
    exact ⟨b2, e1, by omega⟩
theorem txt_size {x : Frm} (hx : okF x = true) (hk : x.k ≠ 2) (hd : x.d.size ≤ 127) : (enS x).e = 0 ∧ ((prS x).size : Int) = (hB x + 7 + 8 * (x.d.size : Int) + 7) / 8 + 2 := by
  obtain ⟨bs, hb, hl⟩ := txt_bits hx hk hd
  have := pr_size hb
  exact ⟨by rw [hb], by omega⟩
def repS (c : Nat) : ByteArray := ⟨(Lib.repeatL [120] c).toArray⟩
theorem repS_size (c : Nat) : (repS c).size = c := by
  have := Lib.repeatL_length [120] c
  simp [repS, ByteArray.size] at this ⊢
  exact this
theorem rep_any (c : Nat) (w : World) (hc : c ≤ 1000) : Calls Try.prog 28 #[.string ⟨#[120]⟩, .int .i64 c] w fun e w' => e = .returned (.string (repS c)) ∧ Fr no w w' :=
  (Try.strings_Repeat ⟨#[120]⟩ c w (by omega) (by show 1 * c ≤ _; omega)).mono fun _ _ ⟨he, hb⟩ => ⟨he, ⟨hb.os, hb.tape, hb.output, hb.size, fun k hk _ => hb.block k hk⟩⟩
/-- The two longer frames. -/
theorem room_math {x : Frm} (hk : x.k ≠ 2) (hE : enE x = 0) (n : Nat) (hn : (n : Int) = 127 - ((enV x).size : Int)) :
    enE { x with d := x.d ++ repS n } = 0 ∧ (enV { x with d := x.d ++ repS n }).size = 127 ∧ tmV { x with d := x.d ++ repS n } = 4256 ∧ enE { x with d := (x.d ++ repS n) ++ ⟨#[120]⟩ } = 8 ∧ x.d.size + n ≤ 126 := by
  obtain ⟨c1, c2, c3, c4⟩ := enE_0 hE
  have hd := en_small c1 c2
  obtain ⟨_, p2⟩ := txt_size c1 hk hd
  have hh : 0 ≤ hB x := by unfold hB; split <;> split <;> (try split) <;> omega
  rw [c4] at hn
  have hd1 : (x.d ++ repS n).size = x.d.size + n := by rw [ByteArray.size_append, repS_size]
  have o1 := okF_d c1 hk (x.d ++ repS n)
  have q1 := txt_size (x := { x with d := x.d ++ repS n }) o1 hk (by show (x.d ++ repS n).size ≤ 127; omega)
  have b1 : hB { x with d := x.d ++ repS n } = hB x := rfl
  have s1 : (prS { x with d := x.d ++ repS n }).size = 127 := by
    have := q1.2
    rw [b1] at this
    simp only [hd1] at this
    omega
  have e1 := enc_4 o1 q1.1 (by omega)
  have o2 := okF_d c1 hk ((x.d ++ repS n) ++ ⟨#[120]⟩)
  have hd2 : ((x.d ++ repS n) ++ (⟨#[120]⟩ : ByteArray)).size = x.d.size + n + 1 := by rw [ByteArray.size_append, hd1]; rfl
  have q2 := txt_size (x := { x with d := (x.d ++ repS n) ++ ⟨#[120]⟩ }) o2 hk (by show ((x.d ++ repS n) ++ (⟨#[120]⟩ : ByteArray)).size ≤ 127; omega)
  have b2 : hB { x with d := (x.d ++ repS n) ++ ⟨#[120]⟩ } = hB x := rfl
  have s2 : ¬ (prS { x with d := (x.d ++ repS n) ++ ⟨#[120]⟩ }).size ≤ 127 := by
    have := q2.2
    rw [b2] at this
    simp only [hd2] at this
    omega
  refine ⟨e1.2, by rw [e1.1]; exact s1, ?_, (enc_3 o2 q2.1 s2).2, by omega⟩
  unfold tmV
  rw [if_pos e1.2, if_neg hk, e1.1, s1]
  rfl
theorem rooms_big (x : Frm) (w : World) (hd : 300 < x.d.size) : Calls Try.prog 9 #[.agg (frA x)] w fun e w' => e = .returned (.bool true) ∧ Fr no w w' := by
  have HAW := Lib.hid awake_any
  obtain ⟨k, s, t, l, q, f, n, e, sl, r, ep, d⟩ := x
  simp only at hd
  have hd1 : (300 : Int) < (d.size : Int) := by omega
  clear hd
  simp only [frA]
  obtain ⟨w0, hW⟩ : ∃ w0, w0 = w.alloc (.cells #[.int .i64 k, .int .i64 s, .int .i64 t, .int .i64 l, .int .i64 q, .int .i64 f, .int .i64 n, .int .i64 e, .int .i64 sl, .int .i64 r, .int .i64 ep, .string d] 23 (0, 0)) := ⟨_, rfl⟩
  have hBc : w0.heap[w.heap.size]? = some (.cells #[.int .i64 k, .int .i64 s, .int .i64 t, .int .i64 l, .int .i64 q, .int .i64 f, .int .i64 n, .int .i64 e, .int .i64 sl, .int .i64 r, .int .i64 ep, .string d] 23 (0, 0)) := by rw [hW]; exact heap_alloc_new w _
  have Hc0 := Lib.hid hBc
  have HF0 := Lib.hid (show Fr no w w0 by rw [hW]; exact (Fr.refl no w).alloc _)
  have HW := Lib.hid hW
  obtain ⟨c0, c1, c2, c3, c4, c5, c6, c7, c8, c9, c10, c11⟩ := twelve_cells Hc0.out
  clear hW hBc
  go_enter Try.func9, Try.ntmps9
  go_wp2_with fail
  rw [← HW.out]
  go_wp2_with fail
  refine (HAW.out _).mono ?_
  rintro e1 w1 ⟨rfl, f1⟩
  have HF1 := Lib.hid (HF0.out.noTrans f1)
  have Hc1 := Lib.hid (f1.blk Hc0.out (fun h => h))
  clear f1
  clear c0 c1 c2 c3 c4 c5 c6 c7 c8 c9 c10 c11
  obtain ⟨c0, c1, c2, c3, c4, c5, c6, c7, c8, c9, c10, c11⟩ := twelve_cells Hc1.out
  go_wp2_with fail
  go_ret
  exact ⟨rfl, HF1.out⟩
theorem rooms_err (x : Frm) (w : World) (hd : ¬ 300 < x.d.size) (hE : rmE x ≠ 0) : Calls Try.prog 9 #[.agg (frA x)] w fun e w' => e = .returned (.bool true) ∧ Fr no w w' := by
  have HAW := Lib.hid awake_any
  have HT := Lib.hid (fun w => room_any' x w (by omega) (enV_small x))
  have hr : rmV x = 0 := by
    unfold rmV
    unfold rmE at hE
    split
    · rfl
    · rename_i h
      rw [if_neg h] at hE
      rw [if_neg hE]
  rw [hr] at HT
  have hE1 : (rmE x != 0) = true := by simp [hE]
  clear hr hE
  generalize rmE x = E at *
  obtain ⟨k, s, t, l, q, f, n, e, sl, r, ep, d⟩ := x
  simp only at hd
  have hd1 : ¬ (300 : Int) < (d.size : Int) := by omega
  clear hd
  simp only [frA] at HT ⊢
  obtain ⟨w0, hW⟩ : ∃ w0, w0 = w.alloc (.cells #[.int .i64 k, .int .i64 s, .int .i64 t, .int .i64 l, .int .i64 q, .int .i64 f, .int .i64 n, .int .i64 e, .int .i64 sl, .int .i64 r, .int .i64 ep, .string d] 23 (0, 0)) := ⟨_, rfl⟩
  have hBc : w0.heap[w.heap.size]? = some (.cells #[.int .i64 k, .int .i64 s, .int .i64 t, .int .i64 l, .int .i64 q, .int .i64 f, .int .i64 n, .int .i64 e, .int .i64 sl, .int .i64 r, .int .i64 ep, .string d] 23 (0, 0)) := by rw [hW]; exact heap_alloc_new w _
  have Hc0 := Lib.hid hBc
  have HF0 := Lib.hid (show Fr no w w0 by rw [hW]; exact (Fr.refl no w).alloc _)
  have HW := Lib.hid hW
  obtain ⟨c0, c1, c2, c3, c4, c5, c6, c7, c8, c9, c10, c11⟩ := twelve_cells Hc0.out
  clear hW hBc
  go_enter Try.func9, Try.ntmps9
  go_wp2_with fail
  rw [← HW.out]
  go_wp2_with fail
  refine (HAW.out _).mono ?_
  rintro e1 w1 ⟨rfl, f1⟩
  have HF1 := Lib.hid (HF0.out.noTrans f1)
  have Hc1 := Lib.hid (f1.blk Hc0.out (fun h => h))
  clear f1
  clear c0 c1 c2 c3 c4 c5 c6 c7 c8 c9 c10 c11
  obtain ⟨c0, c1, c2, c3, c4, c5, c6, c7, c8, c9, c10, c11⟩ := twelve_cells Hc1.out
  go_wp2_with fail
  refine (HT.out _).mono ?_
  rintro e2 w2 ⟨rfl, f2⟩
  have HF2 := Lib.hid (HF1.out.noTrans f2)
  have Hc2 := Lib.hid (f2.blk Hc1.out (fun h => h))
  clear f2
  clear c0 c1 c2 c3 c4 c5 c6 c7 c8 c9 c10 c11
  obtain ⟨c0, c1, c2, c3, c4, c5, c6, c7, c8, c9, c10, c11⟩ := twelve_cells Hc2.out
  go_wp2_with fail
  go_ret
  exact ⟨rfl, HF2.out⟩
set_option maxHeartbeats 4000000 in
theorem rooms_ok (x : Frm) (m : Nat) (V : ByteArray) (V2 : ByteArray) (w : World) (hd : ¬ 300 < x.d.size) (hm : m ≤ 127) (hV : V.size = 127)
    (HT : Hid (∀ w, Calls Try.prog 16 #[.agg (frA x)] w fun e w' => e = .returned (.tuple #[.int .i64 (m : Int), .int .i64 0]) ∧ Fr no w w'))
    (HE : Hid (∀ w, Calls Try.prog 12 #[.agg (frA { x with d := x.d ++ repS m })] w fun e w' => e = .returned (.tuple #[.string V, .int .i64 0]) ∧ Fr no w w'))
    (HU : Hid (∀ w, Calls Try.prog 14 #[.agg (frA { x with d := x.d ++ repS m })] w fun e w' => e = .returned (.tuple #[.int .i64 4256, .int .i64 0]) ∧ Fr no w w'))
    (HG : Hid (∀ w, Calls Try.prog 12 #[.agg (frA { x with d := (x.d ++ repS m) ++ ⟨#[120]⟩ })] w fun e w' => e = .returned (.tuple #[.string V2, .int .i64 8]) ∧ Fr no w w')) :
    Calls Try.prog 9 #[.agg (frA x)] w fun e w' => e = .returned (.bool true) ∧ Fr no w w' := by
  have HAW := Lib.hid awake_any
  have HRP := Lib.hid (fun w => rep_any m w (by omega))
  have m1 : ¬ (m : Int) < 0 := by omega
  have m2 : ¬ (127 : Int) < (m : Int) := by omega
  have m3 : decide ((m : Int) < 0) = false := decide_eq_false m1
  have hV1 : (V.size : Int) = 127 := by omega
  clear hV hm
  obtain ⟨k, s, t, l, q, f, n, e, sl, r, ep, d⟩ := x
  simp only at hd
  have hd1 : ¬ (300 : Int) < (d.size : Int) := by omega
  clear hd
  simp only [frA] at HT HE HU HG ⊢
  have hR : ((repS m).size : Int) = (m : Int) := by rw [repS_size]
  generalize repS m = R at *
  obtain ⟨w0, hW⟩ : ∃ w0, w0 = w.alloc (.cells #[.int .i64 k, .int .i64 s, .int .i64 t, .int .i64 l, .int .i64 q, .int .i64 f, .int .i64 n, .int .i64 e, .int .i64 sl, .int .i64 r, .int .i64 ep, .string d] 23 (0, 0)) := ⟨_, rfl⟩
  have hBc : w0.heap[w.heap.size]? = some (.cells #[.int .i64 k, .int .i64 s, .int .i64 t, .int .i64 l, .int .i64 q, .int .i64 f, .int .i64 n, .int .i64 e, .int .i64 sl, .int .i64 r, .int .i64 ep, .string d] 23 (0, 0)) := by rw [hW]; exact heap_alloc_new w _
  have Hc0 := Lib.hid hBc
  have HF0 := Lib.hid (show Fr no w w0 by rw [hW]; exact (Fr.refl no w).alloc _)
  have HW := Lib.hid hW
  obtain ⟨c0, c1, c2, c3, c4, c5, c6, c7, c8, c9, c10, c11⟩ := twelve_cells Hc0.out
  clear hW hBc
  go_enter Try.func9, Try.ntmps9
  go_wp2_with fail
  rw [← HW.out]
  go_wp2_with fail
  refine (HAW.out _).mono ?_
  rintro e1 w1 ⟨rfl, f1⟩
  have HF1 := Lib.hid (HF0.out.noTrans f1)
  have Hc1 := Lib.hid (f1.blk Hc0.out (fun h => h))
  clear f1
  clear c0 c1 c2 c3 c4 c5 c6 c7 c8 c9 c10 c11
  obtain ⟨c0, c1, c2, c3, c4, c5, c6, c7, c8, c9, c10, c11⟩ := twelve_cells Hc1.out
  go_wp2_with fail
  refine (HT.out _).mono ?_
  rintro e2 w2 ⟨rfl, f2⟩
  have HF2 := Lib.hid (HF1.out.noTrans f2)
  have Hc2 := Lib.hid (f2.blk Hc1.out (fun h => h))
  clear f2
  clear c0 c1 c2 c3 c4 c5 c6 c7 c8 c9 c10 c11
  obtain ⟨c0, c1, c2, c3, c4, c5, c6, c7, c8, c9, c10, c11⟩ := twelve_cells Hc2.out
  go_wp2_with fail
  have lt2 := World.block_lt_of_cell? w2 _ c0
  have cf := fun i => (show w2.drew.frozen? ⟨w.heap.size, i, none⟩ = false from (by simp [World.frozen?, Hc2.out] : w2.frozen? ⟨w.heap.size, i, none⟩ = false))
  go_region_with (first | (go_at_call 28; refine (HRP.out _).mono ?_; rintro e3 w3 ⟨rfl, f3⟩; have z11 := f3.keepc (show w2.drew.cell? ⟨w.heap.size, 11, none⟩ = _ from c11); have zf := f3.keepf (show w2.drew.cell? ⟨w.heap.size, 11, none⟩ = _ from c11) (cf 11)))
  all_goals
    have HF3 := Lib.hid ((HF2.out.drew).noTrans f3)
    have HC3 := Lib.hid (f3.blk (show w2.drew.heap[w.heap.size]? = _ from Hc2.out) (fun h => h))
    obtain ⟨w4, hw4⟩ : ∃ w4, w4 = w3.setCell ⟨w.heap.size, 11, none⟩ (.string (d ++ R)) := ⟨_, rfl⟩
    have HF4 := Lib.hid (show Fr no w w4 by rw [hw4]; exact HF3.out.setCell (p := ⟨w.heap.size, 11, none⟩) (.inr (Nat.le_refl _)) _)
    have HC4 := Lib.hid (show w4.heap[w.heap.size]? = some (.cells #[.int .i64 k, .int .i64 s, .int .i64 t, .int .i64 l, .int .i64 q, .int .i64 f, .int .i64 n, .int .i64 e, .int .i64 sl, .int .i64 r, .int .i64 ep, .string (d ++ R)] 23 (0, 0)) by rw [hw4]; exact three_set HC3.out 11 _)
    rw [← hw4]
    clear hw4 f3 z11 zf c0 c1 c2 c3 c4 c5 c6 c7 c8 c9 c10 c11
    obtain ⟨c0, c1, c2, c3, c4, c5, c6, c7, c8, c9, c10, c11⟩ := twelve_cells HC4.out
    go_wp2_with fail
    refine (HE.out _).mono ?_
    rintro e5 w5 ⟨rfl, f5⟩
    have HF5 := Lib.hid (HF4.out.noTrans f5)
    have HC5 := Lib.hid (f5.blk HC4.out (fun h => h))
    clear f5 c0 c1 c2 c3 c4 c5 c6 c7 c8 c9 c10 c11
    obtain ⟨c0, c1, c2, c3, c4, c5, c6, c7, c8, c9, c10, c11⟩ := twelve_cells HC5.out
    go_wp2_with fail
    refine (HU.out _).mono ?_
    rintro e6 w6 ⟨rfl, f6⟩
    have HF6 := Lib.hid (HF5.out.noTrans f6)
    have HC6 := Lib.hid (f6.blk HC5.out (fun h => h))
    clear f6 c0 c1 c2 c3 c4 c5 c6 c7 c8 c9 c10 c11
    obtain ⟨c0, c1, c2, c3, c4, c5, c6, c7, c8, c9, c10, c11⟩ := twelve_cells HC6.out
    have zf6 : w6.frozen? ⟨w.heap.size, 11, none⟩ = false := by simp [World.frozen?, HC6.out]
    have hsz : ((d ++ R).size : Int) ≤ 500 := by rw [ByteArray.size_append]; omega
    go_upto_region 14 with (fail)
    obtain ⟨w7, hw7⟩ : ∃ w7, w7 = w6.setCell ⟨w.heap.size, 11, none⟩ (.string (d ++ R ++ ⟨#[120]⟩)) := ⟨_, rfl⟩
    have HF7 := Lib.hid (show Fr no w w7 by rw [hw7]; exact HF6.out.setCell (p := ⟨w.heap.size, 11, none⟩) (.inr (Nat.le_refl _)) _)
    have HC7 := Lib.hid (show w7.heap[w.heap.size]? = some (.cells #[.int .i64 k, .int .i64 s, .int .i64 t, .int .i64 l, .int .i64 q, .int .i64 f, .int .i64 n, .int .i64 e, .int .i64 sl, .int .i64 r, .int .i64 ep, .string (d ++ R ++ ⟨#[120]⟩)] 23 (0, 0)) by rw [hw7]; exact three_set HC6.out 11 _)
    rw [← hw7]
    clear hw7 zf6 c0 c1 c2 c3 c4 c5 c6 c7 c8 c9 c10 c11
    obtain ⟨c0, c1, c2, c3, c4, c5, c6, c7, c8, c9, c10, c11⟩ := twelve_cells HC7.out
    go_wp2_with fail
    refine (HG.out _).mono ?_
    rintro e8 w8 ⟨rfl, f8⟩
    have HF8 := Lib.hid (HF7.out.noTrans f8)
    clear f8 c0 c1 c2 c3 c4 c5 c6 c7 c8 c9 c10 c11
    go_wp2_with fail
    go_ret
    exact ⟨rfl, HF8.out⟩
theorem rooms_law (x : Frm) (w : World) : Calls Try.prog 9 #[.agg (frA x)] w fun e w' => e = .returned (.bool true) ∧ Fr no w w' := by
  by_cases hd : 300 < x.d.size
  · exact rooms_big x w hd
  by_cases hE : rmE x = 0
  · have hk : x.k ≠ 2 := by
      intro h
      unfold rmE at hE
      rw [if_pos h] at hE
      cases hE
    have he : enE x = 0 := by unfold rmE at hE; rw [if_neg hk] at hE; exact hE
    have h127 := enV_small x
    obtain ⟨m, hm⟩ : ∃ m : Nat, (m : Int) = 127 - ((enV x).size : Int) := ⟨127 - (enV x).size, by omega⟩
    have hr : rmV x = (m : Int) := by unfold rmV; rw [if_neg hk, if_pos he, hm]
    obtain ⟨g1, g2, g3, g4, g5⟩ := room_math hk he m hm
    have hT := fun w => room_any' x w (by omega) (enV_small x)
    rw [hr, hE] at hT
    have s1 : (x.d ++ repS m).size ≤ 1000000 := by rw [ByteArray.size_append, repS_size]; omega
    have s2 : ((x.d ++ repS m) ++ (⟨#[120]⟩ : ByteArray)).size ≤ 1000000 := by
      rw [ByteArray.size_append, ByteArray.size_append, repS_size]
      show x.d.size + m + 1 ≤ _
      omega
    have hE1 := fun w => encode_any { x with d := x.d ++ repS m } w s1
    rw [g1] at hE1
    have hU := fun w => time_any { x with d := x.d ++ repS m } w s1 (by rw [g2]; exact Nat.le_refl _)
    rw [g3, g1] at hU
    have hG := fun w => encode_any { x with d := (x.d ++ repS m) ++ ⟨#[120]⟩ } w s2
    rw [g4] at hG
    exact rooms_ok x m _ _ w hd (by omega) g2 (Lib.hid hT) (Lib.hid hE1) (Lib.hid hU) (Lib.hid hG)
  · exact rooms_err x w hd hE
end Go.Proofs.Ytelpdihaonoedaa
