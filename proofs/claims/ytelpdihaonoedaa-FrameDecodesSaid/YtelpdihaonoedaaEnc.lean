/- Encode. -/
import Derived.Test.YtelpdihaonoedaaWri
import Derived.Test.YtelpdihaonoedaaJoin
namespace Go.Proofs.Ytelpdihaonoedaa
open Go.RowKit
set_option linter.unusedVariables false
set_option maxRecDepth 20000

set_option maxHeartbeats 2000000 in
theorem writing_any (base F B : Nat) (w : World) :
    Calls Try.prog 32 #[.pointer (some ⟨B, 0, none⟩), .pointer (some ⟨F, 0, none⟩)] w fun e w' => e = .returned (.agg (layA (macW base F B w.heap.size))) ∧ w'.heap[w.heap.size]? = some (.cells #[.pointer (some ⟨B, 0, none⟩)] 46 (0, 0)) ∧ Fr no w w' := by
  have hmf : ∀ (fn : Fn) (first cap : Array Value) (w : World), (Instr.makeFunc fn first cap).run Try.prog w = .ok (.func fn first cap) w := fun _ _ _ _ => rfl
  have HF := Lib.hid (Fr.refl no w)
  have HN := Lib.hid (heap_alloc_new w (.cells #[.pointer (some ⟨B, 0, none⟩)] 46 (0, 0)))
  simp only [layA, macW]
  go_enter Try.func32, Try.ntmps32
  go_wp2_with fail
  refine bodyPost_ret (v := .agg #[.pointer (some ⟨F, 0, none⟩), .func (.func 70) #[] #[.pointer (some ⟨w.heap.size, 0, none⟩)], .func (.func 72) #[] #[.pointer (some ⟨w.heap.size, 0, none⟩)], .func (.func 74) #[] #[.pointer (some ⟨w.heap.size, 0, none⟩)], .func (.func 76) #[] #[.pointer (some ⟨w.heap.size, 0, none⟩)]]) (by simp [results, Try.results32, go_sem]) rfl ⟨rfl, ?_, ?_⟩
  · exact alloc_keeps HN.out _
  · exact (HF.out.alloc _).alloc _
/-- What is written of a frame. -/
def tgS (x : Frm) (st : WSt) : WSt := if (x.t != -1) = true then wUnsigned 5 x.t (wFlag (x.t != -1) st) else wFlag (x.t != -1) st
def hdS (x : Frm) : WSt := wUnsigned 8 x.q (wUnsigned 8 x.l (tgS x (wUnsigned 5 x.s (wUnsigned 3 x.k ⟨[], 0⟩))))
def kdS (x : Frm) (st : WSt) : WSt :=
  if x.k = 1 then wText 127 x.d (wUnsigned 16 x.n (wUnsigned 8 x.f st))
  else if x.k = 2 then wSigned 16 x.e st
  else if x.k = 3 then wText 127 x.d (wUnsigned 16 x.ep (wUnsigned 16 x.r (wUnsigned 27 x.sl st)))
  else if x.k = 4 then wText 127 x.d st
  else st
def enS (x : Frm) : WSt := kdS x (hdS x)
theorem intW (base F B P i : Nat) (hi : i ≤ 10) (wd : Int) (x : Frm) (st : WSt) : intF (macW base F B P) i wd (x, st) = (x, wUnsigned wd (getI x i) st) := by
  simp only [intF, macW, setI_getI x i hi]
theorem sgnW (base F B P i : Nat) (hi : i ≤ 10) (wd : Int) (x : Frm) (st : WSt) : sgnF (macW base F B P) i wd (x, st) = (x, wSigned wd (getI x i) st) := by
  simp only [sgnF, macW, setI_getI x i hi]
theorem tgtW (base F B P : Nat) (x : Frm) (st : WSt) : tgtF (macW base F B P) (x, st) = (x, tgS x st) := by
  unfold tgtF tgS
  by_cases h : x.t = -1
  · have hb : (x.t != -1) = false := by simp [h]
    have hs : setI x 2 (-1) = x := by have := setI_getI x 2 (by decide); simpa [getI, h] using this
    simp [macW, hb, hs]
  · have hb : (x.t != -1) = true := by simp [h]
    simp only [macW, hb, if_true]
    exact intW base F B P 2 (by decide) 5 x _
theorem allW (base F B P : Nat) (x : Frm) : allF (macW base F B P) (x, ⟨[], 0⟩) = (x, enS x) := by
  have hh : hdF (macW base F B P) (x, ⟨[], 0⟩) = (x, hdS x) := by
    unfold hdF hdS
    rw [intW _ _ _ _ 0 (by decide), intW _ _ _ _ 1 (by decide), tgtW, intW _ _ _ _ 3 (by decide), intW _ _ _ _ 4 (by decide)]
    rfl
  unfold allF enS
  rw [hh]
  unfold kndF kdS
  by_cases h1 : x.k = 1
  · simp only [h1, if_true]
    unfold datF
    rw [intW _ _ _ _ 5 (by decide), intW _ _ _ _ 6 (by decide)]
    rfl
  by_cases h2 : x.k = 2
  · simp only [h2, if_true]
    rw [if_neg (by decide), if_neg (by decide), sgnW _ _ _ _ 7 (by decide)]
    rfl
  by_cases h3 : x.k = 3
  · simp only [h3, if_true]
    rw [if_neg (by decide), if_neg (by decide), if_neg (by decide), if_neg (by decide)]
    unfold beaF
    rw [intW _ _ _ _ 8 (by decide), intW _ _ _ _ 9 (by decide), intW _ _ _ _ 10 (by decide)]
    rfl
  by_cases h4 : x.k = 4
  · simp only [h4, if_true]
    rw [if_neg (by decide), if_neg (by decide), if_neg (by decide), if_neg (by decide), if_neg (by decide), if_neg (by decide)]
    rfl
  simp only [h1, h2, h3, h4, if_false]
theorem inR_t {n a b : Int} : inR n a b = true ↔ a ≤ n ∧ n ≤ b := by simp [inR]
theorem okF_parts {x : Frm} (h : okF x = true) : (1 ≤ x.k ∧ x.k ≤ 4) ∧ eqF x (nmF x) = true ∧ adB x = true ∧ (0 ≤ x.l ∧ x.l ≤ 255) ∧ (0 ≤ x.q ∧ x.q ≤ 255) ∧ (0 ≤ x.f ∧ x.f ≤ 255) ∧ (0 ≤ x.n ∧ x.n ≤ 65535) ∧ (-32768 ≤ x.e ∧ x.e ≤ 32767) ∧ (0 ≤ x.sl ∧ x.sl ≤ 109951162) ∧ (0 ≤ x.r ∧ x.r ≤ 65535) ∧ (0 ≤ x.ep ∧ x.ep ≤ 65535) := by
  simp only [okF, Bool.and_eq_true, inR_t] at h
  obtain ⟨⟨⟨⟨⟨⟨⟨⟨⟨⟨h0, h1⟩, h2⟩, h3⟩, h4⟩, h5⟩, h6⟩, h7⟩, h8⟩, h9⟩, h10⟩ := h
  exact ⟨h0, h1, h2, h3, h4, h5, h6, h7, h8, h9, h10⟩
theorem adB_parts {x : Frm} (h : adB x = true) : (0 ≤ x.s ∧ x.s ≤ 31) ∧ (-1 ≤ x.t ∧ x.t ≤ 31) ∧ (x.t = -1 → x.k = 3 ∨ x.k = 4) ∧ (x.t ≠ -1 → x.k ≠ 3 ∧ x.t ≠ x.s) := by
  simp only [adB, Bool.and_eq_true, inR_t] at h
  obtain ⟨hs, ht⟩ := h
  refine ⟨hs, ?_⟩
  by_cases e : x.t = -1
  · rw [if_pos e] at ht
    simp at ht
    exact ⟨by omega, fun _ => ht, fun hh => absurd e hh⟩
  · rw [if_neg e] at ht
    simp [inR] at ht
    exact ⟨by omega, fun hh => absurd hh e, fun _ => ⟨ht.1, ht.2.2⟩⟩
theorem okF_frr {x : Frm} (h : okF x = true) (hd : x.d.size ≤ 1000000) : FrR x := by
  obtain ⟨h0, h1, h2, h3, h4, h5, h6, h7, h8, h9, h10⟩ := okF_parts h
  obtain ⟨a1, a2, _⟩ := adB_parts h2
  refine ⟨fun i hi => ?_, by omega⟩
  rcases (show i = 0 ∨ i = 1 ∨ i = 2 ∨ i = 3 ∨ i = 4 ∨ i = 5 ∨ i = 6 ∨ i = 7 ∨ i = 8 ∨ i = 9 ∨ i = 10 by omega) with rfl | rfl | rfl | rfl | rfl | rfl | rfl | rfl | rfl | rfl | rfl <;> simp only [getI, i64B] <;> omega
theorem wBytes_small (st : WSt) (h : st.bs.length ≤ 524288) : (wBytes st).size ≤ 1000000 := by
  unfold wBytes
  split
  · simp
  · rw [strOf_size, (packs_packB st.bs).len]; omega
/-- What Encode returns. -/
def prS (x : Frm) : ByteArray := protB (wBytes (enS x))
def enV (x : Frm) : ByteArray := if okF x then (if (enS x).e = 0 then (if (prS x).size ≤ 127 then prS x else ⟨#[]⟩) else ⟨#[]⟩) else ⟨#[]⟩
def enE (x : Frm) : Int := if okF x then (if (enS x).e = 0 then (if (prS x).size ≤ 127 then 0 else 8) else 8) else 1
theorem enc_1 {x : Frm} (h : okF x = false) : enV x = ⟨#[]⟩ ∧ enE x = 1 := by simp [enV, enE, h]
theorem enc_2 {x : Frm} (h : okF x = true) (he : (enS x).e ≠ 0) : enV x = ⟨#[]⟩ ∧ enE x = 8 := by simp [enV, enE, h, he]
theorem enc_3 {x : Frm} (h : okF x = true) (he : (enS x).e = 0) (hs : ¬ (prS x).size ≤ 127) : enV x = ⟨#[]⟩ ∧ enE x = 8 := by simp only [enV, enE, h, he, if_true, if_neg hs]; exact ⟨trivial, trivial⟩
theorem enc_4 {x : Frm} (h : okF x = true) (he : (enS x).e = 0) (hs : (prS x).size ≤ 127) : enV x = prS x ∧ enE x = 0 := by simp only [enV, enE, h, he, if_true, if_pos hs]; exact ⟨trivial, trivial⟩
theorem encode_bad (x : Frm) (w : World) (hb : okF x = false) :
    Calls Try.prog 12 #[.agg (frA x)] w fun e w' => e = .returned (.tuple #[.string ⟨#[]⟩, .int .i64 1]) ∧ Fr no w w' := by
  have HF := Lib.hid (Fr.refl no w)
  have HV := Lib.hid (fun w => isValid_any x w)
  rw [hb] at HV
  clear hb
  obtain ⟨k, s, t, l, q, f, n, e, sl, r, ep, d⟩ := x
  simp only [frA] at HV ⊢
  go_enter Try.func12, Try.ntmps12
  go_wp2_with fail
  refine (HV.out _).mono ?_
  rintro e1 w1 ⟨rfl, f1⟩
  have HF1 := Lib.hid ((HF.out.alloc _).noTrans f1)
  clear f1
  go_wp2_with fail
  go_ret2
  exact ⟨rfl, HF1.out⟩
theorem all_W (base F B P : Nat) {w : World} {T : Nat → Prop} {x : Frm} (h : (macW base F B P).LS w T x ⟨[], 0⟩) :
    Calls Try.prog 33 #[.agg (layA (macW base F B P))] w fun e w' => e = .returned (.tuple #[]) ∧ Stp (macW base F B P) w T w' x (enS x) := by
  have := all_any (macW base F B P) (macW_ok base F B P) h
  rw [allW] at this
  exact this
/-- Up to the bytes. -/
theorem enc_fr {w W w4 : World} {F B P : Nat} {T : Nat → Prop} {x : Frm} {st : WSt} (hF : Fr no w W) (hf : w.heap.size ≤ F) (hb : w.heap.size ≤ B) (hv : ∀ k, T k → w.heap.size ≤ k) (hs : Stp (macW w.heap.size F B P) W T w4 x st) :
    ∃ v, WrS w.heap.size w4 B v st ∧ Fr no w w4 := by
  obtain ⟨T', ⟨v, h⟩, f, n⟩ := hs
  exact ⟨v, h.wr, hF.trans (f.mono (S' := fun k => w.heap.size ≤ k) (fun i _ hi => hv i hi)) (fun i hi hh => absurd hh (Nat.not_le.2 hi))⟩
set_option maxHeartbeats 2000000 in
theorem encode_good (x : Frm) (w : World) (hd : x.d.size ≤ 1000000) (hb : okF x = true) (V : ByteArray) (E : Int)
    (hk : ((enS x).e ≠ 0 ∧ V = ⟨#[]⟩ ∧ E = 8) ∨ ((enS x).e = 0 ∧ ¬ (prS x).size ≤ 127 ∧ V = ⟨#[]⟩ ∧ E = 8) ∨ ((enS x).e = 0 ∧ (prS x).size ≤ 127 ∧ V = prS x ∧ E = 0)) :
    Calls Try.prog 12 #[.agg (frA x)] w fun e w' => e = .returned (.tuple #[.string V, .int .i64 E]) ∧ Fr no w w' := by
  have HF := Lib.hid (Fr.refl no w)
  have HV := Lib.hid (fun w => isValid_any x w)
  rw [hb] at HV
  have HX := Lib.hid (okF_frr hb hd)
  have HA := Lib.hid (fun F B P w T h => @all_W w.heap.size F B P w T x h)
  have HK := Lib.hid hk
  obtain ⟨W, hW⟩ : ∃ W, W = w.alloc (.cells (frA x) 23 (0, 0)) := ⟨_, rfl⟩
  have hB : W.heap[w.heap.size]? = some (.cells (frA x) 23 (0, 0)) := by rw [hW]; exact heap_alloc_new w _
  have HW := Lib.hid hW
  have HFW := Lib.hid (show Fr no w W by rw [hW]; exact HF.out.alloc _)
  have HB := Lib.hid hB
  obtain ⟨c0, c1, c2, c3, c4, c5, c6, c7, c8, c9, c10, c11⟩ := twelve_cells hB
  clear hb hk hW hB HA
  simp only [frA] at HW
  simp only [show frA x = #[.int .i64 x.k, .int .i64 x.s, .int .i64 x.t, .int .i64 x.l, .int .i64 x.q, .int .i64 x.f, .int .i64 x.n, .int .i64 x.e, .int .i64 x.sl, .int .i64 x.r, .int .i64 x.ep, .string x.d] from rfl]
  go_enter Try.func12, Try.ntmps12
  go_wp2_with fail
  rw [← HW.out]
  go_wp2_with fail
  refine (HV.out _).mono ?_
  rintro e1 w1 ⟨rfl, f1⟩
  have HF1 := Lib.hid (HFW.out.noTrans f1)
  have HB1 := Lib.hid (f1.blk HB.out (fun h => h))
  clear f1 c0 c1 c2 c3 c4 c5 c6 c7 c8 c9 c10 c11
  go_wp2_with fail
  refine (newWriter_any _).mono ?_
  rintro e2 w2 ⟨rfl, hw2⟩
  have HS2 := Lib.hid (show WrS w.heap.size w2 w1.heap.size (.slice none 0 0) ⟨[], 0⟩ by rw [hw2]; exact newWriter_st _ _ HF1.out.size)
  have HF2 := Lib.hid (show Fr no w1 w2 by rw [hw2]; exact (Fr.refl no w1).alloc _)
  clear hw2
  go_wp2_with fail
  refine (writing_any w.heap.size w.heap.size w1.heap.size _).mono ?_
  rintro e3 w3 ⟨rfl, hp, f3⟩
  have HL := Lib.hid (show (macW w.heap.size w.heap.size w1.heap.size w2.heap.size).LS w3 (fooW w.heap.size w1.heap.size (.slice none 0 0)) x ⟨[], 0⟩ from
    ⟨.slice none 0 0, HS2.out.kept f3 (fun h => h) (fun _ _ h => h), f3.blk (HF2.out.blk HB1.out (fun h => h)) (fun h => h), hp, by have := lt_of_blk HB1.out; omega, by have := lt_of_blk HS2.out.blk; omega, by have := lt_of_blk HB1.out; have := HF2.out.size; omega, by simp [Value.ownBlock], by simp [Value.ownBlock], HX.out, rfl⟩)
  have HF3 := Lib.hid (HF1.out.noTrans (HF2.out.noTrans f3))
  have HZ := Lib.hid (show w.heap.size ≤ w1.heap.size from HF1.out.size)
  clear hp f3
  go_wp2_with fail
  refine (all_W w.heap.size w.heap.size w1.heap.size w2.heap.size HL.out).mono ?_
  rintro e4 w4 ⟨rfl, hs⟩
  obtain ⟨v, hw4, f4⟩ := enc_fr HF3.out (Nat.le_refl _) HZ.out (by rintro k (rfl | rfl | hk); exact Nat.le_refl _; exact HZ.out; simp [Value.ownBlock] at hk) hs
  have HW4 := Lib.hid hw4
  have HF4 := Lib.hid f4
  have HLE := Lib.hid hw4.le
  clear hs hw4 f4 HL HS2 HB1 HF2 HF3 HV HX
  go_wp2_with fail
  refine (bytes_any w.heap.size w1.heap.size v (enS x) _ HW4.out).mono ?_
  rintro e5 w5 ⟨rfl, n5, rfl⟩
  have HF5 := Lib.hid (show Fr no w (w4.drewN n5) from ⟨HF4.out.os, HF4.out.tape, HF4.out.output, HF4.out.size, HF4.out.block⟩)
  have HP := Lib.hid (fun w => protect_any (wBytes (enS x)) w (wBytes_small _ HLE.out))
  have HPS := Lib.hid (show protB (wBytes (enS x)) = prS x from rfl)
  rw [HPS.out] at HP
  generalize w4.drewN n5 = w6 at *
  generalize wBytes (enS x) = bb at *
  generalize (enS x).e = ee at *
  clear HW4 HF4 HLE HPS
  generalize prS x = pp at *
  rcases HK.out with ⟨k1, rfl, rfl⟩ | ⟨k1, k2, rfl, rfl⟩ | ⟨k1, k2, rfl, rfl⟩
  · have kb : (ee != 0) = true := by simp [k1]
    clear HK k1
    go_wp2_with fail
    go_ret2
    exact ⟨rfl, HF5.out⟩
  · subst k1
    have kb : ((127 : Int) < (pp.size : Int)) := by omega
    clear HK k2
    go_wp2_with fail
    refine (HP.out _).mono ?_
    rintro e7 w7 ⟨rfl, f7⟩
    have HF7 := Lib.hid (HF5.out.noTrans f7)
    clear f7
    go_wp2_with fail
    go_ret2
    exact ⟨rfl, HF7.out⟩
  · subst k1
    have kb : ¬ ((127 : Int) < (V.size : Int)) := by omega
    clear HK k2
    go_wp2_with fail
    refine (HP.out _).mono ?_
    rintro e7 w7 ⟨rfl, f7⟩
    have HF7 := Lib.hid (HF5.out.noTrans f7)
    clear f7
    go_wp2_with fail
    go_ret2
    exact ⟨rfl, HF7.out⟩
theorem encode_any (x : Frm) (w : World) (hd : x.d.size ≤ 1000000) :
    Calls Try.prog 12 #[.agg (frA x)] w fun e w' => e = .returned (.tuple #[.string (enV x), .int .i64 (enE x)]) ∧ Fr no w w' := by
  cases hb : okF x
  · rw [(enc_1 hb).1, (enc_1 hb).2]
    exact encode_bad x w hb
  · by_cases he : (enS x).e = 0
    · by_cases hs : (prS x).size ≤ 127
      · exact encode_good x w hd hb _ _ (.inr (.inr ⟨he, hs, enc_4 hb he hs⟩))
      · exact encode_good x w hd hb _ _ (.inr (.inl ⟨he, hs, enc_3 hb he hs⟩))
    · exact encode_good x w hd hb _ _ (.inl ⟨he, enc_2 hb he⟩)
end Go.Proofs.Ytelpdihaonoedaa
