/- The document's Encode, Time, Room. -/
import Derived.Test.YtelpdihaonoedaaEnr
import Derived.Test.YtelpdihaonoedaaTim
namespace Go.Proofs.Ytelpdihaonoedaa
open Go.RowKit
set_option linter.unusedVariables false
set_option maxRecDepth 20000

theorem encodeR_bad (x : Frm) (w : World) (hb : okF x = false) :
    Calls Try.prog 13 #[.agg (frA x)] w fun e w' => e = .returned (.tuple #[.string ⟨#[]⟩, .int .i64 1]) ∧ Fr no w w' := by
  have HV := Lib.hid (fun w => ckr_any x w)
  rw [hb] at HV
  clear hb
  obtain ⟨k, s, t, l, q, f, n, e, sl, r, ep, d⟩ := x
  simp only [frA] at HV ⊢
  obtain ⟨w0, hW⟩ : ∃ w0, w0 = w.alloc (.cells #[.int .i64 k, .int .i64 s, .int .i64 t, .int .i64 l, .int .i64 q, .int .i64 f, .int .i64 n, .int .i64 e, .int .i64 sl, .int .i64 r, .int .i64 ep, .string d] 23 (0, 0)) := ⟨_, rfl⟩
  have hBc : w0.heap[w.heap.size]? = some (.cells #[.int .i64 k, .int .i64 s, .int .i64 t, .int .i64 l, .int .i64 q, .int .i64 f, .int .i64 n, .int .i64 e, .int .i64 sl, .int .i64 r, .int .i64 ep, .string d] 23 (0, 0)) := by rw [hW]; exact heap_alloc_new w _
  have Hc0 := Lib.hid hBc
  have HF0 := Lib.hid (show Fr no w w0 by rw [hW]; exact (Fr.refl no w).alloc _)
  have HW := Lib.hid hW
  obtain ⟨c0, c1, c2, c3, c4, c5, c6, c7, c8, c9, c10, c11⟩ := twelve_cells Hc0.out
  clear hW hBc
  go_enter Try.func13, Try.ntmps13
  go_wp2_with fail
  rw [← HW.out]
  go_wp2_with fail
  refine (HV.out _).mono ?_
  rintro e1 w1 ⟨rfl, f1⟩
  have HF1 := Lib.hid (HF0.out.noTrans f1)
  have Hc1 := Lib.hid (f1.blk Hc0.out (fun h => h))
  clear f1
  clear c0 c1 c2 c3 c4 c5 c6 c7 c8 c9 c10 c11
  obtain ⟨c0, c1, c2, c3, c4, c5, c6, c7, c8, c9, c10, c11⟩ := twelve_cells Hc1.out
  go_wp2_with fail
  go_ret2
  exact ⟨rfl, HF1.out⟩
theorem encodeR_long (x : Frm) (w : World) (hb : okF x = true) (hd : 127 < x.d.size) :
    Calls Try.prog 13 #[.agg (frA x)] w fun e w' => e = .returned (.tuple #[.string ⟨#[]⟩, .int .i64 8]) ∧ Fr no w w' := by
  have HV := Lib.hid (fun w => ckr_any x w)
  rw [hb] at HV
  clear hb
  obtain ⟨k, s, t, l, q, f, n, e, sl, r, ep, d⟩ := x
  simp only at hd
  have hd1 : (127 : Int) < (d.size : Int) := by omega
  clear hd
  simp only [frA] at HV ⊢
  obtain ⟨w0, hW⟩ : ∃ w0, w0 = w.alloc (.cells #[.int .i64 k, .int .i64 s, .int .i64 t, .int .i64 l, .int .i64 q, .int .i64 f, .int .i64 n, .int .i64 e, .int .i64 sl, .int .i64 r, .int .i64 ep, .string d] 23 (0, 0)) := ⟨_, rfl⟩
  have hBc : w0.heap[w.heap.size]? = some (.cells #[.int .i64 k, .int .i64 s, .int .i64 t, .int .i64 l, .int .i64 q, .int .i64 f, .int .i64 n, .int .i64 e, .int .i64 sl, .int .i64 r, .int .i64 ep, .string d] 23 (0, 0)) := by rw [hW]; exact heap_alloc_new w _
  have Hc0 := Lib.hid hBc
  have HF0 := Lib.hid (show Fr no w w0 by rw [hW]; exact (Fr.refl no w).alloc _)
  have HW := Lib.hid hW
  obtain ⟨c0, c1, c2, c3, c4, c5, c6, c7, c8, c9, c10, c11⟩ := twelve_cells Hc0.out
  clear hW hBc
  go_enter Try.func13, Try.ntmps13
  go_wp2_with fail
  rw [← HW.out]
  go_wp2_with fail
  refine (HV.out _).mono ?_
  rintro e1 w1 ⟨rfl, f1⟩
  have HF1 := Lib.hid (HF0.out.noTrans f1)
  have Hc1 := Lib.hid (f1.blk Hc0.out (fun h => h))
  clear f1
  clear c0 c1 c2 c3 c4 c5 c6 c7 c8 c9 c10 c11
  obtain ⟨c0, c1, c2, c3, c4, c5, c6, c7, c8, c9, c10, c11⟩ := twelve_cells Hc1.out
  go_wp2_with fail
  go_ret2
  exact ⟨rfl, HF1.out⟩
theorem en_alive {x : Frm} (hx : okF x = true) (hd : x.d.size ≤ 127) : (enS x).e = 0 := by
  by_cases hk : x.k = 2
  · obtain ⟨bs, hb, _⟩ := ack_bits hx hk
    rw [hb]
  · exact (txt_size hx hk hd).1
theorem encodeR_any (x : Frm) (w : World) :
    Calls Try.prog 13 #[.agg (frA x)] w fun e w' => e = .returned (.tuple #[.string (enV x), .int .i64 (enE x)]) ∧ Fr no w w' := by
  cases hb : okF x
  · rw [(enc_1 hb).1, (enc_1 hb).2]
    exact encodeR_bad x w hb
  by_cases hd : x.d.size ≤ 127
  · have he := en_alive hb hd
    have hV := fun w => ckr_any x w
    rw [hb] at hV
    have HV := Lib.hid hV
    have hr := okF_frr hb (by omega)
    have hst : enS x = ⟨(enS x).bs, 0⟩ := by rw [← he]
    have hpp := okF_parts hb
    have ha := adB_parts hpp.2.2.1
    have hk4 := hpp.1
    have hP : (wBytes (enS x)).size ≤ 1000000 := by
      refine wBytes_small _ ?_
      by_cases hk : x.k = 2
      · obtain ⟨bs, h1, h2⟩ := ack_bits hb hk
        rw [h1]; simp only; omega
      · obtain ⟨bs, h1, h2⟩ := txt_bits hb hk hd
        rw [h1]
        have : hB x ≤ 100 := by unfold hB; split <;> split <;> (try split) <;> omega
        simp only; omega
    have hK : (¬ (protB (wBytes (enS x))).size ≤ 127 ∧ enV x = ⟨#[]⟩ ∧ enE x = 8) ∨ ((protB (wBytes (enS x))).size ≤ 127 ∧ enV x = protB (wBytes (enS x)) ∧ enE x = 0) := by
      by_cases hs : (prS x).size ≤ 127
      · exact .inr ⟨hs, (enc_4 hb he hs).1, (enc_4 hb he hs).2⟩
      · exact .inl ⟨hs, (enc_3 hb he hs).1, (enc_3 hb he hs).2⟩
    clear hpp hV hst
    generalize enV x = V at *
    generalize enE x = E at *
    obtain ⟨k, s, t, l, q, f, n, e, sl, r, ep, d⟩ := x
    simp only at hd ha hk4
    obtain ⟨a1, a2, a3, a4⟩ := ha
    rcases (show k = 1 ∨ k = 2 ∨ k = 3 ∨ k = 4 by omega) with rfl | rfl | rfl | rfl
    · have ht : t ≠ -1 := fun e => by have := a3 e; omega
      have hb2 : (t != -1) = true := by simp [ht]
      exact wrR1t s t l q f n e sl r ep d _ _ w hr hd (by omega) (by simp [enS, kdS, hdS, tgS, hb2]) rfl hP V E hK HV
    · have ht : t ≠ -1 := fun e => by have := a3 e; omega
      have hb2 : (t != -1) = true := by simp [ht]
      exact wrR2t s t l q f n e sl r ep d _ _ w hr hd (by omega) (by simp [enS, kdS, hdS, tgS, hb2]) rfl hP V E hK HV
    · have ht : t = -1 := Decidable.byContradiction fun e => absurd rfl (a4 e).1
      subst ht
      exact wrR3f s l q f n e sl r ep d _ _ w hr hd (by simp [enS, kdS, hdS, tgS]) rfl hP V E hK HV
    · by_cases ht : t = -1
      · subst ht
        exact wrR4f s l q f n e sl r ep d _ _ w hr hd (by simp [enS, kdS, hdS, tgS]) rfl hP V E hK HV
      · have hb2 : (t != -1) = true := by simp [ht]
        exact wrR4t s t l q f n e sl r ep d _ _ w hr hd (by omega) (by simp [enS, kdS, hdS, tgS, hb2]) rfl hP V E hK HV
  · have he : (enS x).e ≠ 0 := fun e => hd (en_small hb e)
    rw [(enc_2 hb he).1, (enc_2 hb he).2]
    exact encodeR_long x w hb (by omega)
theorem timeR_any (x : Frm) (w : World) : Calls Try.prog 15 #[.agg (frA x)] w fun e w' => e = .returned (.tuple #[.int .i64 (tmV x), .int .i64 (enE x)]) ∧ Fr no w w' := by
  have HE := Lib.hid (fun w => encodeR_any x w)
  have HT := Lib.hid (show tmV x = if enE x = 0 then (if x.k = 2 then 832 else 32 * (((enV x).size : Int) + 6)) else 0 from rfl)
  have hv1 : ((enV x).size : Int) ≤ 127 := by have := enV_small x; omega
  have hv0 : (0 : Int) ≤ ((enV x).size : Int) := by omega
  generalize enV x = V at *
  generalize enE x = E at *
  generalize tmV x = R at *
  obtain ⟨k, s, t, l, q, f, n, e, sl, r, ep, d⟩ := x
  simp only at HT
  simp only [frA] at HE ⊢
  by_cases h0 : E = 0
  · subst h0
    by_cases h2 : k = 2
    · subst h2
      have HR := Lib.hid (show R = 832 by rw [HT.out]; rfl)
      clear HT
      obtain ⟨w0, hW⟩ : ∃ w0, w0 = w.alloc (.cells #[.int .i64 2, .int .i64 s, .int .i64 t, .int .i64 l, .int .i64 q, .int .i64 f, .int .i64 n, .int .i64 e, .int .i64 sl, .int .i64 r, .int .i64 ep, .string d] 23 (0, 0)) := ⟨_, rfl⟩
      have hBc : w0.heap[w.heap.size]? = some (.cells #[.int .i64 2, .int .i64 s, .int .i64 t, .int .i64 l, .int .i64 q, .int .i64 f, .int .i64 n, .int .i64 e, .int .i64 sl, .int .i64 r, .int .i64 ep, .string d] 23 (0, 0)) := by rw [hW]; exact heap_alloc_new w _
      have Hc0 := Lib.hid hBc
      have HF0 := Lib.hid (show Fr no w w0 by rw [hW]; exact (Fr.refl no w).alloc _)
      have HW := Lib.hid hW
      obtain ⟨c0, c1, c2, c3, c4, c5, c6, c7, c8, c9, c10, c11⟩ := twelve_cells Hc0.out
      clear hW hBc
      go_enter Try.func15, Try.ntmps15
      go_wp2_with fail
      rw [← HW.out]
      go_wp2_with fail
      refine (HE.out _).mono ?_
      rintro e1 w1 ⟨rfl, f1⟩
      have HF1 := Lib.hid (HF0.out.noTrans f1)
      have Hc1 := Lib.hid (f1.blk Hc0.out (fun h => h))
      clear f1
      clear c0 c1 c2 c3 c4 c5 c6 c7 c8 c9 c10 c11
      obtain ⟨c0, c1, c2, c3, c4, c5, c6, c7, c8, c9, c10, c11⟩ := twelve_cells Hc1.out
      go_wp2_with fail
      go_ret2
      rw [HR.out]
      exact ⟨rfl, HF1.out⟩
    · have HR := Lib.hid (show R = 32 * ((V.size : Int) + 6) by rw [HT.out, if_pos rfl, if_neg h2])
      have h3 : (k == 2) = false := by simpa using h2
      clear HT h2
      obtain ⟨w0, hW⟩ : ∃ w0, w0 = w.alloc (.cells #[.int .i64 k, .int .i64 s, .int .i64 t, .int .i64 l, .int .i64 q, .int .i64 f, .int .i64 n, .int .i64 e, .int .i64 sl, .int .i64 r, .int .i64 ep, .string d] 23 (0, 0)) := ⟨_, rfl⟩
      have hBc : w0.heap[w.heap.size]? = some (.cells #[.int .i64 k, .int .i64 s, .int .i64 t, .int .i64 l, .int .i64 q, .int .i64 f, .int .i64 n, .int .i64 e, .int .i64 sl, .int .i64 r, .int .i64 ep, .string d] 23 (0, 0)) := by rw [hW]; exact heap_alloc_new w _
      have Hc0 := Lib.hid hBc
      have HF0 := Lib.hid (show Fr no w w0 by rw [hW]; exact (Fr.refl no w).alloc _)
      have HW := Lib.hid hW
      obtain ⟨c0, c1, c2, c3, c4, c5, c6, c7, c8, c9, c10, c11⟩ := twelve_cells Hc0.out
      clear hW hBc
      go_enter Try.func15, Try.ntmps15
      go_wp2_with fail
      rw [← HW.out]
      go_wp2_with fail
      refine (HE.out _).mono ?_
      rintro e1 w1 ⟨rfl, f1⟩
      have HF1 := Lib.hid (HF0.out.noTrans f1)
      have Hc1 := Lib.hid (f1.blk Hc0.out (fun h => h))
      clear f1
      clear c0 c1 c2 c3 c4 c5 c6 c7 c8 c9 c10 c11
      obtain ⟨c0, c1, c2, c3, c4, c5, c6, c7, c8, c9, c10, c11⟩ := twelve_cells Hc1.out
      go_wp2_with fail
      go_ret2
      rw [HR.out]
      exact ⟨rfl, HF1.out⟩
  · have HR := Lib.hid (show R = 0 by rw [HT.out, if_neg h0])
    have h1 : (E != 0) = true := by simp [h0]
    clear HT h0
    obtain ⟨w0, hW⟩ : ∃ w0, w0 = w.alloc (.cells #[.int .i64 k, .int .i64 s, .int .i64 t, .int .i64 l, .int .i64 q, .int .i64 f, .int .i64 n, .int .i64 e, .int .i64 sl, .int .i64 r, .int .i64 ep, .string d] 23 (0, 0)) := ⟨_, rfl⟩
    have hBc : w0.heap[w.heap.size]? = some (.cells #[.int .i64 k, .int .i64 s, .int .i64 t, .int .i64 l, .int .i64 q, .int .i64 f, .int .i64 n, .int .i64 e, .int .i64 sl, .int .i64 r, .int .i64 ep, .string d] 23 (0, 0)) := by rw [hW]; exact heap_alloc_new w _
    have Hc0 := Lib.hid hBc
    have HF0 := Lib.hid (show Fr no w w0 by rw [hW]; exact (Fr.refl no w).alloc _)
    have HW := Lib.hid hW
    obtain ⟨c0, c1, c2, c3, c4, c5, c6, c7, c8, c9, c10, c11⟩ := twelve_cells Hc0.out
    clear hW hBc
    go_enter Try.func15, Try.ntmps15
    go_wp2_with fail
    rw [← HW.out]
    go_wp2_with fail
    refine (HE.out _).mono ?_
    rintro e1 w1 ⟨rfl, f1⟩
    have HF1 := Lib.hid (HF0.out.noTrans f1)
    have Hc1 := Lib.hid (f1.blk Hc0.out (fun h => h))
    clear f1
    clear c0 c1 c2 c3 c4 c5 c6 c7 c8 c9 c10 c11
    obtain ⟨c0, c1, c2, c3, c4, c5, c6, c7, c8, c9, c10, c11⟩ := twelve_cells Hc1.out
    go_wp2_with fail
    go_ret2
    rw [HR.out]
    exact ⟨rfl, HF1.out⟩
theorem roomR_any (x : Frm) (w : World) : Calls Try.prog 17 #[.agg (frA x)] w fun e w' => e = .returned (.tuple #[.int .i64 (rmV x), .int .i64 (rmE x)]) ∧ Fr no w w' := by
  have HE := Lib.hid (fun w => encodeR_any x w)
  have HV := Lib.hid (fun w => ckr_any x w)
  have HT := Lib.hid (show rmV x = if x.k = 2 then 0 else if enE x = 0 then 127 - ((enV x).size : Int) else 0 from rfl)
  have HU := Lib.hid (show rmE x = if x.k = 2 then 1 else enE x from rfl)
  have hv1 : ((enV x).size : Int) ≤ 127 := by have := enV_small x; omega
  have hv0 : (0 : Int) ≤ ((enV x).size : Int) := by omega
  cases hb : okF x
  · have h1 := (enc_1 hb).2
    rw [h1] at HT HU
    have HR := Lib.hid (show rmV x = 0 ∧ rmE x = 1 from ⟨by rw [HT.out]; split <;> rfl, by rw [HU.out]; split <;> rfl⟩)
    rw [HR.out.1, HR.out.2]
    rw [hb] at HV
    clear HT HU HR HE hb h1 hv1 hv0
    obtain ⟨k, s, t, l, q, f, n, e, sl, r, ep, d⟩ := x
    simp only [frA] at HV ⊢
    obtain ⟨w0, hW⟩ : ∃ w0, w0 = w.alloc (.cells #[.int .i64 k, .int .i64 s, .int .i64 t, .int .i64 l, .int .i64 q, .int .i64 f, .int .i64 n, .int .i64 e, .int .i64 sl, .int .i64 r, .int .i64 ep, .string d] 23 (0, 0)) := ⟨_, rfl⟩
    have hBc : w0.heap[w.heap.size]? = some (.cells #[.int .i64 k, .int .i64 s, .int .i64 t, .int .i64 l, .int .i64 q, .int .i64 f, .int .i64 n, .int .i64 e, .int .i64 sl, .int .i64 r, .int .i64 ep, .string d] 23 (0, 0)) := by rw [hW]; exact heap_alloc_new w _
    have Hc0 := Lib.hid hBc
    have HF0 := Lib.hid (show Fr no w w0 by rw [hW]; exact (Fr.refl no w).alloc _)
    have HW := Lib.hid hW
    obtain ⟨c0, c1, c2, c3, c4, c5, c6, c7, c8, c9, c10, c11⟩ := twelve_cells Hc0.out
    clear hW hBc
    go_enter Try.func17, Try.ntmps17
    go_wp2_with fail
    rw [← HW.out]
    go_wp2_with fail
    refine (HV.out _).mono ?_
    rintro e1 w1 ⟨rfl, f1⟩
    have HF1 := Lib.hid (HF0.out.noTrans f1)
    have Hc1 := Lib.hid (f1.blk Hc0.out (fun h => h))
    clear f1
    clear c0 c1 c2 c3 c4 c5 c6 c7 c8 c9 c10 c11
    obtain ⟨c0, c1, c2, c3, c4, c5, c6, c7, c8, c9, c10, c11⟩ := twelve_cells Hc1.out
    go_wp2_with fail
    go_ret2
    exact ⟨rfl, HF1.out⟩
  · rw [hb] at HV
    clear hb
    generalize enV x = V at *
    generalize enE x = E at *
    generalize rmV x = R at *
    generalize rmE x = RE at *
    obtain ⟨k, s, t, l, q, f, n, e, sl, r, ep, d⟩ := x
    simp only at HT HU
    simp only [frA] at HE HV ⊢
    by_cases h2 : k = 2
    · subst h2
      have HR := Lib.hid (show R = 0 ∧ RE = 1 from ⟨by rw [HT.out]; rfl, by rw [HU.out]; rfl⟩)
      clear HT HU HE
      obtain ⟨w0, hW⟩ : ∃ w0, w0 = w.alloc (.cells #[.int .i64 2, .int .i64 s, .int .i64 t, .int .i64 l, .int .i64 q, .int .i64 f, .int .i64 n, .int .i64 e, .int .i64 sl, .int .i64 r, .int .i64 ep, .string d] 23 (0, 0)) := ⟨_, rfl⟩
      have hBc : w0.heap[w.heap.size]? = some (.cells #[.int .i64 2, .int .i64 s, .int .i64 t, .int .i64 l, .int .i64 q, .int .i64 f, .int .i64 n, .int .i64 e, .int .i64 sl, .int .i64 r, .int .i64 ep, .string d] 23 (0, 0)) := by rw [hW]; exact heap_alloc_new w _
      have Hc0 := Lib.hid hBc
      have HF0 := Lib.hid (show Fr no w w0 by rw [hW]; exact (Fr.refl no w).alloc _)
      have HW := Lib.hid hW
      obtain ⟨c0, c1, c2, c3, c4, c5, c6, c7, c8, c9, c10, c11⟩ := twelve_cells Hc0.out
      clear hW hBc
      go_enter Try.func17, Try.ntmps17
      go_wp2_with fail
      rw [← HW.out]
      go_wp2_with fail
      refine (HV.out _).mono ?_
      rintro e1 w1 ⟨rfl, f1⟩
      have HF1 := Lib.hid (HF0.out.noTrans f1)
      have Hc1 := Lib.hid (f1.blk Hc0.out (fun h => h))
      clear f1
      clear c0 c1 c2 c3 c4 c5 c6 c7 c8 c9 c10 c11
      obtain ⟨c0, c1, c2, c3, c4, c5, c6, c7, c8, c9, c10, c11⟩ := twelve_cells Hc1.out
      go_wp2_with fail
      go_ret2
      rw [HR.out.1, HR.out.2]
      exact ⟨rfl, HF1.out⟩
    · have h3 : (k == 2) = false := by simpa using h2
      by_cases h0 : E = 0
      · subst h0
        have HR := Lib.hid (show R = 127 - (V.size : Int) ∧ RE = 0 from ⟨by rw [HT.out, if_neg h2, if_pos rfl], by rw [HU.out, if_neg h2]⟩)
        clear HT HU h2
        obtain ⟨w0, hW⟩ : ∃ w0, w0 = w.alloc (.cells #[.int .i64 k, .int .i64 s, .int .i64 t, .int .i64 l, .int .i64 q, .int .i64 f, .int .i64 n, .int .i64 e, .int .i64 sl, .int .i64 r, .int .i64 ep, .string d] 23 (0, 0)) := ⟨_, rfl⟩
        have hBc : w0.heap[w.heap.size]? = some (.cells #[.int .i64 k, .int .i64 s, .int .i64 t, .int .i64 l, .int .i64 q, .int .i64 f, .int .i64 n, .int .i64 e, .int .i64 sl, .int .i64 r, .int .i64 ep, .string d] 23 (0, 0)) := by rw [hW]; exact heap_alloc_new w _
        have Hc0 := Lib.hid hBc
        have HF0 := Lib.hid (show Fr no w w0 by rw [hW]; exact (Fr.refl no w).alloc _)
        have HW := Lib.hid hW
        obtain ⟨c0, c1, c2, c3, c4, c5, c6, c7, c8, c9, c10, c11⟩ := twelve_cells Hc0.out
        clear hW hBc
        go_enter Try.func17, Try.ntmps17
        go_wp2_with fail
        rw [← HW.out]
        go_wp2_with fail
        refine (HV.out _).mono ?_
        rintro e1 w1 ⟨rfl, f1⟩
        have HF1 := Lib.hid (HF0.out.noTrans f1)
        have Hc1 := Lib.hid (f1.blk Hc0.out (fun h => h))
        clear f1
        clear c0 c1 c2 c3 c4 c5 c6 c7 c8 c9 c10 c11
        obtain ⟨c0, c1, c2, c3, c4, c5, c6, c7, c8, c9, c10, c11⟩ := twelve_cells Hc1.out
        go_wp2_with fail
        refine (HE.out _).mono ?_
        rintro e2 w2 ⟨rfl, f2⟩
        have HF2 := Lib.hid (HF1.out.noTrans f2)
        have Hc2 := Lib.hid (f2.blk Hc1.out (fun h => h))
        clear f2
        clear c0 c1 c2 c3 c4 c5 c6 c7 c8 c9 c10 c11
        obtain ⟨c0, c1, c2, c3, c4, c5, c6, c7, c8, c9, c10, c11⟩ := twelve_cells Hc2.out
        go_wp2_with fail
        go_ret2
        rw [HR.out.1, HR.out.2]
        exact ⟨rfl, HF2.out⟩
      · have HR := Lib.hid (show R = 0 ∧ RE = E from ⟨by rw [HT.out, if_neg h2, if_neg h0], by rw [HU.out, if_neg h2]⟩)
        have h1 : (E != 0) = true := by simp [h0]
        clear HT HU h2 h0
        obtain ⟨w0, hW⟩ : ∃ w0, w0 = w.alloc (.cells #[.int .i64 k, .int .i64 s, .int .i64 t, .int .i64 l, .int .i64 q, .int .i64 f, .int .i64 n, .int .i64 e, .int .i64 sl, .int .i64 r, .int .i64 ep, .string d] 23 (0, 0)) := ⟨_, rfl⟩
        have hBc : w0.heap[w.heap.size]? = some (.cells #[.int .i64 k, .int .i64 s, .int .i64 t, .int .i64 l, .int .i64 q, .int .i64 f, .int .i64 n, .int .i64 e, .int .i64 sl, .int .i64 r, .int .i64 ep, .string d] 23 (0, 0)) := by rw [hW]; exact heap_alloc_new w _
        have Hc0 := Lib.hid hBc
        have HF0 := Lib.hid (show Fr no w w0 by rw [hW]; exact (Fr.refl no w).alloc _)
        have HW := Lib.hid hW
        obtain ⟨c0, c1, c2, c3, c4, c5, c6, c7, c8, c9, c10, c11⟩ := twelve_cells Hc0.out
        clear hW hBc
        go_enter Try.func17, Try.ntmps17
        go_wp2_with fail
        rw [← HW.out]
        go_wp2_with fail
        refine (HV.out _).mono ?_
        rintro e1 w1 ⟨rfl, f1⟩
        have HF1 := Lib.hid (HF0.out.noTrans f1)
        have Hc1 := Lib.hid (f1.blk Hc0.out (fun h => h))
        clear f1
        clear c0 c1 c2 c3 c4 c5 c6 c7 c8 c9 c10 c11
        obtain ⟨c0, c1, c2, c3, c4, c5, c6, c7, c8, c9, c10, c11⟩ := twelve_cells Hc1.out
        go_wp2_with fail
        refine (HE.out _).mono ?_
        rintro e2 w2 ⟨rfl, f2⟩
        have HF2 := Lib.hid (HF1.out.noTrans f2)
        have Hc2 := Lib.hid (f2.blk Hc1.out (fun h => h))
        clear f2
        clear c0 c1 c2 c3 c4 c5 c6 c7 c8 c9 c10 c11
        obtain ⟨c0, c1, c2, c3, c4, c5, c6, c7, c8, c9, c10, c11⟩ := twelve_cells Hc2.out
        go_wp2_with fail
        go_ret2
        rw [HR.out.1, HR.out.2]
        exact ⟨rfl, HF2.out⟩
end Go.Proofs.Ytelpdihaonoedaa
