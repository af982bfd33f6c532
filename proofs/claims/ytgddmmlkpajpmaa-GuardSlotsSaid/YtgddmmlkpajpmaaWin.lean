/- Window. -/
import Derived.Test.YtgddmmlkpajpmaaSlt
import Derived.Deep.QuietTactic
namespace Go.Proofs.Ytgddmmlkpajpmaa
set_option linter.unusedVariables false
open Go.RowKit

/-- A world behind calls that only made blocks. -/
structure Past (w : World) where
  u : World
  h : Fr no w u
theorem wp_region_past {P : Program} {id : Nat} {Q : Exit → Act → World → Prop} {a : Act} {w : World} {l : List Oper} (hm : P.follows .mixedOrders = true) (hB : Region.lexB .any l.toArray = true)
    (h : wpQuiet P l.toArray (fun w' => ∃ p : Past w, w' = p.u) (fun a' => ∀ w', (∃ p : Past w, w' = p.u) → Q .normal a' w') l a) : (Code.region id l.toArray true).wp P Q a w :=
  wp_region_quiet (C := fun w' => ∃ p : Past w, w' = p.u) hm hB ⟨⟨_, (Fr.refl no w).drew⟩, rfl⟩ (by simpa using h)
theorem past_out {w u : World} (h : ∃ p : Past w, u = p.u) : Fr no w u := by obtain ⟨p, rfl⟩ := h; exact p.h
theorem past_of {P : Program} {f : FuncId} {args : Array Value} {w : World} {p : Past w} {v : Value} (h : Calls P f args p.u fun e w' => e = .returned v ∧ Fr no p.u w') :
    Calls P f args p.u fun e w'' => e = .returned v ∧ ∃ p' : Past w, w'' = p'.u :=
  h.mono fun _ _ ⟨he, hf⟩ => ⟨he, ⟨_, p.h.noTrans hf⟩, rfl⟩
theorem past_same {P : Program} {f : FuncId} {args : Array Value} {w : World} {p : Past w} {v : Value} (h : Calls P f args p.u fun e w' => e = .returned v ∧ w' = p.u) :
    Calls P f args p.u fun e w'' => e = .returned v ∧ ∃ p' : Past w, w'' = p'.u :=
  h.mono fun _ _ ⟨he, hf⟩ => ⟨he, p, hf⟩

/-- Of a window: from, to, the error. -/
noncomputable def wiF (o d s : Int) : Int := if inE o d s 3221 = 0 then inV o d s 1020 else 0
noncomputable def wiT (o d s : Int) : Int := if inE o d s 3221 = 0 then inV o d s 3221 - 1 else 0

/-- x is reached at some time, or behind all. -/
theorem rc_ex_n (o d x : Int) (hd : -100000 ≤ d) (n : Nat) : n ≤ 1099511627777 → (∀ t : Int, 0 ≤ t → t < n → sh o d t < x) ∨ ∃ r, Rc o d x r := by
  induction n with
  | zero => exact fun _ => .inl fun t t0 t1 => by omega
  | succ n ih =>
    intro hn
    rcases ih (by omega) with h | h
    · by_cases hx : x ≤ sh o d n
      · exact .inr ⟨n, ⟨by omega, by omega, h, fun t t0 _ => Int.le_trans hx (sh_mono hd t0)⟩⟩
      · refine .inl fun t t0 t1 => ?_
        by_cases ht : t = n
        · subst ht; omega
        · exact h t t0 (by omega)
    · exact .inr h
theorem rc_ex (o d x : Int) (hd : -100000 ≤ d) : ∃ r, Rc o d x r := by
  rcases rc_ex_n o d x hd 1099511627777 (Nat.le_refl _) with h | h
  · exact ⟨1099511627777, ⟨by omega, by omega, h, fun t t0 t1 => by omega⟩⟩
  · exact h
theorem rch_rc (o d x : Int) (hd : -100000 ≤ d) : Rc o d x (rch o d x) := by
  obtain ⟨r, h⟩ := rc_ex o d x hd
  rw [h.eq]
  exact h
theorem rcV_bd {o d x : Int} (hk : OkC o d) : 0 ≤ rcV o d x ∧ rcV o d x ≤ 1099511627777 := by
  have h := rch_rc o d x hk.d1
  unfold rcV
  have := h.lo
  have := h.hi
  split <;> omega

set_option maxHeartbeats 2000000 in
theorem window_any (o d s : Int) (w : World) : Calls Try.prog 64 #[.agg #[.int .i64 o, .int .i64 d], .int .i64 s] w fun e w' => e = .returned (.tuple #[.int .i64 (wiF o d s), .int .i64 (wiT o d s), .int .i64 (inE o d s 3221)]) ∧ Fr no w w' := by
  obtain ⟨hF, c0, c1⟩ := box_clock w o d
  obtain ⟨W, hW⟩ : ∃ W, W = w.alloc (.cells #[.int .i64 o, .int .i64 d] 31 (0, 0)) := ⟨_, rfl⟩
  rw [← hW] at hF c0 c1
  have HW := Lib.hid hW
  have HF := Lib.hid hF
  clear hW hF
  have HC := Lib.hid (checkSlot_any o d s W)
  by_cases hr : csE o d s = 0
  · have hR1 : inV o d s 3221 = rcV o d (s * 10000 + 3221) ∧ inE o d s 3221 = rcE o d (s * 10000 + 3221) := by simp [inV, inE, hr]
    have hR2 : inV o d s 1020 = rcV o d (s * 10000 + 1020) := by simp [inV, hr]
    obtain ⟨hk, hi⟩ := csE_0' hr
    have HK := Lib.hid (OkC.of hk)
    obtain ⟨s0, s1⟩ := inR_t.1 hi
    clear hk hi
    rw [hr] at HC
    clear hr
    have HWF := Lib.hid (show wiF o d s = if rcE o d (s * 10000 + 3221) = 0 then rcV o d (s * 10000 + 1020) else 0 by rw [wiF, hR1.2, hR2])
    have HWT := Lib.hid (show wiT o d s = if rcE o d (s * 10000 + 3221) = 0 then rcV o d (s * 10000 + 3221) - 1 else 0 by rw [wiT, hR1.2, hR1.1])
    have HR1 := Lib.hid hR1
    clear hR1 hR2
    go_enter Try.func64, Try.ntmps64
    go_wp2_with fail
    rw [← HW.out]
    refine HC.out.mono ?_
    rintro e w1 ⟨rfl, f1⟩
    have HF1 := Lib.hid (HF.out.noTrans f1)
    have d0 := f1.keepc c0
    have d1 := f1.keepc c1
    clear f1
    go_wp2_with fail
    refine (dialOf_any o d _).mono ?_
    rintro e w3 ⟨rfl, hb, f3⟩
    have HF3 := Lib.hid (HF1.out.noTrans f3)
    obtain ⟨W4, hW4⟩ : ∃ W4, W4 = w3.alloc (.cells #[.func (.func 66) #[] #[.pointer (some ⟨w1.heap.size, 0, none⟩)]] 65 (0, 0)) := ⟨_, rfl⟩
    have f4 : Fr no w3 W4 := by rw [hW4]; exact (Fr.refl no w3).alloc _
    have hb4 := f4.blk hb (fun h => h)
    have hd4 : W4.heap[w3.heap.size]? = some (.cells #[.func (.func 66) #[] #[.pointer (some ⟨w1.heap.size, 0, none⟩)]] 65 (0, 0)) := by rw [hW4]; exact heap_alloc_new w3 _
    have HF4 := Lib.hid (HF3.out.noTrans f4)
    have hbd0 := fun x => rcV_bd (o := o) (d := d) (x := x) HK.out
    have HR := Lib.hid (fun (x : Int) (p : Past W4) => dreach_any o d x w1.heap.size p.u HK.out ((p.h.keepc (two_cells hb4).1)) (p.h.keepc (two_cells hb4).2.1))
    have hc4 : ∀ p : Past W4, p.u.cell? ⟨w3.heap.size, 0, none⟩ = some (.func (.func 66) #[] #[.pointer (some ⟨w1.heap.size, 0, none⟩)]) := fun p => p.h.keepc (by simp [World.cell?, hd4])
    have HW4 := Lib.hid hW4
    have hw1 : IntKind.i64.wrap (s * 10000 + 2120 + 1100) = s * 10000 + 3220 := by rw [show s * 10000 + 2120 + 1100 = s * 10000 + 3220 by omega]; exact IntWalk.i64_in _ (by omega)
    have hw2 : IntKind.i64.wrap (s * 10000 + 3220 + 1) = s * 10000 + 3221 := by rw [show s * 10000 + 3220 + 1 = s * 10000 + 3221 by omega]; exact IntWalk.i64_in _ (by omega)
    have hw3 : IntKind.i64.wrap (s * 10000 + 2120 - 1100) = s * 10000 + 1020 := by rw [show s * 10000 + 2120 - 1100 = s * 10000 + 1020 by omega]; exact IntWalk.i64_in _ (by omega)
    clear hW4 f4 f3 hb hb4 hd4 d0 d1 c0 c1
    go_wp2_with fail
    rw [← HW4.out]
    refine wp_region_past (by kernel_rfl) (by kernel_rfl) ?_
    repeat (quiet_step (first | rfl | (go_at_call 60; refine past_same (sending_any s _ s0 s1)) | (go_at_call 59; refine past_of (HR.out _ _))))
    refine wpQuiet_nil ?_
    intro u hp
    have hu := past_out hp
    clear hp
    have HU := Lib.hid (HF4.out.noTrans hu)
    have hc5 : ∀ p : Past u, p.u.cell? ⟨w3.heap.size, 0, none⟩ = some (.func (.func 66) #[] #[.pointer (some ⟨w1.heap.size, 0, none⟩)]) := fun p => hc4 ⟨p.u, hu.noTrans p.h⟩
    have hcu : u.cell? ⟨w3.heap.size, 0, none⟩ = some (.func (.func 66) #[] #[.pointer (some ⟨w1.heap.size, 0, none⟩)]) := hc4 ⟨u, hu⟩
    have HR5 := Lib.hid (show ∀ (x : Int) (p : Past u), Calls Try.prog 59 #[.agg #[.func (.func 66) #[] #[.pointer (some ⟨w1.heap.size, 0, none⟩)]], .int .i64 x] p.u fun e w' => e = .returned (.tuple #[.int .i64 (rcV o d x), .int .i64 (rcE o d x)]) ∧ Fr no p.u w' from fun x p => HR.out x ⟨p.u, hu.noTrans p.h⟩)
    clear hu hc4
    have hbd := hbd0 (s * 10000 + 3221)
    clear hbd0
    generalize rcE o d (s * 10000 + 3221) = r at *
    generalize rcV o d (s * 10000 + 3221) = v at *
    by_cases hr0 : r = 0
    · subst hr0
      obtain ⟨b1, b2⟩ := hbd
      go_wp2_with fail
      refine wp_region_past (by kernel_rfl) (by kernel_rfl) ?_
      repeat (quiet_step (first | rfl | (go_at_call 60; refine past_same (sending_any s _ s0 s1)) | (go_at_call 59; refine past_of (HR5.out _ _))))
      refine wpQuiet_nil ?_
      intro u5 hp
      have hu5 := past_out hp
      clear hp
      have HU5 := Lib.hid (HU.out.noTrans hu5)
      clear hu5 hc5
      go_wp2_with fail
      go_ret3
      simp only [HWF.out, HWT.out, HR1.out.2, if_true]
      exact ⟨rfl, HU5.out⟩
    · have hr2 : (r == 0) = false := by simpa using hr0
      go_wp2_with fail
      go_ret3
      simp only [HWF.out, HWT.out, HR1.out.2, if_neg hr0]
      exact ⟨rfl, HU.out⟩
  · have HR := Lib.hid (show wiF o d s = 0 ∧ wiT o d s = 0 ∧ inE o d s 3221 = csE o d s by simp [wiF, wiT, inE, hr])
    generalize csE o d s = r at *
    have hr2 : (r == 0) = false := by simpa using hr
    go_enter Try.func64, Try.ntmps64
    go_wp2_with fail
    rw [← HW.out]
    refine HC.out.mono ?_
    rintro e w1 ⟨rfl, f1⟩
    have HF1 := Lib.hid (HF.out.noTrans f1)
    clear f1
    go_wp2_with fail
    go_ret3
    rw [HR.out.1, HR.out.2.1, HR.out.2.2]
    exact ⟨rfl, HF1.out⟩
theorem inV_bd (o d s x : Int) : 0 ≤ inV o d s x ∧ inV o d s x ≤ 1099511627777 := by
  unfold inV
  split
  · rename_i h
    exact rcV_bd (OkC.of (csE_0' h).1)
  · omega
set_option maxHeartbeats 2000000 in
theorem windowR_any (o d s : Int) (w : World) : Calls Try.prog 52 #[.agg #[.int .i64 o, .int .i64 d], .int .i64 s] w fun e w' => e = .returned (.tuple #[.int .i64 (wiF o d s), .int .i64 (wiT o d s), .int .i64 (inE o d s 3221)]) ∧ Fr no w w' := by
  obtain ⟨hF, c0, c1⟩ := box_clock w o d
  obtain ⟨W, hW⟩ : ∃ W, W = w.alloc (.cells #[.int .i64 o, .int .i64 d] 31 (0, 0)) := ⟨_, rfl⟩
  rw [← hW] at hF c0 c1
  have HW := Lib.hid hW
  have HF := Lib.hid hF
  clear hW hF
  have HC := Lib.hid (in_any o d s 3221 W (by omega) (by omega))
  have HC2 := Lib.hid (fun w => in_any o d s 1020 w (by omega) (by omega))
  obtain ⟨b1, b2⟩ := inV_bd o d s 3221
  generalize HV : wiF o d s = V
  generalize HE : wiT o d s = E
  unfold wiF at HV
  unfold wiT at HE
  generalize inE o d s 3221 = r at *
  generalize inV o d s 3221 = v at *
  generalize inV o d s 1020 = v2 at *
  generalize inE o d s 1020 = r2 at *
  by_cases hr : r = 0
  · subst hr
    rw [if_pos rfl] at HV HE
    subst HV HE
    go_enter Try.func52, Try.ntmps52
    go_wp2_with fail
    rw [← HW.out]
    refine HC.out.mono ?_
    rintro e w1 ⟨rfl, f1⟩
    have HF1 := Lib.hid (HF.out.noTrans f1)
    have d0 := f1.keepc c0
    have d1 := f1.keepc c1
    clear f1
    go_wp2_with fail
    refine (HC2.out _).mono ?_
    rintro e w2 ⟨rfl, f2⟩
    have HF2 := Lib.hid (HF1.out.noTrans f2)
    clear f2
    go_wp2_with fail
    go_ret3
    exact ⟨rfl, HF2.out⟩
  · rw [if_neg hr] at HV HE
    subst HV HE
    have hr2 : (r == 0) = false := by simpa using hr
    go_enter Try.func52, Try.ntmps52
    go_wp2_with fail
    rw [← HW.out]
    refine HC.out.mono ?_
    rintro e w1 ⟨rfl, f1⟩
    have HF1 := Lib.hid (HF.out.noTrans f1)
    clear f1
    go_wp2_with fail
    go_ret3
    exact ⟨rfl, HF1.out⟩
end Go.Proofs.Ytgddmmlkpajpmaa
