/- Covers. -/
import Derived.Test.YtpaoacdgmfaolaaLw6
namespace Go.Proofs.Ytpaoacdgmfaolaa
set_option linter.unusedVariables false
open Go.RowKit


theorem ca_facts {xs : List Hv} (h : caE xs = 0) : 1 ≤ xs.length ∧ (∀ i, i < xs.length → (hvAt xs i).f < (hvAt xs i).u) ∧ ∀ i, i + 1 < xs.length → (hvAt xs (i + 1)).f = (hvAt xs i).u := by
  unfold caE at h
  cases q : inR (xs.length : Int) 1 1024
  · rw [q] at h; cases h
  · rw [q] at h
    have hl := inR_t.1 q
    obtain ⟨h1, h2⟩ := caK_ok xs xs.length h
    refine ⟨by omega, fun i hi => (hlB_t (h1 i hi)).2.2.2.1, fun i hi => ?_⟩
    have := h2 i hi
    unfold hvF foE at this
    apply Classical.byContradiction
    intro hc
    rw [if_pos hc] at this
    cases this
theorem ca_in {xs : List Hv} (h : caE xs = 0) {s : Int} (k : Nat) (hk : k < xs.length) (h0 : (hvAt xs 0).f ≤ s) (h1 : s < (hvAt xs k).u) : ∃ i, i < xs.length ∧ ifP s (hvAt xs i) = true := by
  obtain ⟨-, a, b⟩ := ca_facts h
  induction k with
  | zero => exact ⟨0, hk, by simp [ifP, h0, h1]⟩
  | succ k ih =>
    by_cases hu : s < (hvAt xs k).u
    · exact ih (by omega) hu
    · have := b k hk
      exact ⟨k + 1, hk, by simp [ifP, h1]; omega⟩
theorem ca_mono {xs : List Hv} (h : caE xs = 0) (k : Nat) (hk : k < xs.length) : (hvAt xs 0).f ≤ (hvAt xs k).f ∧ ∀ j, k ≤ j → j < xs.length → (hvAt xs k).u ≤ (hvAt xs j).u := by
  obtain ⟨-, a, b⟩ := ca_facts h
  constructor
  · induction k with
    | zero => exact Int.le_refl _
    | succ k ih =>
      have := ih (by omega)
      have := a k (by omega)
      have := b k hk
      omega
  · intro j hj hjl
    induction j with
    | zero => obtain rfl : k = 0 := by omega
              exact Int.le_refl _
    | succ j ih =>
      by_cases e : k = j + 1
      · rw [e]; exact Int.le_refl _
      · have := ih (by omega) (by omega)
        have := a (j + 1) hjl
        have := b j hjl
        omega
/-- In which slots a list is in force. -/
theorem find_in {xs : List Hv} (h : caE xs = 0) (s : Int) : (∃ x, xs.find? (ifP s) = some x ∧ x ∈ xs ∧ x.f ≤ s ∧ s < x.u ∧ (hvAt xs 0).f ≤ s ∧ s < (hvAt xs (xs.length - 1)).u) ∨ (xs.find? (ifP s) = none ∧ ¬ ((hvAt xs 0).f ≤ s ∧ s < (hvAt xs (xs.length - 1)).u)) := by
  obtain ⟨h1, -, -⟩ := ca_facts h
  cases q : xs.find? (ifP s) with
  | some x =>
    have hm := List.mem_of_find?_eq_some q
    have hp : ifP s x = true := List.find?_some q
    simp only [ifP, Bool.and_eq_true, decide_eq_true_eq] at hp
    obtain ⟨i, hi, rfl⟩ := List.mem_iff_getElem.1 hm
    have e : xs[i] = hvAt xs i := by simp [hvAt, List.getD_eq_getElem?_getD, List.getElem?_eq_getElem hi]
    obtain ⟨m1, m2⟩ := ca_mono h i hi
    have := m2 (xs.length - 1) (by omega) (by omega)
    rw [e] at hp
    exact .inl ⟨xs[i], rfl, hm, by rw [e]; exact hp.1, by rw [e]; exact hp.2, by omega, by omega⟩
  | none =>
    refine .inr ⟨rfl, fun hc => ?_⟩
    obtain ⟨i, hi, hp⟩ := ca_in h (xs.length - 1) (by omega) hc.1 hc.2
    rw [List.find?_eq_none] at q
    exact q _ (hv_mem xs i hi) hp
set_option maxHeartbeats 4000000 in
theorem cov1_any (x y : Hv) (B : Nat) (xa : Option Addr) (xc : Nat) (ca : Option Addr) (ck : Nat) (w : World) (hb : w.heap[B]? = some (.cells #[.int .i64 x.v, .int .i64 x.f, .int .i64 x.u, .slice xa x.chs.length xc] 24 (0, 0))) (hx : IntsIn w xa x.chs.length x.chs) (hy : IntsIn w ca y.chs.length y.chs) (hl : x.chs.length ≤ 100) :
    Calls Try.prog 33 #[.agg #[.int .i64 y.v, .int .i64 y.f, .int .i64 y.u, .slice ca y.chs.length ck], .pointer (some ⟨B, 0, none⟩)] w fun e w' => e = .returned (.bool (eqH x y)) ∧ Fr no w w' := by
  obtain ⟨W, hW⟩ : ∃ W, W = w.alloc (.cells #[.int .i64 y.v, .int .i64 y.f, .int .i64 y.u, .slice ca y.chs.length ck] 24 (0, 0)) := ⟨_, rfl⟩
  have hF : Fr no w W := by rw [hW]; exact (Fr.refl no w).alloc _
  have h1 : W.heap[w.heap.size]? = some (.cells #[.int .i64 y.v, .int .i64 y.f, .int .i64 y.u, .slice ca y.chs.length ck] 24 (0, 0)) := by rw [hW]; exact heap_alloc_new w _
  obtain ⟨a0, a1, a2, a3⟩ := four_cells hb
  have hlt := lt_of_blk hb
  have HW := Lib.hid hW
  have HF := Lib.hid hF
  have KS := Lib.hid (show Calls Try.prog 24 #[.agg #[.int .i64 x.v, .int .i64 x.f, .int .i64 x.u, .slice xa x.chs.length xc], .agg #[.int .i64 y.v, .int .i64 y.f, .int .i64 y.u, .slice ca y.chs.length ck]] W (fun e w' => e = .returned (.bool (eqH x y)) ∧ Fr no W w') from same_any x.v x.f x.u xa x.chs.length xc x.chs y.v y.f y.u ca y.chs.length ck y.chs W (hx.kept hF) (hy.kept hF) hl)
  generalize x.chs.length = n at *
  generalize y.chs.length = m at *
  clear hb hx hy hl hW hF h1
  go_enter Try.func33, Try.ntmps33
  go_wp2_with fail
  rw [← HW.out]
  refine KS.out.mono ?_
  rintro e w1 ⟨rfl, f1⟩
  have F1 := Lib.hid (HF.out.noTrans f1)
  clear f1
  go_wp2_with fail
  go_ret
  exact ⟨rfl, F1.out⟩
set_option maxRecDepth 20000 in
set_option maxHeartbeats 16000000 in
theorem covers_all (ao : Option Addr) (len cap : Nat) (xs : List Hv) (s : Int) (w : World) (h : HvsIn w ao len xs) :
    Calls Try.prog 8 #[.slice ao len cap, .int .i64 s] w fun e w' => e = .returned (.bool true) ∧ Fr no w w' := by
  have KF := Lib.hid (fun y (hy : HvsIn y ao len xs) => few_any ao len cap xs y hy)
  have HX := Lib.hid h
  have HXL := Lib.hid h.1
  clear h
  cases hfw : fewB xs
  · rw [hfw] at KF
    clear hfw
    go_enter Try.func8, Try.ntmps8
    go_wp2_with fail
    refine (awake_any w).mono ?_
    rintro e w0 ⟨rfl, f0⟩
    have F0 := Lib.hid f0
    clear f0
    go_wp2_with fail
    refine (KF.out _ (HX.out.kept F0.out)).mono ?_
    rintro e w1 ⟨rfl, f1⟩
    have F1 := Lib.hid (F0.out.noTrans f1)
    clear f1
    go_wp2_with fail
    go_ret
    exact ⟨rfl, F1.out⟩
  · obtain ⟨hl, hc⟩ := few_c HXL.out hfw
    rw [hfw] at KF
    have HFW := Lib.hid (fewB_t hfw).2
    have KP := Lib.hid (fun y (hy : HvsIn y ao len xs) => cp_any ao len cap xs y hy (by omega) hc)
    have KI := Lib.hid (fun bo bc y (hy : HvsIn y bo len xs) => inForceL_any bo len bc xs s y hy (by omega) hc)
    have KA := Lib.hid (fun bo bc y (hy : HvsIn y bo len xs) => checkAll_any bo len bc xs y hy (by omega) hc)
    have HIE := Lib.hid (show ifE xs s = if caE xs ≠ 0 then caE xs else if (xs.find? (ifP s)).isSome then 0 else 7 from rfl)
    have HIV := Lib.hid (show ifV xs s = if caE xs ≠ 0 then z0 else (xs.find? (ifP s)).getD z0 from rfl)
    have HCF := Lib.hid (fun h => find_in (xs := xs) h s)
    have HCL := Lib.hid (fun h => (ca_facts (xs := xs) h).1)
    have HL := Lib.hid hl
    have HC := Lib.hid hc
    obtain ⟨x, hx⟩ : ∃ x, x = ifV xs s := ⟨_, rfl⟩
    obtain ⟨E, hE⟩ : ∃ E, E = ifE xs s := ⟨_, rfl⟩
    obtain ⟨C, hC⟩ : ∃ C, C = caE xs := ⟨_, rfl⟩
    simp only [← hx, ← hE] at KI
    simp only [← hC] at KA
    rw [← hx, ← hC] at HIV
    rw [← hE, ← hC] at HIE
    simp only [← hC] at HCF HCL
    clear hfw hc hl hx hE hC
    go_enter Try.func8, Try.ntmps8
    go_wp2_with fail
    refine (awake_any w).mono ?_
    rintro e w0 ⟨rfl, f0⟩
    have F0 := Lib.hid f0
    clear f0
    go_wp2_with fail
    refine (KF.out _ (HX.out.kept F0.out)).mono ?_
    rintro e w1 ⟨rfl, f1⟩
    have F1 := Lib.hid (F0.out.noTrans f1)
    clear f1
    go_wp2_with fail
    refine (KP.out _ (HX.out.kept F1.out)).mono ?_
    rintro e w2 ⟨bo, bc, rfl, hb, f2⟩
    have F2 := Lib.hid (F1.out.noTrans f2)
    have HB2 := Lib.hid hb
    clear f2 hb
    go_wp2_with fail
    refine (KI.out bo bc _ HB2.out).mono ?_
    rintro e w3 ⟨va, vc, rfl, hv, f3⟩
    have F3 := Lib.hid (F2.out.noTrans f3)
    have HV3 := Lib.hid hv
    clear f3 hv
    go_wp2_with fail
    refine (KP.out _ (HX.out.kept (F3.out.alloc _))).mono ?_
    rintro e w5 ⟨co, cc, rfl, hc5, f5⟩
    have hx5 := f5.blk (heap_alloc_new w3 (.cells #[.int .i64 x.v, .int .i64 x.f, .int .i64 x.u, .slice va x.chs.length vc] 24 (0, 0))) (fun h => h)
    have F35 := Lib.hid (((Fr.refl no w3).alloc (.cells #[.int .i64 x.v, .int .i64 x.f, .int .i64 x.u, .slice va x.chs.length vc] 24 (0, 0))).noTrans f5)
    have HC5 := Lib.hid hc5
    have HX5 := Lib.hid hx5
    clear f5 hc5 hx5
    go_wp2_with fail
    refine (KA.out co cc _ HC5.out).mono ?_
    rintro e w6 ⟨rfl, f6⟩
    have F6 := Lib.hid (F3.out.noTrans (F35.out.noTrans f6))
    have HX6 := Lib.hid (f6.blk HX5.out (fun h => h))
    have HV6 := Lib.hid ((HV3.out.kept F35.out).kept f6)
    clear f6
    obtain ⟨a0, a1, a2, a3⟩ := four_cells HX6.out
    by_cases hC : C = 0
    · subst hC
      replace HIE := Lib.hid (show E = if (xs.find? (ifP s)).isSome then 0 else 7 by rw [HIE.out]; simp)
      replace HIV := Lib.hid (show x = (xs.find? (ifP s)).getD z0 by rw [HIV.out]; simp)
      have h1 := HCL.out rfl
      obtain ⟨m, hm⟩ : ∃ m, len = m + 1 := ⟨len - 1, by have := HXL.out; omega⟩
      have hlm : xs.length - 1 = m := by have := HXL.out; omega
      have hcf := HCF.out rfl
      rw [hlm] at hcf
      obtain ⟨b, off, ca, ck, rfl, -, -, -, e1, -, -⟩ := HX.out.2 0 (by omega)
      obtain ⟨b', off', cb, cbk, hbb, -, -, -, -, g2, -⟩ := HX.out.2 m (by omega)
      cases hbb
      replace e1 := F6.out.keepc e1
      replace g2 := F6.out.keepc g2
      rw [Nat.zero_mul, Nat.add_zero] at e1
      have hwm : IntKind.i64.wrap ((len : Int) - 1) = (m : Int) := (IntWalk.i64_in _ (by have := HL.out; omega)).trans (by omega)
      have hml : m < len := by omega
      have hmI : (m : Int) < (len : Int) := by omega
      have hl0 : ¬ ((len : Int) = 0) := by omega
      have hl1 : ((len : Int) == 0) = false := by simp; omega
      have hl2 : decide ((len : Int) = 0) = false := by simp; omega
      have hl3 : (len == 0) = false := by simp; omega
      have hlp : 0 < len := by omega
      have hlpI : (0 : Int) < (len : Int) := by omega
      have HCFD := Lib.hid hcf
      clear hm hlm h1 HCL HCF hcf
      generalize (hvAt xs 0).f = f0 at *
      generalize (hvAt xs m).u = u0 at *
      rcases HCFD.out with ⟨y, q1, q2, q3, q4, q5, q6⟩ | ⟨q1, q2⟩
      · have hxy : x = y := by rw [HIV.out, q1]; rfl
        have hE0 : E = 0 := by rw [HIE.out, q1]; rfl
        subst hxy hE0
        have HXC := Lib.hid (show x.chs.length ≤ 100 by
          obtain ⟨i, hi, rfl⟩ := List.mem_iff_getElem.1 q2
          have := HC.out i (by have := HXL.out; omega)
          simp only [hvAt, List.getD_eq_getElem?_getD, List.getElem?_eq_getElem hi, Option.getD_some] at this
          exact this)
        have HANY := Lib.hid (show xs.any (eqH x) = true from by
          rw [List.any_eq_true]
          exact ⟨x, q2, eqH_refl x⟩)
        have KC := Lib.hid (fun (y : World) (hx : Fr no w6 y) => containsC_any w3.heap.size (eqH x) (some ⟨b, off, none⟩) len cap xs y ((HX.out.kept F6.out).kept hx) (by have := HL.out; omega) (fun z t ca ck hf hi => cov1_any x t w3.heap.size va vc ca ck z (hf.blk (hx.blk HX6.out (fun h => h)) (fun h => h)) ((HV6.out.kept hx).kept hf) hi HXC.out))
        have hd3 : decide (s < x.f) = false := decide_eq_false (by omega)
        have hd4 : decide (x.u ≤ s) = false := decide_eq_false (by omega)
        have hn3 : ¬ (s < x.f) := by omega
        have hn4 : ¬ (x.u ≤ s) := by omega
        have hd5 : decide (f0 ≤ s) = true := decide_eq_true q5
        have hd6 : decide (s < u0) = true := decide_eq_true q6
        clear q1 q2 HCFD HIV HIE
        simp only [HANY.out] at KC
        go_wp2_with fail
        refine (KC.out _ ?hf).mono ?_
        case hf => first | exact Fr.refl _ _ | exact (Fr.refl _ _).drewN _
        rintro e w9 ⟨rfl, f9⟩
        have F9 := Lib.hid (F6.out.noTrans f9)
        clear f9
        go_wp2_with fail
        go_ret
        exact ⟨rfl, F9.out⟩
      · have hxy : x = z0 := by rw [HIV.out, q1]; rfl
        have hE0 : E = 7 := by rw [HIE.out, q1]; rfl
        subst hxy hE0
        clear q1 HCFD HIV HIE
        simp only [z0, List.length_nil] at a0 a1 a2 a3
        by_cases hq : f0 ≤ s
        · have hu : ¬ (s < u0) := fun h => q2 ⟨hq, h⟩
          have hd5 : decide (f0 ≤ s) = true := decide_eq_true hq
          have hd6 : decide (s < u0) = false := decide_eq_false hu
          clear q2
          go_wp2_with fail
          go_ret
          exact ⟨by simp, F6.out⟩
        · have hd5 : decide (f0 ≤ s) = false := decide_eq_false hq
          clear q2
          go_wp2_with fail
          go_ret
          exact ⟨by simp, F6.out⟩
    · have hE0 : E = C := by rw [HIE.out, if_pos hC]
      have hx0 : x = z0 := by rw [HIV.out, if_pos hC]
      subst hE0 hx0
      have hC1 : (E == 0) = false := by simpa using hC
      have hC2 : decide (E = 0) = false := by simpa using hC
      simp only [z0, List.length_nil] at a0 a1 a2 a3
      clear HIE HIV HCL HCF
      go_wp2_with fail
      go_ret
      exact ⟨by simp, F6.out⟩

end Go.Proofs.Ytpaoacdgmfaolaa
