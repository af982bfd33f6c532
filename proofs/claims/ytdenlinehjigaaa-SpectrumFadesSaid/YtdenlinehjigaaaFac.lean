/- Factor. -/
import Derived.Test.YtdenlinehjigaaaLst
import Derived.Deep.RegionHeld3
import Derived.Deep.RegionWith
namespace Go.Proofs.Ytdenlinehjigaaa
open Go.RowKit
set_option linter.unusedVariables false

theorem mkBtw_any (a b : Int) (w : World) : Calls Try.prog 92 #[.int .i64 a, .int .i64 b] w fun e w' => e = .returned (.agg #[.func (.func 136) #[] #[.pointer (some ⟨w.heap.size, 0, none⟩), .pointer (some ⟨w.heap.size + 1, 0, none⟩)]]) ∧ (w'.cell? ⟨w.heap.size, 0, none⟩ = some (.int .i64 a) ∧ w'.cell? ⟨w.heap.size + 1, 0, none⟩ = some (.int .i64 b)) ∧ Fr no w w' := by
  go_enter Try.func92, Try.ntmps92
  go_wp2_with fail
  have g1 : ((w.alloc (.cells #[.int .i64 a] 3 (0, 0))).alloc (.cells #[.int .i64 b] 3 (0, 0))).heap[w.heap.size]? = some (.cells #[.int .i64 a] 3 (0, 0)) := alloc_keeps (heap_alloc_new w _) _
  have g2 : ((w.alloc (.cells #[.int .i64 a] 3 (0, 0))).alloc (.cells #[.int .i64 b] 3 (0, 0))).heap[w.heap.size + 1]? = some (.cells #[.int .i64 b] 3 (0, 0)) := by simpa using heap_alloc_new (w.alloc (.cells #[.int .i64 a] 3 (0, 0))) (.cells #[.int .i64 b] 3 (0, 0))
  refine bodyPost_ret (v := .agg #[.func (.func 136) #[] #[.pointer (some ⟨w.heap.size, 0, none⟩), .pointer (some ⟨w.heap.size + 1, 0, none⟩)]]) (by simp [results, Try.results92, go_sem]) rfl ⟨rfl, ⟨?_, ?_⟩, (((Fr.refl no w).alloc _).alloc _).alloc _⟩
  · simp only [World.cell?, alloc_keeps g1]; rfl
  · simp only [World.cell?, alloc_keeps g2]; rfl
theorem mkOn_any (a : Int) (w : World) : Calls Try.prog 93 #[.int .i64 a] w fun e w' => e = .returned (.agg #[.func (.func 137) #[] #[.pointer (some ⟨w.heap.size, 0, none⟩)]]) ∧ w'.cell? ⟨w.heap.size, 0, none⟩ = some (.int .i64 a) ∧ Fr no w w' := by
  go_enter Try.func93, Try.ntmps93
  go_wp2_with fail
  refine bodyPost_ret (v := .agg #[.func (.func 137) #[] #[.pointer (some ⟨w.heap.size, 0, none⟩)]]) (by simp [results, Try.results93, go_sem]) rfl ⟨rfl, ?_, ((Fr.refl no w).alloc _).alloc _⟩
  simp only [World.cell?, alloc_keeps (heap_alloc_new w _)]; rfl
theorem mkAt_any (a : Int) (w : World) : Calls Try.prog 94 #[.int .i64 a] w fun e w' => e = .returned (.agg #[.func (.func 138) #[] #[.pointer (some ⟨w.heap.size, 0, none⟩)]]) ∧ w'.cell? ⟨w.heap.size, 0, none⟩ = some (.int .i64 a) ∧ Fr no w w' := by
  go_enter Try.func94, Try.ntmps94
  go_wp2_with fail
  refine bodyPost_ret (v := .agg #[.func (.func 138) #[] #[.pointer (some ⟨w.heap.size, 0, none⟩)]]) (by simp [results, Try.results94, go_sem]) rfl ⟨rfl, ?_, ((Fr.refl no w).alloc _).alloc _⟩
  simp only [World.cell?, alloc_keeps (heap_alloc_new w _)]; rfl
theorem mkEver_any (w : World) : Calls Try.prog 102 #[] w fun e w' => e = .returned (.agg #[.func (.func 141) #[] #[]]) ∧ Fr no w w' := by
  go_enter Try.func102, Try.ntmps102
  go_wp2_with fail
  exact bodyPost_ret (v := .agg #[.func (.func 141) #[] #[]]) (by simp [results, Try.results102, go_sem]) rfl ⟨rfl, (Fr.refl no w).alloc _⟩
def cBtw (n1 n2 : Nat) (a b : Int) : Cnd := ⟨136, #[.pointer (some ⟨n1, 0, none⟩), .pointer (some ⟨n2, 0, none⟩)], btwF a b⟩
def cOn (n : Nat) (c : Int) : Cnd := ⟨137, #[.pointer (some ⟨n, 0, none⟩)], onChF c⟩
def cAt (n : Nat) (t : Int) : Cnd := ⟨138, #[.pointer (some ⟨n, 0, none⟩)], atmF t⟩
def cEv : Cnd := ⟨141, #[], evrF⟩
theorem cBtw_ok {w : World} {n1 n2 : Nat} {a b : Int} (h1 : w.cell? ⟨n1, 0, none⟩ = some (.int .i64 a)) (h2 : w.cell? ⟨n2, 0, none⟩ = some (.int .i64 b)) : CndOk w (cBtw n1 n2 a b) :=
  ⟨enter136, fun w' h f => betweenC_any a b n1 n2 f w' (h.keepc h1) (h.keepc h2)⟩
theorem cOn_ok {w : World} {n : Nat} {c : Int} (h1 : w.cell? ⟨n, 0, none⟩ = some (.int .i64 c)) : CndOk w (cOn n c) := ⟨enter137, fun w' h f => onC_any c n f w' (h.keepc h1)⟩
theorem cAt_ok {w : World} {n : Nat} {c : Int} (h1 : w.cell? ⟨n, 0, none⟩ = some (.int .i64 c)) : CndOk w (cAt n c) := ⟨enter138, fun w' h f => atC_any c n f w' (h.keepc h1)⟩
theorem cEv_ok {w : World} : CndOk w cEv := ⟨enter141, fun w' h f => evC_any f w'⟩
theorem cnds3 {w : World} {n1 n2 n3 n4 B : Nat} {a b c t : Int} {T : Nat} (hB : w.heap[B]? = some (.cells #[.func (.func 136) #[] #[.pointer (some ⟨n1, 0, none⟩), .pointer (some ⟨n2, 0, none⟩)], .func (.func 137) #[] #[.pointer (some ⟨n3, 0, none⟩)], .func (.func 138) #[] #[.pointer (some ⟨n4, 0, none⟩)]] T (0, 0))) (h1 : w.cell? ⟨n1, 0, none⟩ = some (.int .i64 a)) (h2 : w.cell? ⟨n2, 0, none⟩ = some (.int .i64 b))
    (h3 : w.cell? ⟨n3, 0, none⟩ = some (.int .i64 c)) (h4 : w.cell? ⟨n4, 0, none⟩ = some (.int .i64 t)) : CndsIn w (some ⟨B, 0, none⟩) 3 [cBtw n1 n2 a b, cOn n3 c, cAt n4 t] := by
  refine ⟨rfl, fun i hi => ⟨B, 0, rfl, ?_⟩⟩
  rcases (show i = 0 ∨ i = 1 ∨ i = 2 by omega) with rfl | rfl | rfl
  · exact ⟨by simp [World.cell?, hB, cdAt, cBtw], cBtw_ok h1 h2⟩
  · exact ⟨by simp [World.cell?, hB, cdAt, cOn], cOn_ok h3⟩
  · exact ⟨by simp [World.cell?, hB, cdAt, cAt], cAt_ok h4⟩
theorem cnds2 {w : World} {n1 n2 B : Nat} {a b : Int} {T : Nat} (hB : w.heap[B]? = some (.cells #[.func (.func 136) #[] #[.pointer (some ⟨n1, 0, none⟩), .pointer (some ⟨n2, 0, none⟩)], .func (.func 141) #[] #[]] T (0, 0))) (h1 : w.cell? ⟨n1, 0, none⟩ = some (.int .i64 a)) (h2 : w.cell? ⟨n2, 0, none⟩ = some (.int .i64 b)) :
    CndsIn w (some ⟨B, 0, none⟩) 2 [cBtw n1 n2 a b, cEv] := by
  refine ⟨rfl, fun i hi => ⟨B, 0, rfl, ?_⟩⟩
  rcases (show i = 0 ∨ i = 1 by omega) with rfl | rfl
  · exact ⟨by simp [World.cell?, hB, cdAt, cBtw], cBtw_ok h1 h2⟩
  · exact ⟨by simp [World.cell?, hB, cdAt, cEv], cEv_ok⟩
/-- The factor of a transmission; the least one at all times. -/
def ftP (a b c t : Int) (f : Fd) : Bool := btwF a b f && onChF c f && atmF t f
def ftF (a b c t : Int) (fs : List Fd) : Int := lsF (ftP a b c t) fs
def wtP (a b : Int) (f : Fd) : Bool := btwF a b f && evrF f
def wtF (a b : Int) (fs : List Fd) : Int := lsF (wtP a b) fs
theorem cdB3 (n1 n2 n3 n4 : Nat) (a b c t : Int) : cdB [cBtw n1 n2 a b, cOn n3 c, cAt n4 t] = ftP a b c t := by
  funext f; simp [cdB, cBtw, cOn, cAt, ftP, Bool.and_assoc]
theorem cdB2 (n1 n2 : Nat) (a b : Int) : cdB [cBtw n1 n2 a b, cEv] = wtP a b := by
  funext f; simp [cdB, cBtw, cEv, wtP]
theorem least3 (a1 : Option Addr) (l1 k1 : Nat) (fs : List Fd) (w : World) (n1 n2 n3 n4 : Nat) (a b c t : Int) (hf : FdsIn w a1 l1 fs) (hl1 : l1 ≤ 80) (h1 : w.cell? ⟨n1, 0, none⟩ = some (.int .i64 a)) (h2 : w.cell? ⟨n2, 0, none⟩ = some (.int .i64 b))
    (h3 : w.cell? ⟨n3, 0, none⟩ = some (.int .i64 c)) (h4 : w.cell? ⟨n4, 0, none⟩ = some (.int .i64 t)) :
    Calls Try.prog 91 #[.slice a1 l1 k1, .slice (some ⟨w.heap.size, 0, none⟩) 3 3] (w.alloc (.cells #[.func (.func 136) #[] #[.pointer (some ⟨n1, 0, none⟩), .pointer (some ⟨n2, 0, none⟩)], .func (.func 137) #[] #[.pointer (some ⟨n3, 0, none⟩)], .func (.func 138) #[] #[.pointer (some ⟨n4, 0, none⟩)]] 120 (0, 0))) fun e w' => e = .returned (.int .i64 (ftF a b c t fs)) ∧ Fr no w w' := by
  have k : Fr no w (w.alloc (.cells #[.func (.func 136) #[] #[.pointer (some ⟨n1, 0, none⟩), .pointer (some ⟨n2, 0, none⟩)], .func (.func 137) #[] #[.pointer (some ⟨n3, 0, none⟩)], .func (.func 138) #[] #[.pointer (some ⟨n4, 0, none⟩)]] 120 (0, 0))) := (Fr.refl no w).alloc _
  have hC := cnds3 (heap_alloc_new w (.cells #[.func (.func 136) #[] #[.pointer (some ⟨n1, 0, none⟩), .pointer (some ⟨n2, 0, none⟩)], .func (.func 137) #[] #[.pointer (some ⟨n3, 0, none⟩)], .func (.func 138) #[] #[.pointer (some ⟨n4, 0, none⟩)]] 120 (0, 0))) (k.keepc h1) (k.keepc h2) (k.keepc h3) (k.keepc h4)
  refine (least_any a1 l1 k1 fs _ 3 3 _ _ (hf.kept k) hC (by omega) hl1).mono ?_
  rintro e w' ⟨rfl, f⟩
  rw [cdB3]
  exact ⟨rfl, k.noTrans f⟩
theorem least2 (a1 : Option Addr) (l1 k1 : Nat) (fs : List Fd) (w : World) (n1 n2 : Nat) (a b : Int) (hf : FdsIn w a1 l1 fs) (hl1 : l1 ≤ 80) (h1 : w.cell? ⟨n1, 0, none⟩ = some (.int .i64 a)) (h2 : w.cell? ⟨n2, 0, none⟩ = some (.int .i64 b)) :
    Calls Try.prog 91 #[.slice a1 l1 k1, .slice (some ⟨w.heap.size, 0, none⟩) 2 2] (w.alloc (.cells #[.func (.func 136) #[] #[.pointer (some ⟨n1, 0, none⟩), .pointer (some ⟨n2, 0, none⟩)], .func (.func 141) #[] #[]] 120 (0, 0))) fun e w' => e = .returned (.int .i64 (wtF a b fs)) ∧ Fr no w w' := by
  have k : Fr no w (w.alloc (.cells #[.func (.func 136) #[] #[.pointer (some ⟨n1, 0, none⟩), .pointer (some ⟨n2, 0, none⟩)], .func (.func 141) #[] #[]] 120 (0, 0))) := (Fr.refl no w).alloc _
  have hC := cnds2 (heap_alloc_new w (.cells #[.func (.func 136) #[] #[.pointer (some ⟨n1, 0, none⟩), .pointer (some ⟨n2, 0, none⟩)], .func (.func 141) #[] #[]] 120 (0, 0))) (k.keepc h1) (k.keepc h2)
  refine (least_any a1 l1 k1 fs _ 2 2 _ _ (hf.kept k) hC (by omega) hl1).mono ?_
  rintro e w' ⟨rfl, f⟩
  rw [cdB2]
  exact ⟨rfl, k.noTrans f⟩
/-- A spectrum in memory. -/
structure SpIn (w : World) (a0 : Option Addr) (l0 : Nat) (a1 : Option Addr) (l1 : Nat) (ss : List Src) (fs : List Fd) : Prop where
  s : SrcsIn w a0 l0 ss
  f : FdsIn w a1 l1 fs
  c : ∀ i, i < l0 → (srAt ss i).chs.length ≤ 40
theorem SpIn.kept {w w' : World} {a0 : Option Addr} {l0 : Nat} {a1 : Option Addr} {l1 : Nat} {ss : List Src} {fs : List Fd} (h : SpIn w a0 l0 a1 l1 ss fs) (hf : Fr no w w') : SpIn w' a0 l0 a1 l1 ss fs := ⟨h.s.kept hf, h.f.kept hf, h.c⟩
theorem ckS_len {l0 l1 : Nat} {ss : List Src} {fs : List Fd} (h : ckS l0 l1 ss fs = true) : l0 ≤ 16 ∧ l1 ≤ 64 ∧ ss.all srB = true ∧ fs.all fdB = true := by
  simp only [ckS, Bool.and_eq_true, decide_eq_true_eq] at h
  exact ⟨h.1.1.1, h.1.1.2, h.1.2, h.2⟩
def rgB (a b c t : Int) : Bool := inR a 0 31 && inR b 0 31 && inR c 0 15 && inR t 0 1099511627776
def fcV (B : Bool) (a b c t : Int) (fs : List Fd) : Int := if B && rgB a b c t then ftF a b c t fs else 0
def fcE (B : Bool) (a b c t : Int) : Int := if B then (if rgB a b c t then 0 else 2) else 1
set_option maxHeartbeats 8000000 in
theorem factor_any (a0 : Option Addr) (l0 k0 : Nat) (a1 : Option Addr) (l1 k1 : Nat) (ss : List Src) (fs : List Fd) (a b c t : Int) (w : World) (hs : SpIn w a0 l0 a1 l1 ss fs) :
    Calls Try.prog 35 #[.agg #[.slice a0 l0 k0, .slice a1 l1 k1], .int .i64 a, .int .i64 b, .int .i64 c, .int .i64 t] w fun e w' => e = .returned (.tuple #[.int .i64 (fcV (ckS l0 l1 ss fs) a b c t fs), .int .i64 (fcE (ckS l0 l1 ss fs) a b c t)]) ∧ Fr no w w' := by
  obtain ⟨W, hW⟩ : ∃ W, W = w.alloc (.cells #[.slice a0 l0 k0, .slice a1 l1 k1] 47 (0, 0)) := ⟨_, rfl⟩
  have hF : Fr no w W := by rw [hW]; exact (Fr.refl no w).alloc _
  have h1 : W.heap[w.heap.size]? = some (.cells #[.slice a0 l0 k0, .slice a1 l1 k1] 47 (0, 0)) := by rw [hW]; exact heap_alloc_new w _
  obtain ⟨c0, c1⟩ := two_cells h1
  have HS := Lib.hid (hs.kept hF)
  have HF := Lib.hid hF
  have HW := Lib.hid hW
  have HC := checkS_any a0 l0 k0 a1 l1 k1 ss fs W (HS.out.s) (HS.out.f) HS.out.c
  clear hs hF h1 hW
  cases hB : ckS l0 l1 ss fs
  · rw [hB] at HC
    have HR := Lib.hid (show fcV false a b c t fs = 0 ∧ fcE false a b c t = 1 by simp [fcV, fcE])
    have HC := Lib.hid HC
    clear hB
    go_enter Try.func35, Try.ntmps35
    go_wp2_with fail
    rw [← HW.out]
    refine HC.out.mono ?_
    rintro e w1 ⟨rfl, f1⟩
    have HF1 := Lib.hid (HF.out.noTrans f1)
    clear f1
    go_wp2_with fail
    go_ret2
    rw [HR.out.1, HR.out.2]
    exact ⟨rfl, HF1.out⟩
  · rw [hB] at HC
    have HL := Lib.hid (show l1 ≤ 80 by have := (ckS_len hB).2.1; omega)
    have HC := Lib.hid HC
    clear hB
    have HN0 := isNode_any a
    cases hr0 : inR a 0 31
    · rw [hr0] at HN0
      have HN0 := Lib.hid HN0
      have HR := Lib.hid (show fcV true a b c t fs = 0 ∧ fcE true a b c t = 2 by simp [fcV, fcE, rgB, hr0])
      clear hr0
      go_enter Try.func35, Try.ntmps35
      go_wp2_with fail
      rw [← HW.out]
      refine HC.out.mono ?_
      rintro e w1 ⟨rfl, f1⟩
      have g0 := f1.keepc c0
      have g1 := f1.keepc c1
      have HF1 := Lib.hid (HF.out.noTrans f1)
      have HSP := Lib.hid (HS.out.kept f1)
      clear f1 c0 c1
      go_wp2_with fail
      refine (HN0.out _).mono ?_
      rintro e wn0 ⟨rfl, rfl⟩
      go_wp2_with fail
      go_ret2
      rw [HR.out.1, HR.out.2]
      exact ⟨rfl, HF1.out⟩
    · rw [hr0] at HN0
      have HN0 := Lib.hid HN0
      have HN1 := isNode_any b
      cases hr1 : inR b 0 31
      · rw [hr1] at HN1
        have HN1 := Lib.hid HN1
        have HR := Lib.hid (show fcV true a b c t fs = 0 ∧ fcE true a b c t = 2 by simp [fcV, fcE, rgB, hr0, hr1])
        clear hr0 hr1
        go_enter Try.func35, Try.ntmps35
        go_wp2_with fail
        rw [← HW.out]
        refine HC.out.mono ?_
        rintro e w1 ⟨rfl, f1⟩
        have g0 := f1.keepc c0
        have g1 := f1.keepc c1
        have HF1 := Lib.hid (HF.out.noTrans f1)
        have HSP := Lib.hid (HS.out.kept f1)
        clear f1 c0 c1
        go_wp2_with fail
        refine (HN0.out _).mono ?_
        rintro e wn0 ⟨rfl, rfl⟩
        go_wp2_with fail
        refine (HN1.out _).mono ?_
        rintro e wn1 ⟨rfl, rfl⟩
        go_wp2_with fail
        go_ret2
        rw [HR.out.1, HR.out.2]
        exact ⟨rfl, HF1.out⟩
      · rw [hr1] at HN1
        have HN1 := Lib.hid HN1
        have HN2 := isChannel_any c
        cases hr2 : inR c 0 15
        · rw [hr2] at HN2
          have HN2 := Lib.hid HN2
          have HR := Lib.hid (show fcV true a b c t fs = 0 ∧ fcE true a b c t = 2 by simp [fcV, fcE, rgB, hr0, hr1, hr2])
          clear hr0 hr1 hr2
          go_enter Try.func35, Try.ntmps35
          go_wp2_with fail
          rw [← HW.out]
          refine HC.out.mono ?_
          rintro e w1 ⟨rfl, f1⟩
          have g0 := f1.keepc c0
          have g1 := f1.keepc c1
          have HF1 := Lib.hid (HF.out.noTrans f1)
          have HSP := Lib.hid (HS.out.kept f1)
          clear f1 c0 c1
          go_wp2_with fail
          refine (HN0.out _).mono ?_
          rintro e wn0 ⟨rfl, rfl⟩
          go_wp2_with fail
          refine (HN1.out _).mono ?_
          rintro e wn1 ⟨rfl, rfl⟩
          go_wp2_with fail
          refine (HN2.out _).mono ?_
          rintro e wn2 ⟨rfl, rfl⟩
          go_wp2_with fail
          go_ret2
          rw [HR.out.1, HR.out.2]
          exact ⟨rfl, HF1.out⟩
        · rw [hr2] at HN2
          have HN2 := Lib.hid HN2
          have HN3 := isTime_any t
          cases hr3 : inR t 0 1099511627776
          · rw [hr3] at HN3
            have HN3 := Lib.hid HN3
            have HR := Lib.hid (show fcV true a b c t fs = 0 ∧ fcE true a b c t = 2 by simp [fcV, fcE, rgB, hr0, hr1, hr2, hr3])
            clear hr0 hr1 hr2 hr3
            go_enter Try.func35, Try.ntmps35
            go_wp2_with fail
            rw [← HW.out]
            refine HC.out.mono ?_
            rintro e w1 ⟨rfl, f1⟩
            have g0 := f1.keepc c0
            have g1 := f1.keepc c1
            have HF1 := Lib.hid (HF.out.noTrans f1)
            have HSP := Lib.hid (HS.out.kept f1)
            clear f1 c0 c1
            go_wp2_with fail
            refine (HN0.out _).mono ?_
            rintro e wn0 ⟨rfl, rfl⟩
            go_wp2_with fail
            refine (HN1.out _).mono ?_
            rintro e wn1 ⟨rfl, rfl⟩
            go_wp2_with fail
            refine (HN2.out _).mono ?_
            rintro e wn2 ⟨rfl, rfl⟩
            go_wp2_with fail
            refine (HN3.out _).mono ?_
            rintro e wn3 ⟨rfl, rfl⟩
            go_wp2_with fail
            go_ret2
            rw [HR.out.1, HR.out.2]
            exact ⟨rfl, HF1.out⟩
          · rw [hr3] at HN3
            have HN3 := Lib.hid HN3
            have HR := Lib.hid (show fcV true a b c t fs = ftF a b c t fs ∧ fcE true a b c t = 0 by simp [fcV, fcE, rgB, hr0, hr1, hr2, hr3])
            clear hr0 hr1 hr2 hr3
            go_enter Try.func35, Try.ntmps35
            go_wp2_with fail
            rw [← HW.out]
            refine HC.out.mono ?_
            rintro e w1 ⟨rfl, f1⟩
            have g0 := f1.keepc c0
            have g1 := f1.keepc c1
            have HF1 := Lib.hid (HF.out.noTrans f1)
            have HSP := Lib.hid (HS.out.kept f1)
            clear f1 c0 c1
            go_wp2_with fail
            refine (HN0.out _).mono ?_
            rintro e wn0 ⟨rfl, rfl⟩
            go_wp2_with fail
            refine (HN1.out _).mono ?_
            rintro e wn1 ⟨rfl, rfl⟩
            go_wp2_with fail
            refine (HN2.out _).mono ?_
            rintro e wn2 ⟨rfl, rfl⟩
            go_wp2_with fail
            refine (HN3.out _).mono ?_
            rintro e wn3 ⟨rfl, rfl⟩
            go_wp2_with fail
            have tokA : True := trivial
            go_region_held3 (fun w' => w'.cell? ⟨w.heap.size, 0, none⟩ = some (.slice a0 l0 k0) ∧ w'.cell? ⟨w.heap.size, 1, none⟩ = some (.slice a1 l1 k1)) (go_keep)
              (first
                | (go_at_call 92; refine (mkBtw_any a b _).mono ?_; rintro e w4 ⟨rfl, h4, f4⟩; have x0 := f4.keepc g0; have x1 := f4.keepc g1)
                | (go_at_call 93; refine (mkOn_any c _).mono ?_; rintro e w5 ⟨rfl, h5, f5⟩; have y0 := f5.keepc x0; have y1 := f5.keepc x1)
                | (go_at_call 94; refine (mkAt_any t _).mono ?_; rintro e w6 ⟨rfl, h6, f6⟩; have z0 := f6.keepc y0; have z1 := f6.keepc y1)
                | (go_at_call 91; refine (least3 a1 l1 k1 fs w6 _ _ _ _ a b c t (HSP.out.f.kept ((((Fr.refl no _).drew.noTrans f4).noTrans f5).noTrans f6)) HL.out ((f5.noTrans f6).keepc h4.1) ((f5.noTrans f6).keepc h4.2) (f6.keepc h5) h6).mono ?_; rintro e w7 ⟨rfl, f7⟩; have q0 := f7.keepc z0; have q1 := f7.keepc z1))
            have HF7 := Lib.hid ((HF1.out.drew.noTrans f4).noTrans ((f5.noTrans f6).noTrans f7))
            clear f4 f5 f6 f7
            go_wp2_with fail
            go_ret2
            rw [HR.out.1, HR.out.2]
            exact ⟨rfl, HF7.out⟩
end Go.Proofs.Ytdenlinehjigaaa
