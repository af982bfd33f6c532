/- Newer. -/
import Derived.Test.YtpaoacdgmfaolaaNwm
import Derived.Deep.RegionHeld3
import Derived.Deep.RegionWith
import Derived.Deep.DeepCutAuto
namespace Go.Proofs.Ytpaoacdgmfaolaa
set_option linter.unusedVariables false
open Go.RowKit


theorem row_ints {B : Nat} {w : World} {va : Option Addr} {n vc : Nat} {l : List Int} (h : RowI B w (.slice va n vc) l) : IntsIn w va n l := by
  obtain ⟨a, c, e, -, h3⟩ := rowI_ints h
  cases e
  exact h3
theorem row_cap {B : Nat} {w : World} {va : Option Addr} {n vc : Nat} {l : List Int} (h : RowI B w (.slice va n vc) l) : n ≤ vc := by
  obtain ⟨a, c, e, h2, -⟩ := rowI_ints h
  cases e
  exact h2
theorem set_row {B c : Nat} {w : World} {va : Option Addr} {n vc : Nat} {l : List Int} (h : RowI B w (.slice va n vc) l) (hc : c < B) (p q r s : Value) :
    IntsIn ((((w.setCell ⟨c, 0, none⟩ p).setCell ⟨c, 1, none⟩ q).setCell ⟨c, 2, none⟩ r).setCell ⟨c, 3, none⟩ s) va n l :=
  row_ints (rowI_low h (((((Fr.refl (fun k => k < B) w).setCell (p := ⟨c, 0, none⟩) (.inl hc) p).setCell (p := ⟨c, 1, none⟩) (.inl hc) q).setCell (p := ⟨c, 2, none⟩) (.inl hc) r).setCell (p := ⟨c, 3, none⟩) (.inl hc) s))
theorem hvs_two (w : World) (v f u : Int) (ca : Option Addr) (ck : Nat) (zs : List Int) (v2 f2 u2 : Int) (xa : Option Addr) (xc : Nat) (xs : List Int) (ln xn : Nat) (hl : ln = zs.length) (hx : xn = xs.length) (h1 : IntsIn w ca ln zs) (h2 : IntsIn w xa xn xs) (k1 : ln ≤ ck) (k2 : xn ≤ xc) :
    HvsIn (w.alloc (.cells #[.int .i64 v, .int .i64 f, .int .i64 u, .slice ca ln ck, .int .i64 v2, .int .i64 f2, .int .i64 u2, .slice xa xn xc] 24 (0, 0))) (some ⟨w.heap.size, 0, none⟩) 2 [⟨v, f, u, zs⟩, ⟨v2, f2, u2, xs⟩] := by
  subst hl hx
  have h := heap_alloc_new w (.cells #[.int .i64 v, .int .i64 f, .int .i64 u, .slice ca zs.length ck, .int .i64 v2, .int .i64 f2, .int .i64 u2, .slice xa xs.length xc] 24 (0, 0))
  have i1 := h1.kept ((Fr.refl no w).alloc (.cells #[.int .i64 v, .int .i64 f, .int .i64 u, .slice ca zs.length ck, .int .i64 v2, .int .i64 f2, .int .i64 u2, .slice xa xs.length xc] 24 (0, 0)))
  have i2 := h2.kept ((Fr.refl no w).alloc (.cells #[.int .i64 v, .int .i64 f, .int .i64 u, .slice ca zs.length ck, .int .i64 v2, .int .i64 f2, .int .i64 u2, .slice xa xs.length xc] 24 (0, 0)))
  generalize w.alloc (.cells #[.int .i64 v, .int .i64 f, .int .i64 u, .slice ca zs.length ck, .int .i64 v2, .int .i64 f2, .int .i64 u2, .slice xa xs.length xc] 24 (0, 0)) = W at *
  refine ⟨rfl, fun i hi => ?_⟩
  match i, hi with
  | 0, _ => exact ⟨w.heap.size, 0, ca, ck, rfl, i1, k1, by simp [World.cell?, h, hvAt], by simp [World.cell?, h, hvAt], by simp [World.cell?, h, hvAt], by simp [World.cell?, h, hvAt]⟩
  | 1, _ => exact ⟨w.heap.size, 0, xa, xc, rfl, i2, k2, by simp [World.cell?, h, hvAt], by simp [World.cell?, h, hvAt], by simp [World.cell?, h, hvAt], by simp [World.cell?, h, hvAt]⟩
theorem two_cellsI {w : World} {B T : Nat} {a b : Value} (h : w.heap[B]? = some (.cells #[a, b] T (0, 0))) : w.cell? ⟨B, 0, none⟩ = some a ∧ w.cell? ⟨B, 1, none⟩ = some b := by simp [World.cell?, h]
set_option maxRecDepth 20000 in
set_option maxHeartbeats 32000000 in
theorem newer_all (v f u : Int) (ca : Option Addr) (ck : Nat) (zs : List Int) (t a b : Int) (w : World) (hz : IntsIn w ca zs.length zs) (hk : zs.length ≤ ck) :
    Calls Try.prog 10 #[.agg #[.int .i64 v, .int .i64 f, .int .i64 u, .slice ca zs.length ck], .int .i64 t, .agg #[.int .i64 a, .int .i64 b]] w fun e w' => e = .returned (.bool true) ∧ Fr no w w' := by
  obtain ⟨W, hW⟩ : ∃ W, W = (w.alloc (.cells #[.int .i64 v, .int .i64 f, .int .i64 u, .slice ca zs.length ck] 24 (0, 0))).alloc (.cells #[.int .i64 a, .int .i64 b] 56 (0, 0)) := ⟨_, rfl⟩
  have hF : Fr no w W := by rw [hW]; exact ((Fr.refl no w).alloc _).alloc _
  have h1 : W.heap[w.heap.size]? = some (.cells #[.int .i64 v, .int .i64 f, .int .i64 u, .slice ca zs.length ck] 24 (0, 0)) := by rw [hW]; exact alloc_keeps (heap_alloc_new w _) _
  have h2 : W.heap[w.heap.size + 1]? = some (.cells #[.int .i64 a, .int .i64 b] 56 (0, 0)) := by rw [hW]; simpa using heap_alloc_new (w.alloc (.cells #[.int .i64 v, .int .i64 f, .int .i64 u, .slice ca zs.length ck] 24 (0, 0))) (.cells #[.int .i64 a, .int .i64 b] 56 (0, 0))
  have HF := Lib.hid hF
  have HW := Lib.hid hW
  have H1 := Lib.hid h1
  have H2 := Lib.hid h2
  have HZ := Lib.hid (hz.kept hF)
  obtain ⟨ln, hln⟩ : ∃ ln, ln = zs.length := ⟨_, rfl⟩
  simp only [← hln] at HZ ⊢
  rw [← hln] at H1 HW
  by_cases h20 : ln ≤ 20
  · have hnI : ¬ ((20 : Int) < (ln : Int)) := by omega
    have hnD : decide ((20 : Int) < (ln : Int)) = false := decide_eq_false hnI
    have KX := Lib.hid (fun x (hf : Fr no W x) => cloneI_any ca ln ck zs x (HZ.out.kept hf) (by omega))
    have KN := Lib.hid (fun x va vc (hf : Fr no W x) (hr : IntsIn x va zs.length zs) => next_any v f u ca ck zs t va vc zs x (by have := HZ.out.kept hf; rw [hln] at this; exact this) hr (by omega) (by omega))
    have HNB := Lib.hid (show nxE v f u zs t zs = if nxB v f u zs t zs then 0 else 1 from rfl)
    have HNV := Lib.hid (show nxV v f u zs t zs = if nxB v f u zs t zs then ⟨(v + 1) % 256, u, t, zs⟩ else ⟨0, 0, 0, []⟩ from rfl)
    have HC2 := Lib.hid (fun h => caE_two (v := v) (f := f) (u := u) (zs := zs) (t := t) (xs := zs) h)
    have HVR := Lib.hid (show nxB v f u zs t zs = true → 0 ≤ v ∧ v ≤ 255 from fun h => by
      simp only [nxB, Bool.and_eq_true] at h
      exact ⟨(hlB_t h.1).1, (hlB_t h.1).2.1⟩)
    have KA := Lib.hid (fun w => newer_any a b w)
    have KB := Lib.hid (fun w => newer_any b a w)
    have HLN := Lib.hid hln
    have H20 := Lib.hid h20
    simp only [← hln] at KN
    have HKK0 := Lib.hid hk
    clear hz hF h1 h2 hW hk hln h20
    go_enter Try.func10, Try.ntmps10
    go_wp2_with fail
    rw [← HW.out]
    refine (awake_any W).mono ?_
    rintro e w0 ⟨rfl, f0⟩
    obtain ⟨c0, c1, c2, c3⟩ := four_cells (f0.blk H1.out (fun h => h))
    obtain ⟨d0, d1⟩ := two_cellsI (f0.blk H2.out (fun h => h))
    have F0 := Lib.hid f0
    clear f0
    go_wp2_with fail
    go_quiet (fail)
    obtain ⟨w1, hw1⟩ : ∃ w1, w1 = w0.drewN nq := ⟨_, rfl⟩
    rw [← hw1]
    have F1 := Lib.hid (show Fr no W w1 by rw [hw1]; exact F0.out.drewN _)
    clear hw1 F0 c0 c1 c2 c3 d0 d1 hnI hnD
    go_upto_region 6 with fail
    go_cut [35] (fun s35 wx => s35 = .bool (inR a 0 255 && inR b 0 255) ∧ wx = w1)
    case first =>
      go_wp2_with fail
      all_goals go_meet
      all_goals exact ⟨by first | (simp [inR, *]; done) | (simp [inR, *]; omega), rfl⟩
    case rest =>
    obtain ⟨rfl, rfl⟩ := hcut
    go_upto_if 35 with fail
    go_cut [] (fun wx => wx = wc)
    case first =>
      cases hq : (inR a 0 255 && inR b 0 255)
      · have hN := nw_out (a := a) (b := b) (fun h => by rw [inR_t.2 h.1, inR_t.2 h.2] at hq; cases hq)
        have KA := KA.out
        rw [hN] at KA
        replace KA := Lib.hid KA
        clear hN hq
        go_wp2_with fail
        refine (KA.out _).mono ?_
        rintro e w2 ⟨rfl, rfl⟩
        go_wp2_with fail
        go_meet
        rfl
      · rw [Bool.and_eq_true] at hq
        obtain ⟨a0, a1⟩ := inR_t.1 hq.1
        obtain ⟨b0, b1⟩ := inR_t.1 hq.2
        obtain ⟨d, hd, hr⟩ := nw_rules a0 a1 b0 b1
        have KA := KA.out
        have KB := KB.out
        have hwa : IntKind.i64.wrap (a - b) = a - b := IntWalk.i64_in _ (by omega)
        have hwb : IntKind.i64.wrap (b - a) = b - a := IntWalk.i64_in _ (by omega)
        have hd' : (if b - a > a - b then b - a else a - b) = d := hd
        have hmx : max (a - b) (b - a) = d := by rw [← hd]; split <;> omega
        clear hq a0 a1 b0 b1
        rcases hr with ⟨r1, r2, r3, r4⟩ | ⟨r1, r2, r3, r4⟩ | ⟨r1, r2, r3⟩ | ⟨r1, r2, r3⟩
        · rw [r1] at KA
          rw [r2] at KB
          replace KA := Lib.hid KA
          replace KB := Lib.hid KB
          have s1 : (d == 0) = false := by simpa using r3
          have s2 : (d == 128) = false := by simpa using r4
          have s3 : decide (d = 0) = false := by simpa using r3
          have s4 : decide (d = 128) = false := by simpa using r4
          clear r1 r2
          go_wp2_with fail
          refine (KA.out _).mono ?_
          rintro e w2 ⟨rfl, rfl⟩
          go_wp2_with fail
          refine (KA.out _).mono ?_
          rintro e w2 ⟨rfl, rfl⟩
          go_wp2_with fail
          refine (KB.out _).mono ?_
          rintro e w2 ⟨rfl, rfl⟩
          go_wp2_with fail
          go_meet
          rfl
        · rw [r1] at KA
          rw [r2] at KB
          replace KA := Lib.hid KA
          replace KB := Lib.hid KB
          have s1 : (d == 0) = false := by simpa using r3
          have s2 : (d == 128) = false := by simpa using r4
          have s3 : decide (d = 0) = false := by simpa using r3
          have s4 : decide (d = 128) = false := by simpa using r4
          clear r1 r2
          go_wp2_with fail
          refine (KA.out _).mono ?_
          rintro e w2 ⟨rfl, rfl⟩
          go_wp2_with fail
          refine (KB.out _).mono ?_
          rintro e w2 ⟨rfl, rfl⟩
          go_wp2_with fail
          refine (KA.out _).mono ?_
          rintro e w2 ⟨rfl, rfl⟩
          go_wp2_with fail
          go_meet
          rfl
        · rw [r1] at KA
          rw [r2] at KB
          replace KA := Lib.hid KA
          replace KB := Lib.hid KB
          subst r3
          clear r1 r2
          go_wp2_with fail
          refine (KA.out _).mono ?_
          rintro e w2 ⟨rfl, rfl⟩
          go_wp2_with fail
          refine (KB.out _).mono ?_
          rintro e w2 ⟨rfl, rfl⟩
          go_wp2_with fail
          refine (KA.out _).mono ?_
          rintro e w2 ⟨rfl, rfl⟩
          go_wp2_with fail
          go_meet
          rfl
        · rw [r1] at KA
          rw [r2] at KB
          replace KA := Lib.hid KA
          replace KB := Lib.hid KB
          subst r3
          clear r1 r2
          go_wp2_with fail
          refine (KA.out _).mono ?_
          rintro e w2 ⟨rfl, rfl⟩
          go_wp2_with fail
          refine (KB.out _).mono ?_
          rintro e w2 ⟨rfl, rfl⟩
          go_wp2_with fail
          refine (KA.out _).mono ?_
          rintro e w2 ⟨rfl, rfl⟩
          go_wp2_with fail
          go_meet
          rfl
    case rest =>
    subst hcut
    obtain ⟨c0, c1, c2, c3⟩ := four_cells (F1.out.blk H1.out (fun h => h))
    have HZ1 := Lib.hid (HZ.out.kept F1.out)
    have H11 := Lib.hid (F1.out.blk H1.out (fun h => h))
    generalize hE : nxE v f u zs t zs = E at *
    generalize hX : nxV v f u zs t zs = x at *
    have HE := Lib.hid hE
    have HX := Lib.hid hX
    clear hE hX
    go_upto_region 12 with fail
    go_cut [10, 11] (fun s10 s11 wx => ∃ (c : Nat) (va : Option Addr) (vc : Nat), s10 = .pointer (some ⟨c, 0, none⟩) ∧ s11 = .int .i64 E ∧ wx.heap[c]? = some (.cells #[.int .i64 x.v, .int .i64 x.f, .int .i64 x.u, .slice va x.chs.length vc] 24 (0, 0)) ∧ IntsIn wx va x.chs.length x.chs ∧ x.chs.length ≤ vc ∧ Fr no wc wx)
    case first =>
      have KX1 := Lib.hid (show ∀ y, Fr no wc y → Calls Try.prog 26 #[.slice ca ln ck] y (fun e y' => ∃ va vc, e = .returned (.slice va ln vc) ∧ IntsIn y' va ln zs ∧ Fr no wc y' ∧ Fr no y y') from fun y hf => (KX.out y (F1.out.noTrans hf)).mono (by
        rintro e y' ⟨q, rfl, h1, h2⟩
        obtain ⟨va, vc, rfl, -, h3⟩ := rowI_ints h1
        rw [← HLN.out]
        rw [← HLN.out] at h3
        exact ⟨va, vc, rfl, h3, hf.noTrans h2, h2⟩))
      have KN1 := Lib.hid (show ∀ y va vc, Fr no wc y → IntsIn y va ln zs → Calls Try.prog 28 #[.agg #[.int .i64 v, .int .i64 f, .int .i64 u, .slice ca ln ck], .int .i64 t, .slice va ln vc] y (fun e y' => ∃ vb vd, e = .returned (.tuple #[.agg #[.int .i64 x.v, .int .i64 x.f, .int .i64 x.u, .slice vb x.chs.length vd], .int .i64 E]) ∧ RowI y.heap.size y' (.slice vb x.chs.length vd) x.chs ∧ Fr no wc y' ∧ Fr no y y') from fun y va vc hf hr => (KN.out y va vc (F1.out.noTrans hf) hr).mono (by
        rintro e y' ⟨va, vc, rfl, h1, h2⟩
        exact ⟨va, vc, rfl, h1, hf.noTrans h2, h2⟩))
      have n0 := World.new_ne wc _ c0
      have n1 := World.new_ne wc _ c1
      have n2 := World.new_ne wc _ c2
      have n3 := World.new_ne wc _ c3
      have tA : True := trivial
      have tB : True := trivial
      clear HZ1 H1 H2 KX KN KA KB HNB HNV HC2 HVR H20
      go_region_held3 (fun w' => w'.cell? ⟨w.heap.size, 0, none⟩ = some (.int .i64 v) ∧ w'.cell? ⟨w.heap.size, 1, none⟩ = some (.int .i64 f) ∧ w'.cell? ⟨w.heap.size, 2, none⟩ = some (.int .i64 u) ∧ w'.cell? ⟨w.heap.size, 3, none⟩ = some (.slice ca ln ck)) (go_keep)
        (first
          | (go_at_call 26; have _tk := tA; refine (KX1.out (wc.drewN _) ((Fr.refl no wc).drewN _)).mono ?_; rintro e wA ⟨va, vc, rfl, rA, fA, gA⟩; clear _tk tA; have q0_ := gA.keepc c0; have q1_ := gA.keepc c1; have q2_ := gA.keepc c2; have q3_ := gA.keepc c3; have m0_ := World.new_ne wA _ q0_; have m1_ := World.new_ne wA _ q1_; have m2_ := World.new_ne wA _ q2_; have m3_ := World.new_ne wA _ q3_)
          | (go_at_call 26; have _tk := tA; refine (KX1.out ((wc.alloc (.cells #[.int .i64 0, .int .i64 0, .int .i64 0, .slice none 0 0] 24 (0, 0))).drewN _) (((Fr.refl no wc).alloc _).drewN _)).mono ?_; rintro e wA ⟨va, vc, rfl, rA, fA, gA⟩; clear _tk tA; have hz5 := gA.blk (heap_alloc_new wc (.cells #[.int .i64 0, .int .i64 0, .int .i64 0, .slice none 0 0] 24 (0, 0))) (fun h => h); have q0_ := gA.keepc (cell_alloc _ c0); have q1_ := gA.keepc (cell_alloc _ c1); have q2_ := gA.keepc (cell_alloc _ c2); have q3_ := gA.keepc (cell_alloc _ c3); have m0_ := World.new_ne wA _ q0_; have m1_ := World.new_ne wA _ q1_; have m2_ := World.new_ne wA _ q2_; have m3_ := World.new_ne wA _ q3_)
          | (go_at_call 28; have _tk := tB; refine (KN1.out wA va vc fA rA).mono ?_; rintro e wB ⟨vb, vd, rfl, rB, fB, gB⟩; clear _tk tB; have hz6 := gB.blk hz5 (fun h => h); have HLT := Lib.hid (lt_of_blk hz5); obtain ⟨y0, y1, y2, y3⟩ := four_cells hz6; obtain ⟨k0, k1, k2, k3⟩ := four_frz hz6; have HZ6 := Lib.hid hz6; clear hz6; have q4_ := gB.keepc q0_; have q5_ := gB.keepc q1_; have q6_ := gB.keepc q2_; have q7_ := gB.keepc q3_; have m4_ := World.new_ne wB _ q4_; have m5_ := World.new_ne wB _ q5_; have m6_ := World.new_ne wB _ q6_; have m7_ := World.new_ne wB _ q7_)
          | (go_at_call 28; have _tk := tB; refine (KN1.out wA va vc fA rA).mono ?_; rintro e wB ⟨vb, vd, rfl, rB, fB, gB⟩; clear _tk tB; have q4_ := gB.keepc q0_; have q5_ := gB.keepc q1_; have q6_ := gB.keepc q2_; have q7_ := gB.keepc q3_; have m4_ := World.new_ne wB _ q4_; have m5_ := World.new_ne wB _ q5_; have m6_ := World.new_ne wB _ q6_; have m7_ := World.new_ne wB _ q7_)
          | (go_at_call 28; have _tk := tB; refine (KN1.out (wA.alloc (.cells #[.int .i64 0, .int .i64 0, .int .i64 0, .slice none 0 0] 24 (0, 0))) va vc (fA.alloc _) (rA.kept ((Fr.refl no _).alloc _))).mono ?_; rintro e wB ⟨vb, vd, rfl, rB, fB, gB⟩; clear _tk tB; have hz6 := gB.blk (heap_alloc_new wA (.cells #[.int .i64 0, .int .i64 0, .int .i64 0, .slice none 0 0] 24 (0, 0))) (fun h => h); obtain ⟨y0, y1, y2, y3⟩ := four_cells hz6; obtain ⟨k0, k1, k2, k3⟩ := four_frz hz6; have HZ6 := Lib.hid hz6; clear hz6; have q4_ := gB.keepc (cell_alloc _ q0_); have q5_ := gB.keepc (cell_alloc _ q1_); have q6_ := gB.keepc (cell_alloc _ q2_); have q7_ := gB.keepc (cell_alloc _ q3_); have m4_ := World.new_ne wB _ q4_; have m5_ := World.new_ne wB _ q5_; have m6_ := World.new_ne wB _ q6_; have m7_ := World.new_ne wB _ q7_))
      all_goals go_wp2_with fail
      all_goals go_meet
      · exact ⟨_, vb, vd, rfl, rfl, heap_alloc_new wB _, (row_ints rB).kept ((Fr.refl no _).alloc _), row_cap rB, fB.alloc _⟩
      · exact ⟨_, vb, vd, rfl, rfl, set_four HZ6.out _ _ _ _, set_row rB (by simp) _ _ _ _, row_cap rB, set_four_fr fB fA.size _ _ _ _⟩
      · exact ⟨_, vb, vd, rfl, rfl, set_four HZ6.out _ _ _ _, set_row rB HLT.out _ _ _ _, row_cap rB, set_four_fr fB (Nat.le_refl _) _ _ _ _⟩
    case rest =>
    obtain ⟨c, va, vc, rfl, rfl, hb, hi, hcap, hf⟩ := hcut
    have HCAP := Lib.hid hcap
    clear hcap
    have F2 := Lib.hid (F1.out.noTrans hf)
    have FF := Lib.hid (HF.out.noTrans F2.out)
    have HB := Lib.hid hb
    have HI := Lib.hid hi
    have HH := Lib.hid (hf.blk H11.out (fun h => h))
    clear hb hi hf c0 c1 c2 c3
    cases hnb : nxB v f u zs t zs
    · have hE : E = 1 := by rw [HNB.out, hnb]; rfl
      have hX : x = ⟨0, 0, 0, []⟩ := by rw [HNV.out, hnb]; rfl
      subst hE hX
      obtain ⟨b0, b1, b2, b3⟩ := four_cells HB.out
      clear hnb
      go_wp2_with fail
      go_ret
      exact ⟨by simp, FF.out⟩
    · have hE : E = 0 := by rw [HNB.out, hnb]; rfl
      have hX : x = ⟨(v + 1) % 256, u, t, zs⟩ := by rw [HNV.out, hnb]; rfl
      obtain ⟨v0, v1⟩ := HVR.out hnb
      have HC2 := HC2.out hnb
      obtain ⟨r1, r2⟩ := next_newer v0 v1
      have KA := fun w => newer_any ((v + 1) % 256) v w
      have KB := fun w => newer_any v ((v + 1) % 256) w
      rw [r1] at KA
      rw [r2] at KB
      subst hE hX
      dsimp only at HB HI
      clear hnb v0 v1 r1 r2
      generalize (v + 1) % 256 = n at *
      replace HC2 := Lib.hid HC2
      replace KA := Lib.hid KA
      replace KB := Lib.hid KB
      have KC := Lib.hid (fun ao y h => checkAll_any ao 2 2 [⟨v, f, u, zs⟩, ⟨n, u, t, zs⟩] y h (by omega) (fun i hi => by
        have := H20.out
        have := HLN.out
        match i, hi with
        | 0, _ => show zs.length ≤ 100; omega
        | 1, _ => show zs.length ≤ 100; omega))
      simp only [HC2.out] at KC
      have HZ2 := Lib.hid (HZ.out.kept F2.out)
      rw [← HLN.out] at HB HI
      obtain ⟨b0, b1, b2, b3⟩ := four_cells HB.out
      obtain ⟨c0, c1, c2, c3⟩ := four_cells HH.out
      go_wp2_with fail
      refine (KA.out _).mono ?_
      rintro e w2 ⟨rfl, rfl⟩
      go_wp2_with fail
      refine (KB.out _).mono ?_
      rintro e w2 ⟨rfl, rfl⟩
      go_wp2_with fail
      have hv := hvs_two w2 v f u ca ck zs n u t va vc zs ln ln HLN.out HLN.out HZ2.out HI.out (by have := HKK0.out; have := HLN.out; omega) (by have := HCAP.out; have := HLN.out; omega)
      refine (KC.out _ _ hv).mono ?_
      rintro e w4 ⟨rfl, f4⟩
      have FE := Lib.hid ((FF.out.alloc _).noTrans f4)
      replace b2 := f4.keepc (cell_alloc (.cells #[.int .i64 v, .int .i64 f, .int .i64 u, .slice ca ln ck, .int .i64 n, .int .i64 u, .int .i64 t, .slice va ln vc] 24 (0, 0)) b2)
      clear hv f4 c0 c1 c2 c3 b0 b1 b3
      go_wp2_with fail
      go_ret
      exact ⟨by simp, FE.out⟩
  · have hnI : (20 : Int) < (ln : Int) := by omega
    clear hz hF h1 h2 hW hk hln h20 HZ
    go_enter Try.func10, Try.ntmps10
    go_wp2_with fail
    rw [← HW.out]
    refine (awake_any W).mono ?_
    rintro e w0 ⟨rfl, f0⟩
    obtain ⟨c0, c1, c2, c3⟩ := four_cells (f0.blk H1.out (fun h => h))
    have F0 := Lib.hid (HF.out.noTrans f0)
    clear f0
    go_wp2_with fail
    go_ret
    exact ⟨rfl, F0.out⟩

end Go.Proofs.Ytpaoacdgmfaolaa
