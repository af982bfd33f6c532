/- Stays. -/
import Derived.Test.YtpaoacdgmfaolaaAwk
import Derived.Test.YtpaoacdgmfaolaaWia
import Derived.Deep.RegionHeld3
import Derived.Deep.RegionWith
import Derived.Deep.DeepCutAuto
namespace Go.Proofs.Ytpaoacdgmfaolaa
set_option linter.unusedVariables false
open Go.RowKit


theorem three_cellsI {w : World} {B T : Nat} {a b c : Value} (h : w.heap[B]? = some (.cells #[a, b, c] T (0, 0))) :
    w.cell? ⟨B, 0, none⟩ = some a ∧ w.cell? ⟨B, 1, none⟩ = some b ∧ w.cell? ⟨B, 2, none⟩ = some c := by simp [World.cell?, h]
/-- Of the first i, how many a condition holds of. -/
def cnt (p : Int → Bool) (zs : List Int) (i : Nat) : Nat := ((zs.take i).filter p).length
theorem cnt_succ (p : Int → Bool) (zs : List Int) (i : Nat) (hi : i < zs.length) : cnt p zs (i + 1) = cnt p zs i + if p (zs.getD i 0) then 1 else 0 := by
  unfold cnt
  rw [take_snoc zs i hi, List.filter_append, List.length_append]
  congr 1
  generalize zs.getD i 0 = c
  cases h : p c <;> simp [h]
theorem cnt_le (p : Int → Bool) (zs : List Int) (i : Nat) : cnt p zs i ≤ (zs.filter p).length := by
  unfold cnt
  conv => rhs; rw [← List.take_append_drop i zs]
  rw [List.filter_append, List.length_append]
  omega
theorem cnt_all (p : Int → Bool) (zs : List Int) : cnt p zs zs.length = (zs.filter p).length := by simp [cnt]
/-- The next one of those that stay is this one just if it stays. -/
theorem next_stays {p : Int → Bool} {zs : List Int} (hn : zs.Nodup) {i : Nat} (hi : i < zs.length) : (cnt p zs i < (zs.filter p).length ∧ (zs.filter p).getD (cnt p zs i) 0 = zs.getD i 0) ↔ p (zs.getD i 0) = true := by
  have hs : zs = zs.take i ++ zs.getD i 0 :: zs.drop (i + 1) := by
    conv => lhs; rw [← List.take_append_drop i zs]
    rw [List.drop_eq_getElem_cons hi]
    simp [List.getD_eq_getElem?_getD, List.getElem?_eq_getElem hi]
  have hf : zs.filter p = (zs.take i).filter p ++ (zs.getD i 0 :: zs.drop (i + 1)).filter p := by
    conv => lhs; rw [hs]
    rw [List.filter_append]
  have hnc : zs.getD i 0 ∉ zs.drop (i + 1) := by
    rw [hs, List.nodup_append] at hn
    exact (List.nodup_cons.1 hn.2.1).1
  unfold cnt
  rw [hf]
  generalize zs.getD i 0 = c at *
  generalize zs.drop (i + 1) = r at *
  generalize (zs.take i).filter p = l at *
  rw [List.length_append, List.getD_eq_getElem?_getD, List.getElem?_append_right (Nat.le_refl _), Nat.sub_self]
  constructor
  · rintro ⟨h1, h2⟩
    cases hp : p c
    · exfalso
      rw [List.filter_cons_of_neg (by simp [hp])] at h1 h2
      obtain ⟨d, t, e⟩ : ∃ d t, r.filter p = d :: t := by
        cases q : r.filter p with
        | nil => rw [q] at h1; simp at h1
        | cons d t => exact ⟨d, t, rfl⟩
      rw [e] at h2
      simp at h2
      have : d ∈ r.filter p := by rw [e]; simp
      rw [h2] at this
      exact hnc (List.mem_filter.1 this).1
    · rfl
  · intro hp
    rw [List.filter_cons_of_pos hp]
    simp
def gdP (bl : List Int) : Int → Bool := fun c => !hasZ bl c
def wiP (chs bl : List Int) (least : Int) : Int → Bool := fun c => !hasZ bl c || hasZ (wiK chs bl least) c
set_option maxRecDepth 20000 in
set_option maxHeartbeats 16000000 in
theorem stays_all (xa : Option Addr) (xl xc : Nat) (chs : List Int) (ya : Option Addr) (yl yc : Nat) (bl : List Int) (least : Int) (w : World) (hx : IntsIn w xa xl chs) (hy : IntsIn w ya yl bl) :
    Calls Try.prog 9 #[.agg #[.slice xa xl xc, .slice ya yl yc, .int .i64 least]] w fun e w' => e = .returned (.bool true) ∧ Fr no w w' := by
  obtain ⟨W, hW⟩ : ∃ W, W = w.alloc (.cells #[.slice xa xl xc, .slice ya yl yc, .int .i64 least] 43 (0, 0)) := ⟨_, rfl⟩
  have hF : Fr no w W := by rw [hW]; exact (Fr.refl no w).alloc _
  have h1 : W.heap[w.heap.size]? = some (.cells #[.slice xa xl xc, .slice ya yl yc, .int .i64 least] 43 (0, 0)) := by rw [hW]; exact heap_alloc_new w _
  have HF := Lib.hid hF
  have HW := Lib.hid hW
  have H1 := Lib.hid h1
  have HX := Lib.hid (hx.kept hF)
  have HY := Lib.hid (hy.kept hF)
  by_cases h20 : xl ≤ 20
  · have hnI : ¬ ((20 : Int) < (xl : Int)) := by omega
    have hnD : decide ((20 : Int) < (xl : Int)) = false := decide_eq_false hnI
    by_cases h64 : yl ≤ 64
    · have hnJ : ¬ ((64 : Int) < (yl : Int)) := by omega
      have hnE : decide ((64 : Int) < (yl : Int)) = false := decide_eq_false hnJ
      have H20 := Lib.hid h20
      have H64 := Lib.hid h64
      have HXL := Lib.hid hx.1
      have HYL := Lib.hid hy.1
      have HWV := Lib.hid (show wiV chs bl least = if wiE chs bl least = 0 then wiL chs bl least else [] from rfl)
      have HWL := Lib.hid (fun h : wiE chs bl least = 0 => wi_len h)
      have HNO := Lib.hid (show wiE chs bl least = 0 → chs.Nodup from fun h => by
        cases q : chB chs
        · simp [wiE, q] at h
        · exact (chB_t q).2.2.1)
      clear hx hy hF h1 hW h20 h64
      go_enter Try.func9, Try.ntmps9
      go_wp2_with fail
      rw [← HW.out]
      refine (awake_any W).mono ?_
      rintro e w0 ⟨rfl, f0⟩
      obtain ⟨c0, c1, c2⟩ := three_cellsI (f0.blk H1.out (fun h => h))
      have F0 := Lib.hid f0
      have HX0 := Lib.hid (HX.out.kept f0)
      have HY0 := Lib.hid (HY.out.kept f0)
      clear f0
      go_upto_region 5 with fail
      clear hnI hnD hnJ hnE
      go_cut [3, 4] (fun s3 s4 wx => s4 = .int .i64 (wiE chs bl least) ∧ RowI w0.heap.size wx s3 (wiV chs bl least) ∧ Fr no w0 wx)
      case first =>
        have KX := Lib.hid (show ∀ x, Fr no w0 x → Calls Try.prog 26 #[.slice xa xl xc] x (fun e x' => ∃ va vc, e = .returned (.slice va xl vc) ∧ RowI w0.heap.size x' (.slice va xl vc) chs ∧ Fr no w0 x' ∧ Fr no x x') from fun x hf => (cloneI_any xa xl xc chs x (HX0.out.kept hf) (by have := H20.out; omega)).mono (by
          rintro e x' ⟨v, rfl, h1, h2⟩
          obtain ⟨va, vc, rfl, -, -⟩ := rowI_ints h1
          rw [HXL.out] at h1 ⊢
          exact ⟨va, vc, rfl, h1.mono hf.size, hf.noTrans h2, h2⟩))
        have KY := Lib.hid (show ∀ x, Fr no w0 x → Calls Try.prog 26 #[.slice ya yl yc] x (fun e x' => ∃ va vc, e = .returned (.slice va yl vc) ∧ RowI w0.heap.size x' (.slice va yl vc) bl ∧ Fr no w0 x' ∧ Fr no x x') from fun x hf => (cloneI_any ya yl yc bl x (HY0.out.kept hf) (by have := H64.out; omega)).mono (by
          rintro e x' ⟨v, rfl, h1, h2⟩
          obtain ⟨va, vc, rfl, -, -⟩ := rowI_ints h1
          rw [HYL.out] at h1 ⊢
          exact ⟨va, vc, rfl, h1.mono hf.size, hf.noTrans h2, h2⟩))
        have KW := Lib.hid (show ∀ x va vc vb vd, Fr no w0 x → RowI w0.heap.size x (.slice va xl vc) chs → RowI w0.heap.size x (.slice vb yl vd) bl → Calls Try.prog 25 #[.slice va xl vc, .slice vb yl vd, .int .i64 least] x (fun e x' => ∃ v, e = .returned (.tuple #[v, .int .i64 (wiE chs bl least)]) ∧ RowI w0.heap.size x' v (wiV chs bl least) ∧ Fr no w0 x') from fun x va vc vb vd hf hr hs => by
          obtain ⟨a1, a2, e1, -, i1⟩ := rowI_ints hr
          obtain ⟨b1, b2, e2, -, i2⟩ := rowI_ints hs
          rw [HXL.out] at e1 i1
          rw [HYL.out] at e2 i2
          cases e1
          cases e2
          refine (witho_any va xl vc chs vb yl vd bl least x i1 i2 (by have := H20.out; omega) (by have := H64.out; omega)).mono ?_
          rintro e x' ⟨v, rfl, h1, h2⟩
          exact ⟨v, rfl, h1.mono hf.size, hf.noTrans h2⟩)
        generalize wiE chs bl least = E at *
        generalize wiV chs bl least = V at *
        go_region_held3 (fun w' => w'.cell? ⟨w.heap.size, 0, none⟩ = some (.slice xa xl xc) ∧ w'.cell? ⟨w.heap.size, 1, none⟩ = some (.slice ya yl yc) ∧ w'.cell? ⟨w.heap.size, 2, none⟩ = some (.int .i64 least)) (go_keep)
          (first
            | (go_at_call_of 26 xa; refine (KX.out _ ?hf).mono ?_; (case hf => first | assumption | exact (Fr.refl no w0).drewN _ | exact (Fr.refl no w0).drew); rintro e wA ⟨va, vc, rfl, rA, fA, gA⟩; have q0_ := fA.keepc c0; have q1_ := fA.keepc c1; have q2_ := fA.keepc c2; try (have rB2 := rB.kept gA))
            | (go_at_call_of 26 ya; refine (KY.out _ ?hf).mono ?_; (case hf => first | assumption | exact (Fr.refl no w0).drewN _ | exact (Fr.refl no w0).drew); rintro e wB ⟨vb, vd, rfl, rB, fB, gB⟩; have q3_ := fB.keepc c0; have q4_ := fB.keepc c1; have q5_ := fB.keepc c2; try (have rA2 := rA.kept gB))
            | (go_at_call 25; refine (KW.out _ _ _ _ _ ?hf ?hr ?hs).mono ?_; (case hf => assumption); (case hr => first | exact rA2 | exact rA); (case hs => first | exact rB2 | exact rB); rintro e wC ⟨v, rfl, rC, fC⟩; have q6_ := fC.keepc c0; have q7_ := fC.keepc c1; have q8_ := fC.keepc c2))
        all_goals go_wp2_with fail
        all_goals go_meet
        all_goals exact ⟨rfl, rC, fC⟩
      case rest =>
        obtain ⟨rfl, hR, hf⟩ := hcut
        have F1 := Lib.hid (F0.out.noTrans hf)
        have HX1 := Lib.hid (HX.out.kept F1.out)
        have HY1 := Lib.hid (HY.out.kept F1.out)
        clear c0 c1 c2
        obtain ⟨c0, c1, c2⟩ := three_cellsI (F1.out.blk H1.out (fun h => h))
        obtain ⟨la, lc, rfl, -, hl⟩ := rowI_ints hR
        have HLI := Lib.hid hl
        clear hR hl hf
        by_cases hE : wiE chs bl least = 0
        · have HL := Lib.hid (show wiV chs bl least = chs.filter (wiP chs bl least) by rw [HWV.out, if_pos hE]; rfl)
          have HLN := HWL.out hE
          rw [show wiL chs bl least = chs.filter (wiP chs bl least) from rfl, show gdL chs bl = chs.filter (gdP bl) from rfl] at HLN
          rw [HL.out] at HLI ⊢
          rw [hE]
          have HNX := Lib.hid (fun i hi => next_stays (p := wiP chs bl least) (HNO.out hE) (i := i) hi)
          have HCS := Lib.hid (fun i hi => cnt_succ (wiP chs bl least) chs i hi)
          have HGS := Lib.hid (fun i hi => cnt_succ (gdP bl) chs i hi)
          have HCL := Lib.hid (fun i => cnt_le (wiP chs bl least) chs i)
          have HCA := Lib.hid (cnt_all (wiP chs bl least) chs)
          have HGA := Lib.hid (cnt_all (gdP bl) chs)
          have HLB := Lib.hid (show (chs.filter (wiP chs bl least)).length ≤ 20 from Nat.le_trans (List.length_filter_le _ _) (by have := HXL.out; have := H20.out; omega))
          have HPQ := Lib.hid (show ∀ c, wiP chs bl least c = false → hasZ bl c = true from fun c h => by
            unfold wiP at h
            cases q : hasZ bl c
            · rw [q] at h; simp at h
            · rfl)
          have HGL := Lib.hid (show ∀ i, cnt (gdP bl) chs i ≤ 20 from fun i => Nat.le_trans (List.length_filter_le _ _) (by have := HXL.out; have := H20.out; simp; omega))
          generalize chs.filter (wiP chs bl least) = L at *
          obtain ⟨ll, hll⟩ : ∃ ll, ll = L.length := ⟨_, rfl⟩
          rw [← hll] at HLI HCA HLN HLB ⊢
          simp only [← hll] at HNX HCL
          replace HLN := Lib.hid HLN
          have HLL := Lib.hid hll
          have HPD := Lib.hid (show ∀ c, gdP bl c = !hasZ bl c from fun c => rfl)
          generalize wiP chs bl least = P at *
          clear hE hll HWL HNO HWV HL
          go_wp2_with fail
          obtain ⟨w9, hw9⟩ : ∃ w9, w9 = wc := ⟨_, rfl⟩
          go_loopw [5, 6, 8, 41] (fun v5 v6 _ i wr => ∃ k : Nat, k ≤ xl ∧ i = .int .i64 k ∧ v5 = .int .i64 (cnt P chs k) ∧ v6 = .int .i64 (cnt (gdP bl) chs k) ∧ wr = w9) (fun _ _ _ i _ => xl - (intOf i).toNat)
          case atStart => exact ⟨0, Nat.zero_le _, rfl, by simp [cnt], by simp [cnt], hw9.symm⟩
          case round =>
            obtain ⟨k, hk, rfl, rfl, rfl, rfl⟩ := hrel
            subst hw9
            by_cases hlt : k < xl
            · obtain ⟨b, off, rfl, e0⟩ := HX1.out.2 k hlt
              have hkI : (k : Int) ≤ 19 := by have := H20.out; omega
              have HN := HNX.out k (by have := HXL.out; omega)
              have HC1 := Lib.hid (HCS.out k (by have := HXL.out; omega))
              have HG1 := Lib.hid (HGS.out k (by have := HXL.out; omega))
              have hcl := HCL.out k
              have hcb : (cnt P chs k : Int) ≤ 20 := by have := HLB.out; omega
              have hgb : (cnt (gdP bl) chs k : Int) ≤ 20 := by have := HGL.out k; omega
              have KB := fun z w h => contains_any ya yl yc bl z w h (by have := H64.out; omega)
              generalize chs.getD k 0 = c at *
              have KB := KB c
              have HPQc := HPQ.out c
              rw [HPD.out c] at HG1
              generalize hq : hasZ bl c = q at *
              have KB := Lib.hid KB
              obtain ⟨n, hn⟩ : ∃ n, n = cnt P chs k := ⟨_, rfl⟩
              obtain ⟨g, hg⟩ : ∃ g, g = cnt (gdP bl) chs k := ⟨_, rfl⟩
              rw [← hn] at HN HC1 hcl hcb ⊢
              rw [← hg] at HG1 hgb ⊢
              clear hn hg hq
              cases hp : P c
              · have hq : q = true := HPQc hp
                subst hq
                rw [hp] at HC1
                have HC1 := Lib.hid (show cnt P chs (k + 1) = n by rw [HC1.out]; rfl)
                have HG1 := Lib.hid (show cnt (gdP bl) chs (k + 1) = g by rw [HG1.out]; rfl)
                have hnx : ¬ (n < ll ∧ L.getD n 0 = c) := fun h => by rw [HN.1 h] at hp; cases hp
                clear HN hp HPQc
                by_cases hnl : n < ll
                · obtain ⟨b2, off2, rfl, e1⟩ := HLI.out.2 n hnl
                  have hne : ¬ (L.getD n 0 = c) := fun h => hnx ⟨hnl, h⟩
                  have hnlI : (n : Int) < (ll : Int) := by omega
                  have hnlD : decide ((n : Int) < (ll : Int)) = true := decide_eq_true hnlI
                  generalize L.getD n 0 = d at *
                  have hnd : (d == c) = false := by simpa using hne
                  clear hnx
                  go_wp2_with fail
                  refine (KB.out _ HY1.out).mono ?_
                  rintro e w3 ⟨rfl, rfl⟩
                  go_wp2_with fail
                  refine (KB.out _ HY1.out).mono ?_
                  rintro e w4 ⟨rfl, rfl⟩
                  go_wp2_with fail
                  go_roundw
                  case rel => exact ⟨k + 1, by omega, by go_num, by rw [HC1.out], by rw [HG1.out], by simp⟩
                  case measure => simp [intOf]; omega
                · have hnlI : ¬ ((n : Int) < (ll : Int)) := by omega
                  have hnlD : decide ((n : Int) < (ll : Int)) = false := decide_eq_false hnlI
                  clear hnx
                  go_wp2_with fail
                  refine (KB.out _ HY1.out).mono ?_
                  rintro e w3 ⟨rfl, rfl⟩
                  go_wp2_with fail
                  refine (KB.out _ HY1.out).mono ?_
                  rintro e w4 ⟨rfl, rfl⟩
                  go_wp2_with fail
                  go_roundw
                  case rel => exact ⟨k + 1, by omega, by go_num, by rw [HC1.out], by rw [HG1.out], by simp⟩
                  case measure => simp [intOf]; omega
              · obtain ⟨hnl, hLc⟩ := HN.2 hp
                rw [hp] at HC1
                have HC1 := Lib.hid (show cnt P chs (k + 1) = n + 1 by rw [HC1.out]; rfl)
                obtain ⟨b2, off2, rfl, e1⟩ := HLI.out.2 n hnl
                rw [hLc] at e1
                have hnlI : (n : Int) < (ll : Int) := by omega
                have hnlD : decide ((n : Int) < (ll : Int)) = true := decide_eq_true hnlI
                clear HN hp HPQc hLc
                cases q
                · have HG1 := Lib.hid (show cnt (gdP bl) chs (k + 1) = g + 1 by rw [HG1.out]; rfl)
                  go_wp2_with fail
                  refine (KB.out _ HY1.out).mono ?_
                  rintro e w3 ⟨rfl, rfl⟩
                  go_wp2_with fail
                  go_roundw
                  case rel => exact ⟨k + 1, by omega, by go_num, by rw [HC1.out]; go_num, by rw [HG1.out]; go_num, by simp⟩
                  case measure => simp [intOf]; omega
                · have HG1 := Lib.hid (show cnt (gdP bl) chs (k + 1) = g by rw [HG1.out]; rfl)
                  go_wp2_with fail
                  refine (KB.out _ HY1.out).mono ?_
                  rintro e w3 ⟨rfl, rfl⟩
                  go_wp2_with fail
                  go_roundw
                  case rel => exact ⟨k + 1, by omega, by go_num, by rw [HC1.out]; go_num, by rw [HG1.out], by simp⟩
                  case measure => simp [intOf]; omega
            · have e1 : cnt P chs k = ll := by rw [show k = chs.length by have := HXL.out; omega]; exact HCA.out
              have e2 : cnt (gdP bl) chs k = (chs.filter (gdP bl)).length := by rw [show k = chs.length by have := HXL.out; omega]; exact HGA.out
              have HLN2 := HLN.out
              rw [← e2] at HLN2
              rw [e1]
              clear e1 e2
              generalize cnt (gdP bl) chs k = g at *
              have hm : (if (g : Int) < least then least else (g : Int)) = (ll : Int) := by rw [HLN2]; split <;> omega
              have hm2 : (if least > (g : Int) then least else (g : Int)) = (ll : Int) := hm
              have FF := Lib.hid (HF.out.noTrans F1.out)
              clear HLN2
              go_wp2_with fail
              go_ret
              exact ⟨by first | rfl | (simp; done), FF.out⟩
        · have HE1 := Lib.hid (show wiV chs bl least = [] by rw [HWV.out, if_neg hE])
          rw [HE1.out]
          have FF := Lib.hid (HF.out.noTrans F1.out)
          generalize wiE chs bl least = E at *
          have hE1 : (E == 0) = false := by simpa using hE
          have hE2 : decide (E = 0) = false := by simpa using hE
          clear c0 c1 c2
          go_wp2_with fail
          go_ret
          exact ⟨by simp, FF.out⟩
    · have hnJ : (64 : Int) < (yl : Int) := by omega
      clear hx hy hF h1 hW h20 h64
      go_enter Try.func9, Try.ntmps9
      go_wp2_with fail
      rw [← HW.out]
      refine (awake_any W).mono ?_
      rintro e w0 ⟨rfl, f0⟩
      obtain ⟨c0, c1, c2⟩ := three_cellsI (f0.blk H1.out (fun h => h))
      have F0 := Lib.hid (HF.out.noTrans f0)
      clear f0
      go_wp2_with fail
      go_ret
      exact ⟨rfl, F0.out⟩
  · have hnI : (20 : Int) < (xl : Int) := by omega
    clear hx hy hF h1 hW h20
    go_enter Try.func9, Try.ntmps9
    go_wp2_with fail
    rw [← HW.out]
    refine (awake_any W).mono ?_
    rintro e w0 ⟨rfl, f0⟩
    obtain ⟨c0, c1, c2⟩ := three_cellsI (f0.blk H1.out (fun h => h))
    have F0 := Lib.hid (HF.out.noTrans f0)
    clear f0
    go_wp2_with fail
    go_ret
    exact ⟨rfl, F0.out⟩

end Go.Proofs.Ytpaoacdgmfaolaa
