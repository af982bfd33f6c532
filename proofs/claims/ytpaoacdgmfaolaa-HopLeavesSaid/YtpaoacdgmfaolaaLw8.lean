/- Leaves. -/
import Derived.Test.YtpaoacdgmfaolaaLw5
import Derived.Test.YtpaoacdgmfaolaaLw4
import Derived.Test.YtpaoacdgmfaolaaSam
import Derived.Test.YtpaoacdgmfaolaaWiS
import Derived.Test.YtpaoacdgmfaolaaNxS
import Derived.Deep.RegionHeld3
import Derived.Deep.RegionWith
import Derived.Deep.DeepCutAuto
namespace Go.Proofs.Ytpaoacdgmfaolaa
set_option linter.unusedVariables false
open Go.RowKit


theorem eqZ_refl (l : List Int) : eqZ l l = true := by simp [eqZ]
set_option maxRecDepth 20000 in
set_option maxHeartbeats 32000000 in
theorem leaves_all (v f u : Int) (ca : Option Addr) (ck : Nat) (zs : List Int) (xa : Option Addr) (xl xc : Nat) (chs : List Int) (ya : Option Addr) (yl yc : Nat) (bl : List Int) (least t : Int) (w : World) (hz : IntsIn w ca zs.length zs) (hk : zs.length ≤ ck) (hx : IntsIn w xa xl chs) (hxc : xl ≤ xc) (hy : IntsIn w ya yl bl) (hyc : yl ≤ yc) :
    Calls Try.prog 5 #[.agg #[.int .i64 v, .int .i64 f, .int .i64 u, .slice ca zs.length ck], .agg #[.slice xa xl xc, .slice ya yl yc, .int .i64 least], .int .i64 t] w fun e w' => e = .returned (.bool true) ∧ Fr no w w' := by
  obtain ⟨W, hW⟩ : ∃ W, W = (w.alloc (.cells #[.int .i64 v, .int .i64 f, .int .i64 u, .slice ca zs.length ck] 24 (0, 0))).alloc (.cells #[.slice xa xl xc, .slice ya yl yc, .int .i64 least] 43 (0, 0)) := ⟨_, rfl⟩
  have hF : Fr no w W := by rw [hW]; exact ((Fr.refl no w).alloc _).alloc _
  have h1 : W.heap[w.heap.size]? = some (.cells #[.int .i64 v, .int .i64 f, .int .i64 u, .slice ca zs.length ck] 24 (0, 0)) := by rw [hW]; exact alloc_keeps (heap_alloc_new w _) _
  have h2 : W.heap[w.heap.size + 1]? = some (.cells #[.slice xa xl xc, .slice ya yl yc, .int .i64 least] 43 (0, 0)) := by rw [hW]; simpa using heap_alloc_new (w.alloc (.cells #[.int .i64 v, .int .i64 f, .int .i64 u, .slice ca zs.length ck] 24 (0, 0))) (.cells #[.slice xa xl xc, .slice ya yl yc, .int .i64 least] 43 (0, 0))
  have HF := Lib.hid hF
  have HW := Lib.hid hW
  have H1 := Lib.hid h1
  have H2 := Lib.hid h2
  have HZ := Lib.hid (hz.kept hF)
  have HX := Lib.hid (hx.kept hF)
  have HY := Lib.hid (hy.kept hF)
  have HXL := Lib.hid hx.1
  have HYL := Lib.hid hy.1
  have HK := Lib.hid (And.intro hk (And.intro hxc hyc))
  obtain ⟨ln, hln⟩ : ∃ ln, ln = zs.length := ⟨_, rfl⟩
  have HLN := Lib.hid hln
  rw [← hln] at H1 HW ⊢
  by_cases h20 : ln ≤ 20
  · have hnI : ¬ ((20 : Int) < (ln : Int)) := by omega
    have hnD : decide ((20 : Int) < (ln : Int)) = false := decide_eq_false hnI
    by_cases hx20 : xl ≤ 20
    · have hxI : ¬ ((20 : Int) < (xl : Int)) := by omega
      have hxD : decide ((20 : Int) < (xl : Int)) = false := decide_eq_false hxI
      by_cases hy70 : yl ≤ 70
      · have hyI : ¬ ((70 : Int) < (yl : Int)) := by omega
        have hyD : decide ((70 : Int) < (yl : Int)) = false := decide_eq_false hyI
        have HBD := Lib.hid (And.intro h20 (And.intro hx20 hy70))
        have HZ' := Lib.hid (show IntsIn W ca ln zs by rw [hln]; exact HZ.out)
        clear hz hx hy hF h1 h2 hW hk hxc hyc h20 hx20 hy70 hln
        go_enter Try.func5, Try.ntmps5
        go_wp2_with fail
        rw [← HW.out]
        refine (awake_any W).mono ?_
        rintro e w0 ⟨rfl, f0⟩
        obtain ⟨c0, c1, c2, c3⟩ := four_cells (f0.blk H1.out (fun h => h))
        obtain ⟨d0, d1, d2⟩ := three_cellsI (f0.blk H2.out (fun h => h))
        have F0 := Lib.hid f0
        have HX0 := Lib.hid (HX.out.kept f0)
        have HY0 := Lib.hid (HY.out.kept f0)
        clear f0
        go_upto_region 5 with fail
        clear hnI hnD hxI hxD hyI hyD
        go_cut [7, 8] (fun s7 s8 wx => s8 = .int .i64 (wiE chs bl least) ∧ RowI w0.heap.size wx s7 (wiV chs bl least) ∧ Fr no w0 wx)
        case first =>
          have KX := Lib.hid (show ∀ x, Fr no w0 x → Calls Try.prog 26 #[.slice xa xl xc] x (fun e x' => ∃ va vc, e = .returned (.slice va xl vc) ∧ RowI w0.heap.size x' (.slice va xl vc) chs ∧ Fr no w0 x' ∧ Fr no x x') from fun x hf => (cloneI_any xa xl xc chs x (HX0.out.kept hf) (by have := HBD.out; omega)).mono (by
            rintro e x' ⟨v, rfl, h1, h2⟩
            obtain ⟨va, vc, rfl, -, -⟩ := rowI_ints h1
            rw [HXL.out] at h1 ⊢
            exact ⟨va, vc, rfl, h1.mono hf.size, hf.noTrans h2, h2⟩))
          have KY := Lib.hid (show ∀ x, Fr no w0 x → Calls Try.prog 26 #[.slice ya yl yc] x (fun e x' => ∃ va vc, e = .returned (.slice va yl vc) ∧ RowI w0.heap.size x' (.slice va yl vc) bl ∧ Fr no w0 x' ∧ Fr no x x') from fun x hf => (cloneI_any ya yl yc bl x (HY0.out.kept hf) (by have := HBD.out; omega)).mono (by
            rintro e x' ⟨v, rfl, h1, h2⟩
            obtain ⟨va, vc, rfl, -, -⟩ := rowI_ints h1
            rw [HYL.out] at h1 ⊢
            exact ⟨va, vc, rfl, h1.mono hf.size, hf.noTrans h2, h2⟩))
          have KW := Lib.hid (show ∀ x va vc vb vd, Fr no w0 x → RowI w0.heap.size x (.slice va xl vc) chs → RowI w0.heap.size x (.slice vb yl vd) bl → Calls Try.prog 25 #[.slice va xl vc, .slice vb yl vd, .int .i64 least] x (fun e x' => ∃ v, e = .returned (.tuple #[v, .int .i64 (wiE chs bl least)]) ∧ RowI w0.heap.size x' v (wiV chs bl least) ∧ Fr no w0 x') from fun x va vc vb vd hf hr hs => by
            obtain ⟨a1, a2, e1, -, i1⟩ := rowI_ints hr
            obtain ⟨b1, b2, e2, -, i2⟩ := rowI_ints hs
            rw [HXL.out] at e1 i1
            rw [HYL.out] at e2 i2
            cases e1
            cases e2
            refine (witho_any va xl vc chs vb yl vd bl least x i1 i2 (by have := HBD.out; omega) (by have := HBD.out; omega)).mono ?_
            rintro e x' ⟨v, rfl, h1, h2⟩
            exact ⟨v, rfl, h1.mono hf.size, hf.noTrans h2⟩)
          generalize wiE chs bl least = E at *
          generalize wiV chs bl least = V at *
          clear c0 c1 c2 c3
          go_region_held3 (fun w' => w'.cell? ⟨w.heap.size + 1, 0, none⟩ = some (.slice xa xl xc) ∧ w'.cell? ⟨w.heap.size + 1, 1, none⟩ = some (.slice ya yl yc) ∧ w'.cell? ⟨w.heap.size + 1, 2, none⟩ = some (.int .i64 least)) (go_keep)
            (first
              | (go_at_call_of 26 xa; refine (KX.out _ ?hf).mono ?_; (case hf => first | assumption | exact (Fr.refl no w0).drewN _ | exact (Fr.refl no w0).drew); rintro e wA ⟨va, vc, rfl, rA, fA, gA⟩; have q0_ := fA.keepc d0; have q1_ := fA.keepc d1; have q2_ := fA.keepc d2; try (have rB2 := rB.kept gA))
              | (go_at_call_of 26 ya; refine (KY.out _ ?hf).mono ?_; (case hf => first | assumption | exact (Fr.refl no w0).drewN _ | exact (Fr.refl no w0).drew); rintro e wB ⟨vb, vd, rfl, rB, fB, gB⟩; have q3_ := fB.keepc d0; have q4_ := fB.keepc d1; have q5_ := fB.keepc d2; try (have rA2 := rA.kept gB))
              | (go_at_call 25; refine (KW.out _ _ _ _ _ ?hf ?hr ?hs).mono ?_; (case hf => assumption); (case hr => first | exact rA2 | exact rA); (case hs => first | exact rB2 | exact rB); rintro e wC ⟨v, rfl, rC, fC⟩; have q6_ := fC.keepc d0; have q7_ := fC.keepc d1; have q8_ := fC.keepc d2))
          all_goals go_wp2_with fail
          all_goals go_meet
          all_goals exact ⟨rfl, rC, fC⟩
        case rest =>
        rename_i w5
        obtain ⟨rfl, hR, hf⟩ := hcut
        have F1 := Lib.hid (F0.out.noTrans hf)
        obtain ⟨la, lc, rfl, -, hl⟩ := rowI_ints hR
        have HLI := Lib.hid hl
        clear hR hl hf c0 c1 c2 c3 d0 d1 d2
        obtain ⟨d0, d1, d2⟩ := three_cellsI (F1.out.blk H2.out (fun h => h))
        have KV := Lib.hid (fun y h1 h2 => withoR_any xa xl xc chs ya yl yc bl least y h1 h2 HK.out.2.1 (by have := HBD.out; omega) (by have := HBD.out; omega))
        have HVL := Lib.hid (show (wiV chs bl least).length ≤ 20 by
          unfold wiV
          split
          · exact Nat.le_trans (List.length_filter_le _ _) (by have := HXL.out; have := HBD.out; omega)
          · simp)
        generalize wiV chs bl least = V at *
        generalize wiE chs bl least = E at *
        obtain ⟨vl, hvl⟩ : ∃ vl, vl = V.length := ⟨_, rfl⟩
        rw [← hvl] at HLI HVL ⊢
        have HVLE := Lib.hid hvl
        clear hvl
        go_wp2_with fail
        refine (KV.out _ (HX.out.kept F1.out) (HY.out.kept F1.out)).mono ?_
        rintro e w2 ⟨vv, rfl, hR2, f2⟩
        have F2 := Lib.hid (F1.out.noTrans f2)
        have HLI2 := Lib.hid (HLI.out.kept f2)
        obtain ⟨ma, mc, rfl, -, hm⟩ := rowI_ints hR2
        rw [← HVLE.out] at hm ⊢
        have HMI := Lib.hid hm
        clear f2 hR2 hm d0 d1 d2 KV
        obtain ⟨c0, c1, c2, c3⟩ := four_cells (F2.out.blk H1.out (fun h => h))
        obtain ⟨c4, -, -⟩ := three_cellsI (F2.out.blk H2.out (fun h => h))
        have HZ2 := Lib.hid (HZ'.out.kept F2.out)
        have HX2 := Lib.hid (HX.out.kept F2.out)
        have H12 := Lib.hid (F2.out.blk H1.out (fun h => h))
        have H22 := Lib.hid (F2.out.blk H2.out (fun h => h))
        have HLN2 := Lib.hid (show ln = zs.length from HLN.out)
        have KX1 := Lib.hid (show ∀ y, Fr no w2 y → Calls Try.prog 26 #[.slice xa xl xc] y (fun e y' => ∃ va vc, e = .returned (.slice va xl vc) ∧ IntsIn y' va xl chs ∧ Fr no w2 y' ∧ Fr no y y') from fun y hf => (cloneI_any xa xl xc chs y (HX2.out.kept hf) (by have := HBD.out; omega)).mono (by
          rintro e y' ⟨q, rfl, h1, h2⟩
          obtain ⟨va, vc, rfl, -, h3⟩ := rowI_ints h1
          rw [HXL.out] at h3 ⊢
          exact ⟨va, vc, rfl, h3, hf.noTrans h2, h2⟩))
        have KN1 := Lib.hid (show ∀ y va vc, Fr no w2 y → IntsIn y va xl chs → Calls Try.prog 28 #[.agg #[.int .i64 v, .int .i64 f, .int .i64 u, .slice ca ln ck], .int .i64 t, .slice va xl vc] y (fun e y' => ∃ vb vd, e = .returned (.tuple #[.agg #[.int .i64 (nxV v f u zs t chs).v, .int .i64 (nxV v f u zs t chs).f, .int .i64 (nxV v f u zs t chs).u, .slice vb (nxV v f u zs t chs).chs.length vd], .int .i64 (nxE v f u zs t chs)]) ∧ RowI y.heap.size y' (.slice vb (nxV v f u zs t chs).chs.length vd) (nxV v f u zs t chs).chs ∧ Fr no w2 y' ∧ Fr no y y') from fun y va vc hf hr => by
          have hz3 := HZ2.out.kept hf
          rw [HLN2.out] at hz3 ⊢
          rw [← HXL.out] at hr ⊢
          refine (next_any v f u ca ck zs t va vc chs y hz3 hr (by have := HBD.out; have := HLN2.out; omega) (by have := HBD.out; have := HXL.out; omega)).mono ?_
          rintro e y' ⟨va, vc, rfl, h1, h2⟩
          exact ⟨va, vc, rfl, h1, hf.noTrans h2, h2⟩)
        have KJ := Lib.hid (show ∀ y, Fr no w2 y → Calls Try.prog 29 #[.agg #[.int .i64 v, .int .i64 f, .int .i64 u, .slice ca ln ck], .int .i64 t, .slice xa xl xc] y (fun e y' => ∃ vb vd, e = .returned (.tuple #[.agg #[.int .i64 (nxV v f u zs t chs).v, .int .i64 (nxV v f u zs t chs).f, .int .i64 (nxV v f u zs t chs).u, .slice vb (nxV v f u zs t chs).chs.length vd], .int .i64 (nxE v f u zs t chs)]) ∧ IntsIn y' vb (nxV v f u zs t chs).chs.length (nxV v f u zs t chs).chs ∧ Fr no y y') from fun y hf => by
          have hz3 := HZ2.out.kept hf
          have hr := HX2.out.kept hf
          rw [HLN2.out] at hz3 ⊢
          rw [← HXL.out] at hr ⊢
          refine (nextR_any v f u ca ck zs t xa xc chs y hz3 hr (by have := HBD.out; have := HLN2.out; omega) (by have := HBD.out; have := HXL.out; omega) HK.out.1).mono ?_
          rintro e y' ⟨va, vc, rfl, h1, h2⟩
          obtain ⟨a1, b1, e1, -, h3⟩ := rowI_ints h1
          cases e1
          exact ⟨va, vc, rfl, h3, h2⟩)
        have HSM := Lib.hid (fun (va vb : Option Addr) (vc vd : Nat) y h1 h2 h3 => show Calls Try.prog 24 _ y _ from same_any (nxV v f u zs t chs).v (nxV v f u zs t chs).f (nxV v f u zs t chs).u va (nxV v f u zs t chs).chs.length vc (nxV v f u zs t chs).chs (nxV v f u zs t chs).v (nxV v f u zs t chs).f (nxV v f u zs t chs).u vb (nxV v f u zs t chs).chs.length vd (nxV v f u zs t chs).chs y h1 h2 h3)
        have HXB := Lib.hid (show (nxV v f u zs t chs).chs.length ≤ 100 by
          unfold nxV
          split
          · show chs.length ≤ 100; have := HXL.out; have := HBD.out; omega
          · simp)
        have HRF : ∀ x : Hv, eqH ⟨x.v, x.f, x.u, x.chs⟩ ⟨x.v, x.f, x.u, x.chs⟩ = true := fun x => eqH_refl _
        simp only [HRF] at HSM
        generalize nxE v f u zs t chs = G at *
        generalize nxV v f u zs t chs = x at *
        have KQ := Lib.hid (fun y h1 h2 => show Calls Try.prog 30 _ y _ from equal_any la vl lc V ma vl mc V y h1 h2 (by have := HVL.out; omega))
        simp only [eqZ_refl] at KQ
        clear HRF
        go_upto_region 7 with fail
        go_cut [11, 12] (fun s11 s12 wx => ∃ (c : Nat) (va : Option Addr) (vc : Nat), s11 = .pointer (some ⟨c, 0, none⟩) ∧ s12 = .int .i64 G ∧ wx.heap[c]? = some (.cells #[.int .i64 x.v, .int .i64 x.f, .int .i64 x.u, .slice va x.chs.length vc] 24 (0, 0)) ∧ IntsIn wx va x.chs.length x.chs ∧ Fr no w2 wx)
        case first =>
          have n0 := World.new_ne w2 _ c0
          have n1 := World.new_ne w2 _ c1
          have n2 := World.new_ne w2 _ c2
          have n3 := World.new_ne w2 _ c3
          have n4 := World.new_ne w2 _ c4
          have tA : True := trivial
          have tB : True := trivial
          clear H1 H2 H12 H22 KJ HSM KQ HBD HVL
          go_region_held3 (fun w' => w'.cell? ⟨w.heap.size, 0, none⟩ = some (.int .i64 v) ∧ w'.cell? ⟨w.heap.size, 1, none⟩ = some (.int .i64 f) ∧ w'.cell? ⟨w.heap.size, 2, none⟩ = some (.int .i64 u) ∧ w'.cell? ⟨w.heap.size, 3, none⟩ = some (.slice ca ln ck) ∧ w'.cell? ⟨w.heap.size + 1, 0, none⟩ = some (.slice xa xl xc)) (go_keep)
            (first
              | (go_at_call 26; have _tk := tA; refine (KX1.out (w2.drewN _) ((Fr.refl no w2).drewN _)).mono ?_; rintro e wA ⟨va, vc, rfl, rA, fA, gA⟩; clear _tk tA; have q0_ := gA.keepc c0; have q1_ := gA.keepc c1; have q2_ := gA.keepc c2; have q3_ := gA.keepc c3; have q4_ := gA.keepc c4; have m0_ := World.new_ne wA _ q0_; have m1_ := World.new_ne wA _ q1_; have m2_ := World.new_ne wA _ q2_; have m3_ := World.new_ne wA _ q3_; have m4_ := World.new_ne wA _ q4_)
              | (go_at_call 26; have _tk := tA; refine (KX1.out ((w2.alloc (.cells #[.int .i64 0, .int .i64 0, .int .i64 0, .slice none 0 0] 24 (0, 0))).drewN _) (((Fr.refl no w2).alloc _).drewN _)).mono ?_; rintro e wA ⟨va, vc, rfl, rA, fA, gA⟩; clear _tk tA; have hz5 := gA.blk (heap_alloc_new w2 (.cells #[.int .i64 0, .int .i64 0, .int .i64 0, .slice none 0 0] 24 (0, 0))) (fun h => h); have q0_ := gA.keepc (cell_alloc _ c0); have q1_ := gA.keepc (cell_alloc _ c1); have q2_ := gA.keepc (cell_alloc _ c2); have q3_ := gA.keepc (cell_alloc _ c3); have q4_ := gA.keepc (cell_alloc _ c4); have m0_ := World.new_ne wA _ q0_; have m1_ := World.new_ne wA _ q1_; have m2_ := World.new_ne wA _ q2_; have m3_ := World.new_ne wA _ q3_; have m4_ := World.new_ne wA _ q4_)
              | (go_at_call 28; have _tk := tB; refine (KN1.out wA va vc fA rA).mono ?_; rintro e wB ⟨vb, vd, rfl, rB, fB, gB⟩; clear _tk tB; have hz6 := gB.blk hz5 (fun h => h); have HLT := Lib.hid (lt_of_blk hz5); obtain ⟨y0, y1, y2, y3⟩ := four_cells hz6; obtain ⟨k0, k1, k2, k3⟩ := four_frz hz6; have HZ6 := Lib.hid hz6; clear hz6; have p0_ := gB.keepc q0_; have p1_ := gB.keepc q1_; have p2_ := gB.keepc q2_; have p3_ := gB.keepc q3_; have p4_ := gB.keepc q4_; have o0_ := World.new_ne wB _ p0_; have o1_ := World.new_ne wB _ p1_; have o2_ := World.new_ne wB _ p2_; have o3_ := World.new_ne wB _ p3_; have o4_ := World.new_ne wB _ p4_)
              | (go_at_call 28; have _tk := tB; refine (KN1.out wA va vc fA rA).mono ?_; rintro e wB ⟨vb, vd, rfl, rB, fB, gB⟩; clear _tk tB; have p0_ := gB.keepc q0_; have p1_ := gB.keepc q1_; have p2_ := gB.keepc q2_; have p3_ := gB.keepc q3_; have p4_ := gB.keepc q4_; have o0_ := World.new_ne wB _ p0_; have o1_ := World.new_ne wB _ p1_; have o2_ := World.new_ne wB _ p2_; have o3_ := World.new_ne wB _ p3_; have o4_ := World.new_ne wB _ p4_)
              | (go_at_call 28; have _tk := tB; refine (KN1.out (wA.alloc (.cells #[.int .i64 0, .int .i64 0, .int .i64 0, .slice none 0 0] 24 (0, 0))) va vc (fA.alloc _) (rA.kept ((Fr.refl no _).alloc _))).mono ?_; rintro e wB ⟨vb, vd, rfl, rB, fB, gB⟩; clear _tk tB; have hz6 := gB.blk (heap_alloc_new wA (.cells #[.int .i64 0, .int .i64 0, .int .i64 0, .slice none 0 0] 24 (0, 0))) (fun h => h); obtain ⟨y0, y1, y2, y3⟩ := four_cells hz6; obtain ⟨k0, k1, k2, k3⟩ := four_frz hz6; have HZ6 := Lib.hid hz6; clear hz6; have p0_ := gB.keepc (cell_alloc _ q0_); have p1_ := gB.keepc (cell_alloc _ q1_); have p2_ := gB.keepc (cell_alloc _ q2_); have p3_ := gB.keepc (cell_alloc _ q3_); have p4_ := gB.keepc (cell_alloc _ q4_); have o0_ := World.new_ne wB _ p0_; have o1_ := World.new_ne wB _ p1_; have o2_ := World.new_ne wB _ p2_; have o3_ := World.new_ne wB _ p3_; have o4_ := World.new_ne wB _ p4_))
          all_goals go_wp2_with fail
          all_goals go_meet
          · exact ⟨_, vb, vd, rfl, rfl, heap_alloc_new wB _, (row_ints rB).kept ((Fr.refl no _).alloc _), fB.alloc _⟩
          · exact ⟨_, vb, vd, rfl, rfl, set_four HZ6.out _ _ _ _, set_row rB (by simp) _ _ _ _, set_four_fr fB fA.size _ _ _ _⟩
          · exact ⟨_, vb, vd, rfl, rfl, set_four HZ6.out _ _ _ _, set_row rB HLT.out _ _ _ _, set_four_fr fB (Nat.le_refl _) _ _ _ _⟩
        case rest =>
        obtain ⟨c, va, vc, rfl, rfl, hb, hi, hf⟩ := hcut
        have F3 := Lib.hid hf
        have HB3 := Lib.hid hb
        have HI3 := Lib.hid hi
        have HL3 := Lib.hid (HLI2.out.kept hf)
        have HM3 := Lib.hid (HMI.out.kept hf)
        clear c0 c1 c2 c3 c4
        obtain ⟨c0, c1, c2, c3⟩ := four_cells (hf.blk H12.out (fun h => h))
        obtain ⟨c4, -, -⟩ := three_cellsI (hf.blk H22.out (fun h => h))
        clear hb hi hf KX1 KN1
        go_wp2_with fail
        refine (KJ.out _ F3.out).mono ?_
        rintro e w6 ⟨vb, vd, rfl, hu, f6⟩
        have F6 := Lib.hid f6
        have HU6 := Lib.hid hu
        have HB6 := Lib.hid (f6.blk HB3.out (fun h => h))
        clear hu f6 c0 c1 c2 c3 c4
        go_wp2_with fail
        have F67 := Lib.hid ((Fr.refl no w6).alloc (.cells #[.int .i64 x.v, .int .i64 x.f, .int .i64 x.u, .slice vb x.chs.length vd] 24 (0, 0)))
        refine (KQ.out _ ((HL3.out.kept F6.out).kept F67.out) ((HM3.out.kept F6.out).kept F67.out)).mono ?_
        rintro e w7 ⟨rfl, f7⟩
        have F7 := Lib.hid (F67.out.noTrans f7)
        obtain ⟨b0, b1, b2, b3⟩ := four_cells (F7.out.blk HB6.out (fun h => h))
        obtain ⟨y0, y1, y2, y3⟩ := four_cells (f7.blk (heap_alloc_new w6 (.cells #[.int .i64 x.v, .int .i64 x.f, .int .i64 x.u, .slice vb x.chs.length vd] 24 (0, 0))) (fun h => h))
        clear f7
        go_wp2_with fail
        refine (HSM.out va vb vc vd _ ((HI3.out.kept F6.out).kept F7.out) (HU6.out.kept F7.out) HXB.out).mono ?_
        rintro e w8 ⟨rfl, f8⟩
        have FE := Lib.hid (HF.out.noTrans (F2.out.noTrans (F3.out.noTrans (F6.out.noTrans (F7.out.noTrans f8)))))
        clear f8 b0 b1 b2 b3 y0 y1 y2 y3
        go_wp2_with fail
        go_ret
        exact ⟨by simp, FE.out⟩
      · have hyI : (70 : Int) < (yl : Int) := by omega
        clear hz hx hy hF h1 h2 hW hk hxc hyc hln
        go_enter Try.func5, Try.ntmps5
        go_wp2_with fail
        rw [← HW.out]
        refine (awake_any W).mono ?_
        rintro e w0 ⟨rfl, f0⟩
        obtain ⟨c0, c1, c2, c3⟩ := four_cells (f0.blk H1.out (fun h => h))
        obtain ⟨d0, d1, d2⟩ := three_cellsI (f0.blk H2.out (fun h => h))
        have F0 := Lib.hid (HF.out.noTrans f0)
        clear f0
        go_wp2_with fail
        go_ret
        exact ⟨rfl, F0.out⟩
    · have hxI : (20 : Int) < (xl : Int) := by omega
      clear hz hx hy hF h1 h2 hW hk hxc hyc hln
      go_enter Try.func5, Try.ntmps5
      go_wp2_with fail
      rw [← HW.out]
      refine (awake_any W).mono ?_
      rintro e w0 ⟨rfl, f0⟩
      obtain ⟨c0, c1, c2, c3⟩ := four_cells (f0.blk H1.out (fun h => h))
      obtain ⟨d0, d1, d2⟩ := three_cellsI (f0.blk H2.out (fun h => h))
      have F0 := Lib.hid (HF.out.noTrans f0)
      clear f0
      go_wp2_with fail
      go_ret
      exact ⟨rfl, F0.out⟩
  · have hnI : (20 : Int) < (ln : Int) := by omega
    clear hz hx hy hF h1 h2 hW hk hxc hyc hln
    go_enter Try.func5, Try.ntmps5
    go_wp2_with fail
    rw [← HW.out]
    refine (awake_any W).mono ?_
    rintro e w0 ⟨rfl, f0⟩
    obtain ⟨c0, c1, c2, c3⟩ := four_cells (f0.blk H1.out (fun h => h))
    obtain ⟨d0, d1, d2⟩ := three_cellsI (f0.blk H2.out (fun h => h))
    have F0 := Lib.hid (HF.out.noTrans f0)
    clear f0
    go_wp2_with fail
    go_ret
    exact ⟨rfl, F0.out⟩

end Go.Proofs.Ytpaoacdgmfaolaa
