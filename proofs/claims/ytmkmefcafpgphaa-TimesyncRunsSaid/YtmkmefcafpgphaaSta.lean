/- The document's step: acked. -/
import Derived.Test.YtmkmefcafpgphaaStp
namespace Go.Proofs.Ytmkmefcafpgphaa
set_option linter.unusedVariables false
open Go.RowKit

set_option maxHeartbeats 8000000 in
theorem stepR_ack (b off k0 b1 off1 l0 l1 k1 : Nat) (m q : Nat) (o d s c o1 d1 s1 e1 : Int) (l : List Sy) (zs : List Int) (xs : Int) (w : World) (hm1 : 1 ≤ m) (hm : m < l0) (hml : m < l1) (hq : q < l0)
    (u0 : w.cell? ⟨b, off + m * 4, none⟩ = some (.int .i64 o)) (u1 : w.cell? ⟨b, off + m * 4 + 1, none⟩ = some (.int .i64 d)) (u2 : w.cell? ⟨b, off + m * 4 + 2, none⟩ = some (.int .i64 s)) (u3 : w.cell? ⟨b, off + m * 4 + 3, none⟩ = some (.int .i64 c))
    (v0 : w.cell? ⟨b, off + q * 4, none⟩ = some (.int .i64 o1)) (v1 : w.cell? ⟨b, off + q * 4 + 1, none⟩ = some (.int .i64 d1)) (v2 : w.cell? ⟨b, off + q * 4 + 2, none⟩ = some (.int .i64 s1)) (v3 : w.cell? ⟨b, off + q * 4 + 3, none⟩ = some (.int .i64 e1))
    (zc : w.cell? ⟨b1, off1 + m, none⟩ = some (.int .i64 (q : Int)))
    (ht : stE zs l ⟨m, xs, true⟩ = akE o d s c o1 d1 xs) (hv : coxV (syAt l (m : Int).toNat) (syAt l (zs.getD (m : Int).toNat 0).toNat) ⟨m, xs, true⟩ = ⟨akO o d s c o1 d1 xs, akD o d s c o1 d1 xs, akS o d s c o1 d1 xs, akC o d s c o1 d1 xs⟩) :
    Calls Try.prog 56 #[.slice (some ⟨b, off, none⟩) l0 k0, .slice (some ⟨b1, off1, none⟩) l1 k1, .agg #[.int .i64 (m : Int), .int .i64 xs, .bool true]] w (fun e w' => StpR w w' zs l ⟨m, xs, true⟩ e) := by
  have HT := Lib.hid ht
  have HV := Lib.hid hv
  clear ht hv
  obtain ⟨W, hW, hF, h1, h2, hs⟩ := step_box w (m : Int) xs true
  have HB0 := Lib.hid h2
  have HA0 := Lib.hid h1
  obtain ⟨c0, c1, c2, -, -, -⟩ := three_cells h1
  have HW := Lib.hid hW
  have HF0 := Lib.hid hF
  have HSZ := Lib.hid hs
  clear hW hF h1 h2 hs
  have g1 : ¬ ((m : Int) < 1) := by omega
  have g2 : ¬ ((l0 : Int) ≤ (m : Int)) := by omega
  have g3 : (m : Int) < (l0 : Int) := by omega
  have g4 : (m : Int) < (l1 : Int) := by omega
  have g5 : (q : Int) < (l0 : Int) := by omega
  have U0 := HF0.out.keepc u0
  have U1 := HF0.out.keepc u1
  have U2 := HF0.out.keepc u2
  have U3 := HF0.out.keepc u3
  have V0 := HF0.out.keepc v0
  have V1 := HF0.out.keepc v1
  have V2 := HF0.out.keepc v2
  have V3 := HF0.out.keepc v3
  have ZC := HF0.out.keepc zc
  clear u0 u1 u2 u3 v0 v1 v2 v3 zc
  have p0 := (cell_alloc (.cells #[.int .i64 0, .int .i64 0, .int .i64 0, .int .i64 0] 25 (0, 0)) U0)
  have p1 := (cell_alloc (.cells #[.int .i64 o1, .int .i64 d1, .int .i64 s1, .int .i64 e1] 25 (0, 0)) U0)
  have p2 := (cell_alloc (.cells #[.int .i64 0, .int .i64 0, .int .i64 0, .int .i64 0] 25 (0, 0)) (cell_alloc (.cells #[.int .i64 0, .int .i64 0, .int .i64 0, .int .i64 0] 25 (0, 0)) U0))
  have p3 := (cell_alloc (.cells #[.int .i64 0, .int .i64 0, .int .i64 0, .int .i64 0] 25 (0, 0)) (cell_alloc (.cells #[.int .i64 o1, .int .i64 d1, .int .i64 s1, .int .i64 e1] 25 (0, 0)) U0))
  have p4 := (cell_alloc (.cells #[.int .i64 o1, .int .i64 d1, .int .i64 s1, .int .i64 e1] 25 (0, 0)) (cell_alloc (.cells #[.int .i64 0, .int .i64 0, .int .i64 0, .int .i64 0] 25 (0, 0)) U0))
  have p5 := (cell_alloc (.cells #[.int .i64 0, .int .i64 0, .int .i64 0, .int .i64 0] 25 (0, 0)) U1)
  have p6 := (cell_alloc (.cells #[.int .i64 o1, .int .i64 d1, .int .i64 s1, .int .i64 e1] 25 (0, 0)) U1)
  have p7 := (cell_alloc (.cells #[.int .i64 0, .int .i64 0, .int .i64 0, .int .i64 0] 25 (0, 0)) (cell_alloc (.cells #[.int .i64 0, .int .i64 0, .int .i64 0, .int .i64 0] 25 (0, 0)) U1))
  have p8 := (cell_alloc (.cells #[.int .i64 0, .int .i64 0, .int .i64 0, .int .i64 0] 25 (0, 0)) (cell_alloc (.cells #[.int .i64 o1, .int .i64 d1, .int .i64 s1, .int .i64 e1] 25 (0, 0)) U1))
  have p9 := (cell_alloc (.cells #[.int .i64 o1, .int .i64 d1, .int .i64 s1, .int .i64 e1] 25 (0, 0)) (cell_alloc (.cells #[.int .i64 0, .int .i64 0, .int .i64 0, .int .i64 0] 25 (0, 0)) U1))
  have p10 := (cell_alloc (.cells #[.int .i64 0, .int .i64 0, .int .i64 0, .int .i64 0] 25 (0, 0)) U2)
  have p11 := (cell_alloc (.cells #[.int .i64 o1, .int .i64 d1, .int .i64 s1, .int .i64 e1] 25 (0, 0)) U2)
  have p12 := (cell_alloc (.cells #[.int .i64 0, .int .i64 0, .int .i64 0, .int .i64 0] 25 (0, 0)) (cell_alloc (.cells #[.int .i64 0, .int .i64 0, .int .i64 0, .int .i64 0] 25 (0, 0)) U2))
  have p13 := (cell_alloc (.cells #[.int .i64 0, .int .i64 0, .int .i64 0, .int .i64 0] 25 (0, 0)) (cell_alloc (.cells #[.int .i64 o1, .int .i64 d1, .int .i64 s1, .int .i64 e1] 25 (0, 0)) U2))
  have p14 := (cell_alloc (.cells #[.int .i64 o1, .int .i64 d1, .int .i64 s1, .int .i64 e1] 25 (0, 0)) (cell_alloc (.cells #[.int .i64 0, .int .i64 0, .int .i64 0, .int .i64 0] 25 (0, 0)) U2))
  have p15 := (cell_alloc (.cells #[.int .i64 0, .int .i64 0, .int .i64 0, .int .i64 0] 25 (0, 0)) U3)
  have p16 := (cell_alloc (.cells #[.int .i64 o1, .int .i64 d1, .int .i64 s1, .int .i64 e1] 25 (0, 0)) U3)
  have p17 := (cell_alloc (.cells #[.int .i64 0, .int .i64 0, .int .i64 0, .int .i64 0] 25 (0, 0)) (cell_alloc (.cells #[.int .i64 0, .int .i64 0, .int .i64 0, .int .i64 0] 25 (0, 0)) U3))
  have p18 := (cell_alloc (.cells #[.int .i64 0, .int .i64 0, .int .i64 0, .int .i64 0] 25 (0, 0)) (cell_alloc (.cells #[.int .i64 o1, .int .i64 d1, .int .i64 s1, .int .i64 e1] 25 (0, 0)) U3))
  have p19 := (cell_alloc (.cells #[.int .i64 o1, .int .i64 d1, .int .i64 s1, .int .i64 e1] 25 (0, 0)) (cell_alloc (.cells #[.int .i64 0, .int .i64 0, .int .i64 0, .int .i64 0] 25 (0, 0)) U3))
  have p20 := (cell_alloc (.cells #[.int .i64 0, .int .i64 0, .int .i64 0, .int .i64 0] 25 (0, 0)) V0)
  have p21 := (cell_alloc (.cells #[.int .i64 o, .int .i64 d, .int .i64 s, .int .i64 c] 25 (0, 0)) V0)
  have p22 := (cell_alloc (.cells #[.int .i64 0, .int .i64 0, .int .i64 0, .int .i64 0] 25 (0, 0)) (cell_alloc (.cells #[.int .i64 0, .int .i64 0, .int .i64 0, .int .i64 0] 25 (0, 0)) V0))
  have p23 := (cell_alloc (.cells #[.int .i64 0, .int .i64 0, .int .i64 0, .int .i64 0] 25 (0, 0)) (cell_alloc (.cells #[.int .i64 o, .int .i64 d, .int .i64 s, .int .i64 c] 25 (0, 0)) V0))
  have p24 := (cell_alloc (.cells #[.int .i64 o, .int .i64 d, .int .i64 s, .int .i64 c] 25 (0, 0)) (cell_alloc (.cells #[.int .i64 0, .int .i64 0, .int .i64 0, .int .i64 0] 25 (0, 0)) V0))
  have p25 := (cell_alloc (.cells #[.int .i64 0, .int .i64 0, .int .i64 0, .int .i64 0] 25 (0, 0)) V1)
  have p26 := (cell_alloc (.cells #[.int .i64 o, .int .i64 d, .int .i64 s, .int .i64 c] 25 (0, 0)) V1)
  have p27 := (cell_alloc (.cells #[.int .i64 0, .int .i64 0, .int .i64 0, .int .i64 0] 25 (0, 0)) (cell_alloc (.cells #[.int .i64 0, .int .i64 0, .int .i64 0, .int .i64 0] 25 (0, 0)) V1))
  have p28 := (cell_alloc (.cells #[.int .i64 0, .int .i64 0, .int .i64 0, .int .i64 0] 25 (0, 0)) (cell_alloc (.cells #[.int .i64 o, .int .i64 d, .int .i64 s, .int .i64 c] 25 (0, 0)) V1))
  have p29 := (cell_alloc (.cells #[.int .i64 o, .int .i64 d, .int .i64 s, .int .i64 c] 25 (0, 0)) (cell_alloc (.cells #[.int .i64 0, .int .i64 0, .int .i64 0, .int .i64 0] 25 (0, 0)) V1))
  have p30 := (cell_alloc (.cells #[.int .i64 0, .int .i64 0, .int .i64 0, .int .i64 0] 25 (0, 0)) V2)
  have p31 := (cell_alloc (.cells #[.int .i64 o, .int .i64 d, .int .i64 s, .int .i64 c] 25 (0, 0)) V2)
  have p32 := (cell_alloc (.cells #[.int .i64 0, .int .i64 0, .int .i64 0, .int .i64 0] 25 (0, 0)) (cell_alloc (.cells #[.int .i64 0, .int .i64 0, .int .i64 0, .int .i64 0] 25 (0, 0)) V2))
  have p33 := (cell_alloc (.cells #[.int .i64 0, .int .i64 0, .int .i64 0, .int .i64 0] 25 (0, 0)) (cell_alloc (.cells #[.int .i64 o, .int .i64 d, .int .i64 s, .int .i64 c] 25 (0, 0)) V2))
  have p34 := (cell_alloc (.cells #[.int .i64 o, .int .i64 d, .int .i64 s, .int .i64 c] 25 (0, 0)) (cell_alloc (.cells #[.int .i64 0, .int .i64 0, .int .i64 0, .int .i64 0] 25 (0, 0)) V2))
  have p35 := (cell_alloc (.cells #[.int .i64 0, .int .i64 0, .int .i64 0, .int .i64 0] 25 (0, 0)) V3)
  have p36 := (cell_alloc (.cells #[.int .i64 o, .int .i64 d, .int .i64 s, .int .i64 c] 25 (0, 0)) V3)
  have p37 := (cell_alloc (.cells #[.int .i64 0, .int .i64 0, .int .i64 0, .int .i64 0] 25 (0, 0)) (cell_alloc (.cells #[.int .i64 0, .int .i64 0, .int .i64 0, .int .i64 0] 25 (0, 0)) V3))
  have p38 := (cell_alloc (.cells #[.int .i64 0, .int .i64 0, .int .i64 0, .int .i64 0] 25 (0, 0)) (cell_alloc (.cells #[.int .i64 o, .int .i64 d, .int .i64 s, .int .i64 c] 25 (0, 0)) V3))
  have p39 := (cell_alloc (.cells #[.int .i64 o, .int .i64 d, .int .i64 s, .int .i64 c] 25 (0, 0)) (cell_alloc (.cells #[.int .i64 0, .int .i64 0, .int .i64 0, .int .i64 0] 25 (0, 0)) V3))
  have p40 := (cell_alloc (.cells #[.int .i64 0, .int .i64 0, .int .i64 0, .int .i64 0] 25 (0, 0)) ZC)
  have p41 := (cell_alloc (.cells #[.int .i64 o, .int .i64 d, .int .i64 s, .int .i64 c] 25 (0, 0)) ZC)
  have p42 := (cell_alloc (.cells #[.int .i64 0, .int .i64 0, .int .i64 0, .int .i64 0] 25 (0, 0)) (cell_alloc (.cells #[.int .i64 0, .int .i64 0, .int .i64 0, .int .i64 0] 25 (0, 0)) ZC))
  have p43 := (cell_alloc (.cells #[.int .i64 0, .int .i64 0, .int .i64 0, .int .i64 0] 25 (0, 0)) (cell_alloc (.cells #[.int .i64 o, .int .i64 d, .int .i64 s, .int .i64 c] 25 (0, 0)) ZC))
  have p44 := (cell_alloc (.cells #[.int .i64 o, .int .i64 d, .int .i64 s, .int .i64 c] 25 (0, 0)) (cell_alloc (.cells #[.int .i64 0, .int .i64 0, .int .i64 0, .int .i64 0] 25 (0, 0)) ZC))
  have p45 := (cell_alloc (.cells #[.int .i64 0, .int .i64 0, .int .i64 0, .int .i64 0] 25 (0, 0)) c0)
  have p46 := (cell_alloc (.cells #[.int .i64 o, .int .i64 d, .int .i64 s, .int .i64 c] 25 (0, 0)) c0)
  have p47 := (cell_alloc (.cells #[.int .i64 o1, .int .i64 d1, .int .i64 s1, .int .i64 e1] 25 (0, 0)) c0)
  have p48 := (cell_alloc (.cells #[.int .i64 0, .int .i64 0, .int .i64 0, .int .i64 0] 25 (0, 0)) (cell_alloc (.cells #[.int .i64 0, .int .i64 0, .int .i64 0, .int .i64 0] 25 (0, 0)) c0))
  have p49 := (cell_alloc (.cells #[.int .i64 0, .int .i64 0, .int .i64 0, .int .i64 0] 25 (0, 0)) (cell_alloc (.cells #[.int .i64 o, .int .i64 d, .int .i64 s, .int .i64 c] 25 (0, 0)) c0))
  have p50 := (cell_alloc (.cells #[.int .i64 o, .int .i64 d, .int .i64 s, .int .i64 c] 25 (0, 0)) (cell_alloc (.cells #[.int .i64 0, .int .i64 0, .int .i64 0, .int .i64 0] 25 (0, 0)) c0))
  have p51 := (cell_alloc (.cells #[.int .i64 0, .int .i64 0, .int .i64 0, .int .i64 0] 25 (0, 0)) (cell_alloc (.cells #[.int .i64 o1, .int .i64 d1, .int .i64 s1, .int .i64 e1] 25 (0, 0)) c0))
  have p52 := (cell_alloc (.cells #[.int .i64 o1, .int .i64 d1, .int .i64 s1, .int .i64 e1] 25 (0, 0)) (cell_alloc (.cells #[.int .i64 0, .int .i64 0, .int .i64 0, .int .i64 0] 25 (0, 0)) c0))
  have n0 := World.new_ne W _ c0
  have n1 := World.new_ne W _ U0
  have n2 := World.new_ne W _ ZC
  have n3 := World.new_ne (W.alloc (.cells #[.int .i64 0, .int .i64 0, .int .i64 0, .int .i64 0] 25 (0, 0))) _ (cell_alloc _ c0)
  have n4 := World.new_ne (W.alloc (.cells #[.int .i64 0, .int .i64 0, .int .i64 0, .int .i64 0] 25 (0, 0))) _ (cell_alloc _ U0)
  have n5 := World.new_ne (W.alloc (.cells #[.int .i64 0, .int .i64 0, .int .i64 0, .int .i64 0] 25 (0, 0))) _ (cell_alloc _ ZC)
  go_enter Try.func56, Try.ntmps56
  go_wp2_with fail
  rw [← HW.out]
  go_wp2_with fail
  go_region
  · obtain ⟨W2, hW2⟩ : ∃ W2, W2 = ((W.alloc (.cells #[.int .i64 o, .int .i64 d, .int .i64 s, .int .i64 c] 25 (0, 0))).alloc (.cells #[.int .i64 o1, .int .i64 d1, .int .i64 s1, .int .i64 e1] 25 (0, 0))).drew := ⟨_, rfl⟩
    rw [← hW2]
    have f2 : Fr no W W2 := by rw [hW2]; exact (((Fr.refl no W).alloc _).alloc _).drew
    have HC2 := Lib.hid (show W2.heap[W.heap.size]? = some (.cells #[.int .i64 o, .int .i64 d, .int .i64 s, .int .i64 c] 25 (0, 0)) by rw [hW2]; exact (alloc_keeps (heap_alloc_new W _) _))
    have HP2 := Lib.hid (show W2.heap[W.heap.size + 1]? = some (.cells #[.int .i64 o1, .int .i64 d1, .int .i64 s1, .int .i64 e1] 25 (0, 0)) by rw [hW2]; exact (by have h := heap_alloc_new (W.alloc (.cells #[.int .i64 o, .int .i64 d, .int .i64 s, .int .i64 c] 25 (0, 0))) (.cells #[.int .i64 o1, .int .i64 d1, .int .i64 s1, .int .i64 e1] 25 (0, 0)); rw [show (W.alloc (.cells #[.int .i64 o, .int .i64 d, .int .i64 s, .int .i64 c] 25 (0, 0))).heap.size = W.heap.size + 1 by simp] at h; exact h))
    have HF2 := Lib.hid (HF0.out.noTrans f2)
    have HB2 := Lib.hid (f2.blk HB0.out (fun h => h))
    have HA2 := Lib.hid (f2.blk HA0.out (fun h => h))
    clear p0 p1 p2 p3 p4 p5 p6 p7 p8 p9 p10 p11 p12 p13 p14 p15 p16 p17 p18 p19 p20 p21 p22 p23 p24 p25 p26 p27 p28 p29 p30 p31 p32 p33 p34 p35 p36 p37 p38 p39 p40 p41 p42 p43 p44 p45 p46 p47 p48 p49 p50 p51 p52 n0 n1 n2 n3 n4 n5 U0 U1 U2 U3 V0 V1 V2 V3 ZC c0 c1 c2 hW2 f2
    obtain ⟨a0, a1, a2, -, -, -⟩ := three_cells HA2.out
    obtain ⟨r0, r1, r2, r3, r4, r5, r6, r7⟩ := four_cells HB2.out
    obtain ⟨x0, x1, x2, x3, -⟩ := four_cells HC2.out
    obtain ⟨z0', z1', z2', z3', -⟩ := four_cells HP2.out
    by_cases k1 : inE o d xs 2120 = 0
    · have HR := Lib.hid (show akO o d s c o1 d1 xs = z0 (acZ o d s c xs) (coO o d s c xs (meV o1 d1 xs (inV o d xs 2120))) ∧ akD o d s c o1 d1 xs = z0 (acZ o d s c xs) (coD o d s c xs (meV o1 d1 xs (inV o d xs 2120))) ∧ akS o d s c o1 d1 xs = z0 (acZ o d s c xs) (coS o d s c xs (meV o1 d1 xs (inV o d xs 2120))) ∧ akC o d s c o1 d1 xs = z0 (acZ o d s c xs) (coC o d s c xs (meV o1 d1 xs (inV o d xs 2120))) ∧ akE o d s c o1 d1 xs = acE o d s c xs (meV o1 d1 xs (inV o d xs 2120)) by simp [akO, akD, akS, akC, akE, k1])
      have K1 := Lib.hid (fun w => sendR_any o d xs w)
      rw [k1] at K1
      have K2 := Lib.hid (fun w => measureR_any o1 d1 xs (inV o d xs 2120) w)
      have K3 := Lib.hid (fun w => ackedR_any o d s c xs (meV o1 d1 xs (inV o d xs 2120)) w)
      generalize z0 (acZ o d s c xs) (coO o d s c xs (meV o1 d1 xs (inV o d xs 2120))) = xO at *
      generalize z0 (acZ o d s c xs) (coD o d s c xs (meV o1 d1 xs (inV o d xs 2120))) = xD at *
      generalize z0 (acZ o d s c xs) (coS o d s c xs (meV o1 d1 xs (inV o d xs 2120))) = xS at *
      generalize z0 (acZ o d s c xs) (coC o d s c xs (meV o1 d1 xs (inV o d xs 2120))) = xC at *
      generalize acE o d s c xs (meV o1 d1 xs (inV o d xs 2120)) = xE at *
      generalize meV o1 d1 xs (inV o d xs 2120) = mv at *
      generalize meE o1 d1 xs (inV o d xs 2120) = me at *
      generalize inV o d xs 2120 = v at *
      clear k1
      go_wp2_with fail
      refine (K1.out _).mono ?_
      rintro e w3 ⟨rfl, f3⟩
      have HF3 := Lib.hid (HF2.out.noTrans f3)
      have HB3 := Lib.hid (f3.blk HB2.out (fun h => h))
      have HA3 := Lib.hid (f3.blk HA2.out (fun h => h))
      have HC3 := Lib.hid (f3.blk HC2.out (fun h => h))
      have HP3 := Lib.hid (f3.blk HP2.out (fun h => h))
      clear a0 a1 a2 r0 r1 r2 r3 r4 r5 r6 r7 x0 x1 x2 x3 z0' z1' z2' z3'
      obtain ⟨a0, a1, a2, -, -, -⟩ := three_cells HA3.out
      obtain ⟨r0, r1, r2, r3, r4, r5, r6, r7⟩ := four_cells HB3.out
      obtain ⟨x0, x1, x2, x3, -⟩ := four_cells HC3.out
      obtain ⟨z0', z1', z2', z3', -⟩ := four_cells HP3.out
      clear f3
      go_wp2_with fail
      refine (K2.out _).mono ?_
      rintro e w4 ⟨rfl, f4⟩
      have HF4 := Lib.hid (HF3.out.noTrans f4)
      have HB4 := Lib.hid (f4.blk HB3.out (fun h => h))
      have HA4 := Lib.hid (f4.blk HA3.out (fun h => h))
      have HC4 := Lib.hid (f4.blk HC3.out (fun h => h))
      have HP4 := Lib.hid (f4.blk HP3.out (fun h => h))
      clear a0 a1 a2 r0 r1 r2 r3 r4 r5 r6 r7 x0 x1 x2 x3 z0' z1' z2' z3'
      obtain ⟨a0, a1, a2, -, -, -⟩ := three_cells HA4.out
      obtain ⟨r0, r1, r2, r3, r4, r5, r6, r7⟩ := four_cells HB4.out
      obtain ⟨x0, x1, x2, x3, -⟩ := four_cells HC4.out
      obtain ⟨z0', z1', z2', z3', -⟩ := four_cells HP4.out
      clear f4
      go_wp2_with fail
      refine (K3.out _).mono ?_
      rintro e w5 ⟨rfl, f5⟩
      have HF5 := Lib.hid (HF4.out.noTrans f5)
      have HB5 := Lib.hid (f5.blk HB4.out (fun h => h))
      have HA5 := Lib.hid (f5.blk HA4.out (fun h => h))
      have HC5 := Lib.hid (f5.blk HC4.out (fun h => h))
      have HP5 := Lib.hid (f5.blk HP4.out (fun h => h))
      clear a0 a1 a2 r0 r1 r2 r3 r4 r5 r6 r7 x0 x1 x2 x3 z0' z1' z2' z3'
      obtain ⟨a0, a1, a2, -, -, -⟩ := three_cells HA5.out
      obtain ⟨r0, r1, r2, r3, r4, r5, r6, r7⟩ := four_cells HB5.out
      obtain ⟨x0, x1, x2, x3, -⟩ := four_cells HC5.out
      obtain ⟨z0', z1', z2', z3', -⟩ := four_cells HP5.out
      clear f5
      go_wp2_with fail
      obtain ⟨y0, y1, y2, y3, -⟩ := four_cells (set_four HB5.out (.int .i64 (xO)) (.int .i64 (xD)) (.int .i64 (xS)) (.int .i64 (xC)))
      refine bodyPost_ret (v := .tuple #[.agg #[.int .i64 (xO), .int .i64 (xD), .int .i64 (xS), .int .i64 (xC)], .int .i64 (xE)]) (by simp [results, Try.results56, go_sem, y0, y1, y2, y3]) rfl ⟨⟨xO, xD, xS, xC⟩, by rw [HT.out, HR.out.2.2.2.2], fun _ => by rw [HV.out, HR.out.1, HR.out.2.1, HR.out.2.2.1, HR.out.2.2.2.1], set_four_fr HF5.out (by simp) _ _ _ _⟩
    · have HR := Lib.hid (show akE o d s c o1 d1 xs = inE o d xs 2120 by simp [akE, k1])
      have K1 := Lib.hid (fun w => sendR_any o d xs w)
      generalize inV o d xs 2120 = v at *
      generalize inE o d xs 2120 = r at *
      have hr2 : (r == 0) = false := by simpa using k1
      have HK1 := Lib.hid k1
      clear k1
      go_wp2_with fail
      refine (K1.out _).mono ?_
      rintro e w3 ⟨rfl, f3⟩
      have HF3 := Lib.hid (HF2.out.noTrans f3)
      have HB3 := Lib.hid (f3.blk HB2.out (fun h => h))
      have HA3 := Lib.hid (f3.blk HA2.out (fun h => h))
      have HC3 := Lib.hid (f3.blk HC2.out (fun h => h))
      have HP3 := Lib.hid (f3.blk HP2.out (fun h => h))
      clear a0 a1 a2 r0 r1 r2 r3 r4 r5 r6 r7 x0 x1 x2 x3 z0' z1' z2' z3'
      obtain ⟨a0, a1, a2, -, -, -⟩ := three_cells HA3.out
      obtain ⟨r0, r1, r2, r3, r4, r5, r6, r7⟩ := four_cells HB3.out
      obtain ⟨x0, x1, x2, x3, -⟩ := four_cells HC3.out
      obtain ⟨z0', z1', z2', z3', -⟩ := four_cells HP3.out
      clear f3
      go_wp2_with fail
      obtain ⟨y0, y1, y2, y3, -⟩ := four_cells (set_four HB3.out (.int .i64 (0)) (.int .i64 (0)) (.int .i64 (0)) (.int .i64 (0)))
      refine bodyPost_ret (v := .tuple #[.agg #[.int .i64 (0), .int .i64 (0), .int .i64 (0), .int .i64 (0)], .int .i64 (r)]) (by simp [results, Try.results56, go_sem, y0, y1, y2, y3]) rfl ⟨⟨0, 0, 0, 0⟩, by rw [HT.out, HR.out], fun h => by rw [HT.out, HR.out] at h; exact absurd h HK1.out, set_four_fr HF3.out (by simp) _ _ _ _⟩
  · obtain ⟨W2, hW2⟩ : ∃ W2, W2 = ((W.alloc (.cells #[.int .i64 o1, .int .i64 d1, .int .i64 s1, .int .i64 e1] 25 (0, 0))).alloc (.cells #[.int .i64 o, .int .i64 d, .int .i64 s, .int .i64 c] 25 (0, 0))).drew := ⟨_, rfl⟩
    rw [← hW2]
    have f2 : Fr no W W2 := by rw [hW2]; exact (((Fr.refl no W).alloc _).alloc _).drew
    have HC2 := Lib.hid (show W2.heap[W.heap.size + 1]? = some (.cells #[.int .i64 o, .int .i64 d, .int .i64 s, .int .i64 c] 25 (0, 0)) by rw [hW2]; exact (by have h := heap_alloc_new (W.alloc (.cells #[.int .i64 o1, .int .i64 d1, .int .i64 s1, .int .i64 e1] 25 (0, 0))) (.cells #[.int .i64 o, .int .i64 d, .int .i64 s, .int .i64 c] 25 (0, 0)); rw [show (W.alloc (.cells #[.int .i64 o1, .int .i64 d1, .int .i64 s1, .int .i64 e1] 25 (0, 0))).heap.size = W.heap.size + 1 by simp] at h; exact h))
    have HP2 := Lib.hid (show W2.heap[W.heap.size]? = some (.cells #[.int .i64 o1, .int .i64 d1, .int .i64 s1, .int .i64 e1] 25 (0, 0)) by rw [hW2]; exact (alloc_keeps (heap_alloc_new W _) _))
    have HF2 := Lib.hid (HF0.out.noTrans f2)
    have HB2 := Lib.hid (f2.blk HB0.out (fun h => h))
    have HA2 := Lib.hid (f2.blk HA0.out (fun h => h))
    clear p0 p1 p2 p3 p4 p5 p6 p7 p8 p9 p10 p11 p12 p13 p14 p15 p16 p17 p18 p19 p20 p21 p22 p23 p24 p25 p26 p27 p28 p29 p30 p31 p32 p33 p34 p35 p36 p37 p38 p39 p40 p41 p42 p43 p44 p45 p46 p47 p48 p49 p50 p51 p52 n0 n1 n2 n3 n4 n5 U0 U1 U2 U3 V0 V1 V2 V3 ZC c0 c1 c2 hW2 f2
    obtain ⟨a0, a1, a2, -, -, -⟩ := three_cells HA2.out
    obtain ⟨r0, r1, r2, r3, r4, r5, r6, r7⟩ := four_cells HB2.out
    obtain ⟨x0, x1, x2, x3, -⟩ := four_cells HC2.out
    obtain ⟨z0', z1', z2', z3', -⟩ := four_cells HP2.out
    by_cases k1 : inE o d xs 2120 = 0
    · have HR := Lib.hid (show akO o d s c o1 d1 xs = z0 (acZ o d s c xs) (coO o d s c xs (meV o1 d1 xs (inV o d xs 2120))) ∧ akD o d s c o1 d1 xs = z0 (acZ o d s c xs) (coD o d s c xs (meV o1 d1 xs (inV o d xs 2120))) ∧ akS o d s c o1 d1 xs = z0 (acZ o d s c xs) (coS o d s c xs (meV o1 d1 xs (inV o d xs 2120))) ∧ akC o d s c o1 d1 xs = z0 (acZ o d s c xs) (coC o d s c xs (meV o1 d1 xs (inV o d xs 2120))) ∧ akE o d s c o1 d1 xs = acE o d s c xs (meV o1 d1 xs (inV o d xs 2120)) by simp [akO, akD, akS, akC, akE, k1])
      have K1 := Lib.hid (fun w => sendR_any o d xs w)
      rw [k1] at K1
      have K2 := Lib.hid (fun w => measureR_any o1 d1 xs (inV o d xs 2120) w)
      have K3 := Lib.hid (fun w => ackedR_any o d s c xs (meV o1 d1 xs (inV o d xs 2120)) w)
      generalize z0 (acZ o d s c xs) (coO o d s c xs (meV o1 d1 xs (inV o d xs 2120))) = xO at *
      generalize z0 (acZ o d s c xs) (coD o d s c xs (meV o1 d1 xs (inV o d xs 2120))) = xD at *
      generalize z0 (acZ o d s c xs) (coS o d s c xs (meV o1 d1 xs (inV o d xs 2120))) = xS at *
      generalize z0 (acZ o d s c xs) (coC o d s c xs (meV o1 d1 xs (inV o d xs 2120))) = xC at *
      generalize acE o d s c xs (meV o1 d1 xs (inV o d xs 2120)) = xE at *
      generalize meV o1 d1 xs (inV o d xs 2120) = mv at *
      generalize meE o1 d1 xs (inV o d xs 2120) = me at *
      generalize inV o d xs 2120 = v at *
      clear k1
      go_wp2_with fail
      refine (K1.out _).mono ?_
      rintro e w3 ⟨rfl, f3⟩
      have HF3 := Lib.hid (HF2.out.noTrans f3)
      have HB3 := Lib.hid (f3.blk HB2.out (fun h => h))
      have HA3 := Lib.hid (f3.blk HA2.out (fun h => h))
      have HC3 := Lib.hid (f3.blk HC2.out (fun h => h))
      have HP3 := Lib.hid (f3.blk HP2.out (fun h => h))
      clear a0 a1 a2 r0 r1 r2 r3 r4 r5 r6 r7 x0 x1 x2 x3 z0' z1' z2' z3'
      obtain ⟨a0, a1, a2, -, -, -⟩ := three_cells HA3.out
      obtain ⟨r0, r1, r2, r3, r4, r5, r6, r7⟩ := four_cells HB3.out
      obtain ⟨x0, x1, x2, x3, -⟩ := four_cells HC3.out
      obtain ⟨z0', z1', z2', z3', -⟩ := four_cells HP3.out
      clear f3
      go_wp2_with fail
      refine (K2.out _).mono ?_
      rintro e w4 ⟨rfl, f4⟩
      have HF4 := Lib.hid (HF3.out.noTrans f4)
      have HB4 := Lib.hid (f4.blk HB3.out (fun h => h))
      have HA4 := Lib.hid (f4.blk HA3.out (fun h => h))
      have HC4 := Lib.hid (f4.blk HC3.out (fun h => h))
      have HP4 := Lib.hid (f4.blk HP3.out (fun h => h))
      clear a0 a1 a2 r0 r1 r2 r3 r4 r5 r6 r7 x0 x1 x2 x3 z0' z1' z2' z3'
      obtain ⟨a0, a1, a2, -, -, -⟩ := three_cells HA4.out
      obtain ⟨r0, r1, r2, r3, r4, r5, r6, r7⟩ := four_cells HB4.out
      obtain ⟨x0, x1, x2, x3, -⟩ := four_cells HC4.out
      obtain ⟨z0', z1', z2', z3', -⟩ := four_cells HP4.out
      clear f4
      go_wp2_with fail
      refine (K3.out _).mono ?_
      rintro e w5 ⟨rfl, f5⟩
      have HF5 := Lib.hid (HF4.out.noTrans f5)
      have HB5 := Lib.hid (f5.blk HB4.out (fun h => h))
      have HA5 := Lib.hid (f5.blk HA4.out (fun h => h))
      have HC5 := Lib.hid (f5.blk HC4.out (fun h => h))
      have HP5 := Lib.hid (f5.blk HP4.out (fun h => h))
      clear a0 a1 a2 r0 r1 r2 r3 r4 r5 r6 r7 x0 x1 x2 x3 z0' z1' z2' z3'
      obtain ⟨a0, a1, a2, -, -, -⟩ := three_cells HA5.out
      obtain ⟨r0, r1, r2, r3, r4, r5, r6, r7⟩ := four_cells HB5.out
      obtain ⟨x0, x1, x2, x3, -⟩ := four_cells HC5.out
      obtain ⟨z0', z1', z2', z3', -⟩ := four_cells HP5.out
      clear f5
      go_wp2_with fail
      obtain ⟨y0, y1, y2, y3, -⟩ := four_cells (set_four HB5.out (.int .i64 (xO)) (.int .i64 (xD)) (.int .i64 (xS)) (.int .i64 (xC)))
      refine bodyPost_ret (v := .tuple #[.agg #[.int .i64 (xO), .int .i64 (xD), .int .i64 (xS), .int .i64 (xC)], .int .i64 (xE)]) (by simp [results, Try.results56, go_sem, y0, y1, y2, y3]) rfl ⟨⟨xO, xD, xS, xC⟩, by rw [HT.out, HR.out.2.2.2.2], fun _ => by rw [HV.out, HR.out.1, HR.out.2.1, HR.out.2.2.1, HR.out.2.2.2.1], set_four_fr HF5.out (by simp) _ _ _ _⟩
    · have HR := Lib.hid (show akE o d s c o1 d1 xs = inE o d xs 2120 by simp [akE, k1])
      have K1 := Lib.hid (fun w => sendR_any o d xs w)
      generalize inV o d xs 2120 = v at *
      generalize inE o d xs 2120 = r at *
      have hr2 : (r == 0) = false := by simpa using k1
      have HK1 := Lib.hid k1
      clear k1
      go_wp2_with fail
      refine (K1.out _).mono ?_
      rintro e w3 ⟨rfl, f3⟩
      have HF3 := Lib.hid (HF2.out.noTrans f3)
      have HB3 := Lib.hid (f3.blk HB2.out (fun h => h))
      have HA3 := Lib.hid (f3.blk HA2.out (fun h => h))
      have HC3 := Lib.hid (f3.blk HC2.out (fun h => h))
      have HP3 := Lib.hid (f3.blk HP2.out (fun h => h))
      clear a0 a1 a2 r0 r1 r2 r3 r4 r5 r6 r7 x0 x1 x2 x3 z0' z1' z2' z3'
      obtain ⟨a0, a1, a2, -, -, -⟩ := three_cells HA3.out
      obtain ⟨r0, r1, r2, r3, r4, r5, r6, r7⟩ := four_cells HB3.out
      obtain ⟨x0, x1, x2, x3, -⟩ := four_cells HC3.out
      obtain ⟨z0', z1', z2', z3', -⟩ := four_cells HP3.out
      clear f3
      go_wp2_with fail
      obtain ⟨y0, y1, y2, y3, -⟩ := four_cells (set_four HB3.out (.int .i64 (0)) (.int .i64 (0)) (.int .i64 (0)) (.int .i64 (0)))
      refine bodyPost_ret (v := .tuple #[.agg #[.int .i64 (0), .int .i64 (0), .int .i64 (0), .int .i64 (0)], .int .i64 (r)]) (by simp [results, Try.results56, go_sem, y0, y1, y2, y3]) rfl ⟨⟨0, 0, 0, 0⟩, by rw [HT.out, HR.out], fun h => by rw [HT.out, HR.out] at h; exact absurd h HK1.out, set_four_fr HF3.out (by simp) _ _ _ _⟩

end Go.Proofs.Ytmkmefcafpgphaa
