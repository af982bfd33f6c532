/- The next list. -/
import Derived.Test.YtpaoacdgmfaolaaNxv
import Derived.Test.YtpaoacdgmfaolaaChe
import Derived.Deep.RegionHeld3
import Derived.Deep.RegionWith
import Derived.Deep.DeepCutAuto
namespace Go.Proofs.Ytpaoacdgmfaolaa
set_option linter.unusedVariables false
open Go.RowKit


structure Hv where
  v : Int
  f : Int
  u : Int
  chs : List Int
/-- Is there a next list? -/
def nxB (v f u : Int) (zs : List Int) (t : Int) (xs : List Int) : Bool := hlB v f u zs && hlB ((v + 1) % 256) u t xs
def nxE (v f u : Int) (zs : List Int) (t : Int) (xs : List Int) : Int := if nxB v f u zs t xs then 0 else 1
def nxV (v f u : Int) (zs : List Int) (t : Int) (xs : List Int) : Hv := if nxB v f u zs t xs then ⟨(v + 1) % 256, u, t, xs⟩ else ⟨0, 0, 0, []⟩
/-- A call that answers with a list of its own, and an error. -/
def NxRes (w w' : World) (x : Hv) (er : Int) (e : Ending) : Prop := ∃ va vc, e = .returned (.tuple #[.agg #[.int .i64 x.v, .int .i64 x.f, .int .i64 x.u, .slice va x.chs.length vc], .int .i64 er]) ∧ RowI w.heap.size w' (.slice va x.chs.length vc) x.chs ∧ Fr no w w'
theorem four_frz {w : World} {B T : Nat} {a b c d : Value} (h : w.heap[B]? = some (.cells #[a, b, c, d] T (0, 0))) :
    w.frozen? ⟨B, 0, none⟩ = false ∧ w.frozen? ⟨B, 1, none⟩ = false ∧ w.frozen? ⟨B, 2, none⟩ = false ∧ w.frozen? ⟨B, 3, none⟩ = false := by
  simp [World.frozen?, h]
theorem set_four {w : World} {B T : Nat} {a b c d : Value} (h : w.heap[B]? = some (.cells #[a, b, c, d] T (0, 0))) (p q r s : Value) :
    ((((w.setCell ⟨B, 0, none⟩ p).setCell ⟨B, 1, none⟩ q).setCell ⟨B, 2, none⟩ r).setCell ⟨B, 3, none⟩ s).heap[B]? = some (.cells #[p, q, r, s] T (0, 0)) := by
  rw [three_set (three_set (three_set (three_set h 0 p) 1 q) 2 r) 3 s]
  simp
theorem set_four_fr {S : Nat → Prop} {a w : World} (h : Fr S a w) {B : Nat} (hB : a.heap.size ≤ B) (p q r s : Value) : Fr S a ((((w.setCell ⟨B, 0, none⟩ p).setCell ⟨B, 1, none⟩ q).setCell ⟨B, 2, none⟩ r).setCell ⟨B, 3, none⟩ s) :=
  (((h.setCell (p := ⟨B, 0, none⟩) (.inr hB) p).setCell (p := ⟨B, 1, none⟩) (.inr hB) q).setCell (p := ⟨B, 2, none⟩) (.inr hB) r).setCell (p := ⟨B, 3, none⟩) (.inr hB) s
/-- A row that lies behind B is as it was where only blocks below B have changed. -/
theorem rowI_low {B : Nat} {w w' : World} {v : Value} {l : List Int} (h : RowI B w v l) (hf : Fr (fun k => k < B) w w') : RowI B w' v l := by
  have h' : World.ownsRow w B 3 1 v l.length (Ints l) := h
  rcases h'.2 with ⟨rfl, h0⟩ | ⟨g, cap, cur, rfl, hq1, hq2, hq3, hq4, hq5⟩
  · exact ⟨h'.1, .inl ⟨rfl, h0⟩⟩
  · refine ⟨h'.1, .inr ⟨g, cap, cur, rfl, hq1, ?_, hq3, hq4, hq5⟩⟩
    first | exact hf.blk hq2 (by omega) | exact (hf.block g (lt_of_blk hq2) (by omega)).trans hq2
theorem nx_ints {w : World} {B : Nat} {va : Option Addr} {n vc : Nat} {l : List Int} (h : RowI B w (.slice va n vc) l) : n = l.length := by
  obtain ⟨a, c, e, -, -⟩ := rowI_ints h
  cases e
  rfl
set_option maxRecDepth 20000 in
set_option maxHeartbeats 8000000 in
theorem next_any (v f u : Int) (ca : Option Addr) (ck : Nat) (zs : List Int) (t : Int) (xa : Option Addr) (xc : Nat) (xs : List Int) (w : World) (hz : IntsIn w ca zs.length zs) (hx : IntsIn w xa xs.length xs) (hl : zs.length ≤ 100) (hl2 : xs.length ≤ 100) :
    Calls Try.prog 28 #[.agg #[.int .i64 v, .int .i64 f, .int .i64 u, .slice ca zs.length ck], .int .i64 t, .slice xa xs.length xc] w fun e w' => NxRes w w' (nxV v f u zs t xs) (nxE v f u zs t xs) e := by
  obtain ⟨W, hW⟩ : ∃ W, W = (w.alloc (.cells #[.int .i64 v, .int .i64 f, .int .i64 u, .slice ca zs.length ck] 24 (0, 0))).alloc (.cells #[.int .i64 0, .int .i64 0, .int .i64 0, .slice none 0 0] 24 (0, 0)) := ⟨_, rfl⟩
  have hF : Fr no w W := by rw [hW]; exact ((Fr.refl no w).alloc _).alloc _
  have hA : W.heap[w.heap.size]? = some (.cells #[.int .i64 v, .int .i64 f, .int .i64 u, .slice ca zs.length ck] 24 (0, 0)) := by rw [hW]; exact alloc_keeps (heap_alloc_new w _) _
  have hB : W.heap[w.heap.size + 1]? = some (.cells #[.int .i64 0, .int .i64 0, .int .i64 0, .slice none 0 0] 24 (0, 0)) := by rw [hW]; simpa using heap_alloc_new (w.alloc (.cells #[.int .i64 v, .int .i64 f, .int .i64 u, .slice ca zs.length ck] 24 (0, 0))) (.cells #[.int .i64 0, .int .i64 0, .int .i64 0, .slice none 0 0] 24 (0, 0))
  obtain ⟨a0, a1, a2, a3⟩ := four_cells hA
  have HF := Lib.hid hF
  have HW := Lib.hid hW
  have HA := Lib.hid hA
  have HB := Lib.hid hB
  have HSZ := Lib.hid (show W.heap.size = w.heap.size + 2 by rw [hW]; simp)
  have HZ := Lib.hid (hz.kept hF)
  have HX := Lib.hid (hx.kept hF)
  have HL := Lib.hid (And.intro hl hl2)
  have KV := Lib.hid (fun w => nextVersion_any v w)
  have KC := Lib.hid (fun w h => check_any v f u ca ck zs w h hl)
  have KD := Lib.hid (fun n w h => check_any n u t xa xc xs w h hl2)
  have KE := Lib.hid (fun w h => cloneI_any xa xs.length xc xs w h hl2)
  have HNB := Lib.hid (show nxB v f u zs t xs = (hlB v f u zs && hlB ((v + 1) % 256) u t xs) from rfl)
  have HNE := Lib.hid (show nxE v f u zs t xs = if nxB v f u zs t xs then 0 else 1 from rfl)
  have HNV := Lib.hid (show nxV v f u zs t xs = if nxB v f u zs t xs then ⟨(v + 1) % 256, u, t, xs⟩ else ⟨0, 0, 0, []⟩ from rfl)
  have HE1 := Lib.hid (show hlE v f u zs = if hlB v f u zs then 0 else 1 from rfl)
  have HE2 := Lib.hid (fun n => show hlE n u t xs = if hlB n u t xs then 0 else 1 from rfl)
  have HVR := Lib.hid (fun h : hlB v f u zs = true => (show 0 ≤ v ∧ v ≤ 255 from ⟨(hlB_t h).1, (hlB_t h).2.1⟩))
  obtain ⟨ln, hln⟩ : ∃ ln, ln = zs.length := ⟨_, rfl⟩
  obtain ⟨xn, hxn⟩ : ∃ xn, xn = xs.length := ⟨_, rfl⟩
  simp only [← hln, ← hxn] at KC KD KE HZ HX HL ⊢
  rw [← hln] at HA HW a3
  have HXN := Lib.hid hxn
  clear hz hx hF hA hB hW hl hl2 hln hxn
  go_enter Try.func28, Try.ntmps28
  go_wp2_with fail
  rw [← HW.out]
  go_upto_region 1 with fail
  go_cut [8] (fun s8 wx => ∃ (n : Int) (c : Nat), s8 = .pointer (some ⟨c, 0, none⟩) ∧ NvP v n ∧ wx.heap[c]? = some (.cells #[.int .i64 n, .int .i64 u, .int .i64 t, .slice xa xn xc] 24 (0, 0)) ∧ Fr no W wx ∧ W.heap.size ≤ c)
  case first =>
    have n0 := World.new_ne W _ a0
    have n2 := World.new_ne W _ a2
    go_region_held3 (fun w' => w'.cell? ⟨w.heap.size, 0, none⟩ = some (.int .i64 v) ∧ w'.cell? ⟨w.heap.size, 2, none⟩ = some (.int .i64 u)) (go_keep)
      (first | (go_at_call 51; refine (KV.out _).mono ?_; rintro e w4 ⟨⟨n, rfl, hn⟩, rfl⟩))
    all_goals go_wp2_with fail
    all_goals go_meet
    all_goals refine ⟨n, _, rfl, hn, ?_, ?_, ?_⟩
    all_goals first | (exact heap_alloc_new W _) | (exact ((Fr.refl no W).drewN _).alloc _) | (exact ((Fr.refl no W).alloc _).drewN _) | (simp; done) | skip
  case rest =>
    obtain ⟨n, c, rfl, hn, hC, hf, hc⟩ := hcut
    have HF1 := Lib.hid hf
    have HCC := Lib.hid hc
    have HCB := Lib.hid hC
    have HN := Lib.hid hn
    have hAw := hf.blk HA.out (fun h => h)
    have hRw := hf.blk HB.out (fun h => h)
    clear a0 a1 a2 a3
    obtain ⟨a0, a1, a2, a3⟩ := four_cells hAw
    have HZ1 := Lib.hid (HZ.out.kept hf)
    have HX1 := Lib.hid (HX.out.kept hf)
    have HR1 := Lib.hid hRw
    clear hf hc hC hn hAw hRw
    have KC := Lib.hid (KC.out _ HZ1.out)
    generalize hlE v f u zs = E1 at *
    cases hb1 : hlB v f u zs
    · rw [hb1] at HE1 HNB
      have hE1 : E1 = 1 := HE1.out
      have hNB : nxB v f u zs t xs = false := HNB.out
      rw [hNB] at HNE HNV
      have HNE := Lib.hid (show nxE v f u zs t xs = 1 from HNE.out)
      have HNV := Lib.hid (show nxV v f u zs t xs = ⟨0, 0, 0, []⟩ from HNV.out)
      subst hE1
      clear hb1 hNB
      go_wp2_with fail
      refine KC.out.mono ?_
      rintro e w1 ⟨rfl, f1⟩
      have hr := f1.blk HR1.out (fun h => h)
      obtain ⟨y0, y1, y2, y3⟩ := four_cells hr
      obtain ⟨g0, g1, g2, g3⟩ := four_frz hr
      have HF2 := Lib.hid (HF.out.noTrans (HF1.out.noTrans f1))
      have HR2 := Lib.hid hr
      clear f1 hr a0 a1 a2 a3
      go_wp2_with fail
      obtain ⟨z0, z1, z2, z3⟩ := four_cells (set_four HR2.out (.int .i64 0) (.int .i64 0) (.int .i64 0) (.slice none 0 0))
      refine bodyPost_ret (v := .tuple #[.agg #[.int .i64 0, .int .i64 0, .int .i64 0, .slice none 0 0], .int .i64 1]) (by simp [results, Try.results28, go_sem, z0, z1, z2, z3]) rfl ?_
      rw [HNE.out, HNV.out]
      exact ⟨none, 0, rfl, World.ownsRow_nil _ _ _ _, set_four_fr HF2.out (by omega) _ _ _ _⟩
    · rw [hb1] at HE1 HNB
      have hE1 : E1 = 0 := HE1.out
      have hNB : nxB v f u zs t xs = hlB ((v + 1) % 256) u t xs := HNB.out
      have hn : n = (v + 1) % 256 := HN.out (HVR.out hb1).1 (HVR.out hb1).2
      rw [hNB] at HNE HNV
      rw [← hn] at HNE HNV
      have KD := Lib.hid (KD.out n)
      have HE2 := Lib.hid (HE2.out n)
      generalize hlE n u t xs = E2 at *
      subst hE1
      clear hb1 hNB hn HN
      have hcR : c ≠ w.heap.size + 1 := by have := HCC.out; have := HSZ.out; omega
      have hRc : w.heap.size + 1 ≠ c := fun h => hcR h.symm
      go_wp2_with fail
      refine KC.out.mono ?_
      rintro e w1 ⟨rfl, f1⟩
      have HCB1 := Lib.hid (f1.blk HCB.out (fun h => h))
      obtain ⟨b0, b1, b2, b3⟩ := four_cells HCB1.out
      have HX2 := Lib.hid (HX1.out.kept f1)
      have HR2 := Lib.hid (f1.blk HR1.out (fun h => h))
      have HF2 := Lib.hid (HF.out.noTrans (HF1.out.noTrans f1))
      clear f1 a0 a1 a2 a3
      go_wp2_with fail
      refine (KD.out _ HX2.out).mono ?_
      rintro e w2 ⟨rfl, f2⟩
      have HCB2 := Lib.hid (f2.blk HCB1.out (fun h => h))
      have HX3 := Lib.hid (HX2.out.kept f2)
      have hr := f2.blk HR2.out (fun h => h)
      have HF3 := Lib.hid (HF2.out.noTrans f2)
      clear f2 b0 b1 b2 b3
      cases hb2 : hlB n u t xs
      · rw [hb2] at HE2 HNE HNV
        have hE2 : E2 = 1 := HE2.out
        have HNE := Lib.hid (show nxE v f u zs t xs = 1 from HNE.out)
        have HNV := Lib.hid (show nxV v f u zs t xs = ⟨0, 0, 0, []⟩ from HNV.out)
        subst hE2
        clear hb2
        obtain ⟨y0, y1, y2, y3⟩ := four_cells hr
        obtain ⟨g0, g1, g2, g3⟩ := four_frz hr
        have HR2 := Lib.hid hr
        have HF2 := Lib.hid HF3.out
        clear hr
        go_wp2_with fail
        obtain ⟨z0, z1, z2, z3⟩ := four_cells (set_four HR2.out (.int .i64 0) (.int .i64 0) (.int .i64 0) (.slice none 0 0))
        refine bodyPost_ret (v := .tuple #[.agg #[.int .i64 0, .int .i64 0, .int .i64 0, .slice none 0 0], .int .i64 1]) (by simp [results, Try.results28, go_sem, z0, z1, z2, z3]) rfl ?_
        rw [HNE.out, HNV.out]
        exact ⟨none, 0, rfl, World.ownsRow_nil _ _ _ _, set_four_fr HF2.out (by omega) _ _ _ _⟩
      · rw [hb2] at HE2 HNE HNV
        have hE2 : E2 = 0 := HE2.out
        have HNE := Lib.hid (show nxE v f u zs t xs = 0 from HNE.out)
        have HNV := Lib.hid (show nxV v f u zs t xs = ⟨n, u, t, xs⟩ from HNV.out)
        subst hE2
        have HR3 := Lib.hid hr
        clear hb2 hr
        go_wp2_with fail
        refine (KE.out _ HX3.out).mono ?_
        rintro e w3 ⟨vv, rfl, hown, f3⟩
        obtain ⟨va, vc, rfl, -, -⟩ := rowI_ints hown
        have HO := Lib.hid hown
        have hc3 := f3.blk HCB2.out (fun h => h)
        have hr3 := f3.blk HR3.out (fun h => h)
        obtain ⟨b0, b1, b2, b3⟩ := four_cells hc3
        obtain ⟨k0, k1, k2, k3⟩ := four_frz hc3
        obtain ⟨y0, y1, y2, y3⟩ := four_cells hr3
        obtain ⟨g0, g1, g2, g3⟩ := four_frz hr3
        have HR4 := Lib.hid hr3
        have HF4 := Lib.hid (HF3.out.noTrans f3)
        have HW2 := Lib.hid (show w.heap.size ≤ w2.heap.size from HF3.out.size)
        have HC3 := Lib.hid (lt_of_blk HCB2.out)
        have HR5 := Lib.hid (lt_of_blk HR3.out)
        clear hown f3 hc3 hr3
        go_wp2_with fail
        obtain ⟨z0, z1, z2, z3⟩ := four_cells (set_four (other_set HR4.out (.slice va xs.length vc) hRc (i := 3)) (.int .i64 n) (.int .i64 u) (.int .i64 t) (.slice va xs.length vc))
        refine bodyPost_ret (v := .tuple #[.agg #[.int .i64 n, .int .i64 u, .int .i64 t, .slice va xs.length vc], .int .i64 0]) (by simp [results, Try.results28, go_sem, z0, z1, z2, z3]) rfl ?_
        rw [HNE.out, HNV.out]
        refine ⟨va, vc, rfl, ?_, set_four_fr (HF4.out.setCell (p := ⟨c, 3, none⟩) (.inr (show w.heap.size ≤ c by have := HCC.out; have := HSZ.out; omega)) _) (by omega) _ _ _ _⟩
        have hfx : Fr (fun k => k < w2.heap.size) w3 (((((w3.setCell ⟨c, 3, none⟩ (.slice va xs.length vc)).setCell ⟨w.heap.size + 1, 0, none⟩ (.int .i64 n)).setCell ⟨w.heap.size + 1, 1, none⟩ (.int .i64 u)).setCell ⟨w.heap.size + 1, 2, none⟩ (.int .i64 t)).setCell ⟨w.heap.size + 1, 3, none⟩ (.slice va xs.length vc)) :=
          (((((Fr.refl _ w3).setCell (p := ⟨c, 3, none⟩) (.inl HC3.out) _).setCell (p := ⟨w.heap.size + 1, 0, none⟩) (.inl HR5.out) _).setCell (p := ⟨w.heap.size + 1, 1, none⟩) (.inl HR5.out) _).setCell (p := ⟨w.heap.size + 1, 2, none⟩) (.inl HR5.out) _).setCell (p := ⟨w.heap.size + 1, 3, none⟩) (.inl HR5.out) _
        exact (rowI_low HO.out hfx).mono HW2.out

end Go.Proofs.Ytpaoacdgmfaolaa
