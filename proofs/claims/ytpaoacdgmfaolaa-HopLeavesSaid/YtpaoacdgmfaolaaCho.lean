/- Going round to an offset. -/
import Derived.Test.YtpaoacdgmfaolaaRnd
namespace Go.Proofs.Ytpaoacdgmfaolaa
set_option linter.unusedVariables false
open Go.RowKit
open Go.Shelf


attribute [local go_sem] Oper.semAt_some
set_option maxRecDepth 100000 in
set_option maxHeartbeats 16000000 in
theorem channelOf_any (v f u : Int) (ca : Option Addr) (ck : Nat) (zs : List Int) (s o : Int) (w : World) (hz : IntsIn w ca zs.length zs) (h1 : 1 ≤ zs.length) (h2 : zs.length ≤ 16) (s0 : 0 ≤ s) (s1 : s ≤ 109951163) (o0 : 0 ≤ o) (o1 : o < zs.length) :
    Calls Try.prog 36 #[.agg #[.int .i64 v, .int .i64 f, .int .i64 u, .slice ca zs.length ck], .int .i64 s, .int .i64 o] w fun e w' => e = .returned (.int .i64 (cha zs s o)) ∧ Fr no w w' := by
  have HZ := Lib.hid hz
  have HL := Lib.hid (And.intro h1 h2)
  have HO := Lib.hid (And.intro o0 o1)
  obtain ⟨ln, hln⟩ : ∃ ln, ln = zs.length := ⟨_, rfl⟩
  have HRA := Lib.hid (fun w => round_any v f u ca ck zs s w)
  simp only [← hln] at HRA ⊢
  have HLN := Lib.hid hln
  clear hz h1 h2 o0 o1 hln
  refine (callsIn_wide (n := 3)).1 ?_
  refine callsIn_of_wp_marks Try.func36 rfl trivial ?_ rfl
  simp only [Try.ntmps36, List.size_toArray, List.length_cons, List.length_nil, Nat.reduceAdd, Nat.reduceSub, Array.replicate_succ, Array.replicate_zero, List.push_toArray, List.append_toArray, List.nil_append, List.cons_append]
  gi_wp2_with fail
  refine ⟨trivial, ?_⟩
  refine (callsIn_wide.2 (HRA.out _)).mono ?_
  rintro e' w' ⟨rfl, rfl⟩
  gi_wp2_with fail
  obtain ⟨WL, hWL⟩ : ∃ WL, WL = ((((w.alloc (.cells #[.int .i64 v, .int .i64 f, .int .i64 u, .slice ca ln ck] 24 (0, 0))).alloc (.cells #[.int .i64 o] 3 (0, 0))).alloc (.cells #[.int .i64 0] 3 (0, 0))).alloc (.cells #[.int .i64 v, .int .i64 f, .int .i64 u, .slice ca ln ck] 24 (0, 0))).alloc (.cells #[.int .i64 s] 3 (0, 0)) := ⟨_, rfl⟩
  have hWS : WL.heap.size = w.heap.size + 5 := by rw [hWL]; simp
  have bW : WL.heap[w.heap.size + 1]? = some (.cells #[.int .i64 o] 3 (0, 0)) := by
    rw [hWL]; exact alloc_keeps (alloc_keeps (alloc_keeps (by simpa using heap_alloc_new (w.alloc (.cells #[.int .i64 v, .int .i64 f, .int .i64 u, .slice ca ln ck] 24 (0, 0))) (.cells #[.int .i64 o] 3 (0, 0))) _) _) _
  have bF : WL.heap[w.heap.size + 1 + 1]? = some (.cells #[.int .i64 0] 3 (0, 0)) := by
    rw [hWL]; exact alloc_keeps (alloc_keeps (by simpa using heap_alloc_new ((w.alloc (.cells #[.int .i64 v, .int .i64 f, .int .i64 u, .slice ca ln ck] 24 (0, 0))).alloc (.cells #[.int .i64 o] 3 (0, 0))) (.cells #[.int .i64 0] 3 (0, 0))) _) _
  have cX : WL.cell? ⟨w.heap.size + 1 + 1 + 1, 3, none⟩ = some (.slice ca ln ck) := by rw [hWL]; go_simp
  have cS : WL.cell? ⟨w.heap.size + 1 + 1 + 1 + 1, 0, none⟩ = some (.int .i64 s) := by rw [hWL]; go_simp
  have hFL : Fr no w WL := by rw [hWL]; exact (((((Fr.refl no w).alloc _).alloc _).alloc _).alloc _).alloc _
  rw [← hWL]
  have HFL := Lib.hid hFL
  have HWS := Lib.hid hWS
  have HZL := Lib.hid (HZ.out.kept hFL)
  have HCA := Lib.hid (show ∀ b off, ca = some ⟨b, off, none⟩ → b < w.heap.size from fun b off e => by
    obtain ⟨b2, off2, e2, c2⟩ := HZ.out.2 0 (by have := HL.out; omega)
    rw [e] at e2
    cases e2
    exact World.block_lt_of_cell? w _ c2)
  have BW := Lib.hid bW
  clear hWL hWS hFL bW
  refine wpIn_rangeFunc_ownH rfl (by omega) (gf := 56) (lb := #[.pointer (some ⟨w.heap.size + 1 + 1 + 1, 0, none⟩), .pointer (some ⟨w.heap.size + 1 + 1 + 1 + 1, 0, none⟩)]) rfl trivial (enters_of Try.func56 (by kernel_rfl) rfl)
    (round_stops 2 (by omega) (w.heap.size + 1 + 1 + 1) (w.heap.size + 1 + 1 + 1 + 1) (w.heap.size + 1 + 1) WL.heap.size ca ck zs s WL HL.out.1 HL.out.2 s0 s1
      (by have := HWS.out; simp only [out]; omega) (by have := HWS.out; simp only [out]; omega) (fun b off e => by have := HWS.out; have := HCA.out b off e; simp only [out]; omega) (by rw [← HLN.out]; exact cX) cS HZL.out)
    (fun h k => h.trans k (fun _ _ h => h)) (fun W l o o' hl h _ _ => (Fr.refl _ W).putObj (.inl (.inr hl)) o') (Below.refl _ _) (fun _ => rfl)
    (fun pre W => W.heap[w.heap.size + 1 + 1]? = some (.cells #[.int .i64 0] 3 (0, 0)) ∧ Fr (only (w.heap.size + 1 + 1)) WL W ∧ ∀ x ∈ pre, x.1 ≠ o)
    (fun c pre W => c = .exit 0 ∧ ∃ x ∈ pre, x.1 = o ∧ W.heap[w.heap.size + 1 + 1]? = some (.cells #[.int .i64 x.2] 3 (0, 0)) ∧ Fr (only (w.heap.size + 1 + 1)) WL W)
    (OwnFrom.and ownFrom_blk (OwnFrom.and (ownFrom_fr (Nat.le_refl _)) ownFrom_pure))
    (fun c pre X Y row hs hg hr => by obtain ⟨h0, x, h1, h2, h3, h4⟩ := hs; exact ⟨h0, x, h1, h2, ownFrom_blk (β := Unit) () X Y row h3 hg hr, ownFrom_fr (β := Unit) (Nat.le_refl _) () X Y row h4 hg hr⟩)
    ⟨bF, Fr.refl _ _, fun x hx => by simp at hx⟩
    (fun x a' W => a' = { tmps := #[.agg #[.int .i64 v, .int .i64 f, .int .i64 u, .slice ca ln ck], .int .i64 s, .int .i64 o, .pointer (some ⟨w.heap.size, 0, none⟩), undef, .pointer (some ⟨w.heap.size + 1, 0, none⟩), .int .i64 0, .pointer (some ⟨w.heap.size + 1 + 1, 0, none⟩), .int .i64 x.1, .int .i64 x.2, .agg #[.int .i64 v, .int .i64 f, .int .i64 u, .slice ca ln ck], .int .i64 s, .func (.func 56) #[] #[.pointer (some ⟨w.heap.size + 1 + 1 + 1, 0, none⟩), .pointer (some ⟨w.heap.size + 1 + 1 + 1 + 1, 0, none⟩)], .int .i64 x.1, .int .i64 x.2, undef, undef, undef, undef, undef], defers := [] })
    (fun x a' _ X Y row hs hg hr => hs)
    ?assign ?body ?done ?stop
  case assign =>
    rintro l pre x W K ⟨b1, f1, g1⟩ hK
    have HK := Lib.hid hK
    have HB1 := Lib.hid b1
    have HF1 := Lib.hid f1
    have HG1 := Lib.hid g1
    clear hK b1 f1 g1
    simp only [encR]
    gi_wp2
    exact HK.out _ _ ((KeepsOthers.refl _).from _) (Fr.refl _ W) ⟨HB1.out, HF1.out, HG1.out⟩ rfl
  case body =>
    rintro l pre ⟨xo, xc⟩ a' W hl ⟨r, hr⟩ ⟨b1, f1, g1⟩ rfl hlt
    have b2 := f1.blk BW.out (by simp only [only]; omega)
    have c1 : W.cell? ⟨w.heap.size + 1, 0, none⟩ = some (.int .i64 o) := by simp [World.cell?, b2]
    have c2 : W.cell? ⟨w.heap.size + 1 + 1, 0, none⟩ = some (.int .i64 0) := by simp [World.cell?, b1]
    have c3 : W.frozen? ⟨w.heap.size + 1 + 1, 0, none⟩ = false := by simp [World.frozen?, b1]
    have HB1 := Lib.hid b1
    have HF1 := Lib.hid f1
    have HG1 := Lib.hid g1
    clear b1 b2 f1 g1 hr hlt
    by_cases hxo : xo = o
    · have HXO := Lib.hid hxo
      have hd : (xo == o) = true := by simpa using hxo
      clear hxo
      gi_wp2_with fail
      exact ⟨(KeepsOthers.setCell _ _ _).from _, rfl, (xo, xc), by simp, HXO.out, by simp [World.setCell, Array.getElem?_modify, HB1.out], HF1.out.setCell (p := ⟨w.heap.size + 1 + 1, 0, none⟩) (.inl rfl) _⟩
    · have HXO := Lib.hid hxo
      have hd : (xo == o) = false := by simpa using hxo
      gi_wp2_with fail
      exact ⟨(KeepsOthers.refl _).from _, Fr.refl _ _, HB1.out, HF1.out, fun x hx => by
        rcases List.mem_append.1 hx with hx | hx
        · exact HG1.out x hx
        · rw [List.mem_singleton.1 hx]; exact HXO.out⟩
  case done =>
    rintro D xs W hD rfl ⟨b1, f1, g1⟩ hK
    exfalso
    refine g1 (o, cha zs s o) (rnL_mem.2 ⟨o.toNat, by have := HO.out; have := HLN.out; omega, ?_⟩) rfl
    have e : ((o.toNat : Nat) : Int) = o := by have := HO.out; omega
    rw [e]
  case stop =>
    rintro D c pre W hD ⟨k, hk, rfl⟩ ⟨rfl, x, hx, hxo, b1, f1⟩ hK
    obtain ⟨j, hj, rfl⟩ := rnL_mem.1 hx
    dsimp only at hxo b1
    rw [hxo] at b1
    have c2 : W.cell? ⟨w.heap.size + 1 + 1, 0, none⟩ = some (.int .i64 (cha zs s o)) := by simp [World.cell?, b1]
    have HF1 := Lib.hid f1
    have HKD := Lib.hid hK
    clear hx hxo b1 f1 hK
    obtain ⟨c, hc⟩ : ∃ c, c = cha zs s o := ⟨_, rfl⟩
    rw [← hc] at c2
    have HCE := Lib.hid hc
    clear hc
    gi_wp2_with fail
    refine ⟨by simp, .inl ⟨_, _, rfl, run_takeDeferred HKD.out, ?_⟩⟩
    refine ⟨_, results_tmp rfl _ _ _, by rw [← HCE.out]; rfl, ?_⟩
    exact (HFL.out.trans HF1.out (fun i hi h => by simp only [only] at h; omega)).putObj (.inr (Nat.le_trans HFL.out.size hD)) _

end Go.Proofs.Ytpaoacdgmfaolaa
