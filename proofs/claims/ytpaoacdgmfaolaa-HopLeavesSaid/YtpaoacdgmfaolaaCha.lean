/- Channels. -/
import Derived.Test.YtpaoacdgmfaolaaCho
import Derived.BigQuiet
import Derived.Deep.RegionWith
namespace Go.Proofs.Ytpaoacdgmfaolaa
set_option linter.unusedVariables false
open Go.RowKit

/-- A world behind calls that only made blocks. -/
structure Past (w : World) where
  u : World
  h : Fr no w u
theorem wp_region_past {P : Program} {id : Nat} {Q : Exit → Act → World → Prop} {a : Act} {w : World} {l : List Oper} (hm : P.follows .mixedOrders = true) (hB : Region.lexB .any l.toArray = true)
    (h : wpQuiet P l.toArray (fun w' => ∃ p : Past w, w' = p.u) (fun a' => ∀ w', (∃ p : Past w, w' = p.u) → Q .normal a' w') l a) : (Code.region id l.toArray true).wp P Q a w :=
  wp_region_quiet (C := fun w' => ∃ p : Past w, w' = p.u) hm hB ⟨⟨_, (Fr.refl no w).drew⟩, rfl⟩ (by simpa using h)
theorem past_out {w u : World} (h : ∃ p : Past w, u = p.u) : Fr no w u := by obtain ⟨p, rfl⟩ := h; exact p.h
theorem past_of {P : Program} {f : FuncId} {args : Array Value} {w : World} {p : Past w} {v : Value} (h : Calls P f args p.u fun e w' => e = .returned v ∧ Fr no p.u w') :
    Calls P f args p.u fun e w'' => e = .returned v ∧ ∃ p' : Past w, w'' = p'.u :=
  h.mono fun _ _ ⟨he, hf⟩ => ⟨he, ⟨_, p.h.noTrans hf⟩, rfl⟩
theorem past_same {P : Program} {f : FuncId} {args : Array Value} {w : World} {p : Past w} {v : Value} (h : Calls P f args p.u fun e w' => e = .returned v ∧ w' = p.u) :
    Calls P f args p.u fun e w'' => e = .returned v ∧ ∃ p' : Past w, w'' = p'.u :=
  h.mono fun _ _ ⟨he, hf⟩ => ⟨he, p, hf⟩


theorem ints_new (w : World) (zs : List Int) (T : Nat) : IntsIn (w.alloc (.cells (Ints zs).toArray T (0, 0))) (some ⟨w.heap.size, 0, none⟩) zs.length zs := ⟨rfl, fun i hi => ⟨_, _, rfl, by
  simp only [World.cell?, heap_alloc_new w _]
  simp [Ints, List.getD_eq_getElem?_getD, hi]⟩⟩
theorem use_0 {v f u : Int} {zs : List Int} {s : Int} {os : List Int} (h : useL v f u zs s os = 0) : hlB v f u zs = true ∧ f ≤ s ∧ s < u ∧ os.all (fun o => inR o 0 ((zs.length : Int) - 1)) = true := by
  unfold useL at h
  cases h1 : hlB v f u zs
  · simp [h1] at h
  cases h2 : (decide (f ≤ s) && decide (s < u))
  · simp [h1, h2] at h
  cases h3 : os.all (fun o => inR o 0 ((zs.length : Int) - 1))
  · simp [h1, h2, h3] at h
  simp only [Bool.and_eq_true, decide_eq_true_eq] at h2
  exact ⟨rfl, h2.1, h2.2, rfl⟩
def chV (v f u : Int) (zs : List Int) (s o : Int) : Int := if useL v f u zs s [o] = 0 then cha zs s o else 0
def meV (v f u : Int) (zs : List Int) (s a b : Int) : Bool := decide (useL v f u zs s [a, b] = 0) && decide (cha zs s a = cha zs s b)
/-- What holds where a list can be used. -/
theorem use_facts {v f u : Int} {zs : List Int} {s : Int} {os : List Int} (h : useL v f u zs s os = 0) : 1 ≤ zs.length ∧ zs.length ≤ 16 ∧ 0 ≤ s ∧ s ≤ 109951163 ∧ ∀ o ∈ os, 0 ≤ o ∧ o < zs.length := by
  obtain ⟨h1, h2, h3, h4⟩ := use_0 h
  obtain ⟨-, -, a, b, c, d⟩ := hlB_t h1
  obtain ⟨l1, l2, -, -⟩ := chB_t d
  refine ⟨l1, l2, by omega, by omega, fun o ho => ?_⟩
  rw [List.all_eq_true] at h4
  have := inR_t.1 (h4 o ho)
  omega
set_option maxHeartbeats 4000000 in
theorem channel_any (v f u : Int) (ca : Option Addr) (ck : Nat) (zs : List Int) (s o : Int) (w : World) (hz : IntsIn w ca zs.length zs) (hl : zs.length ≤ 100) :
    Calls Try.prog 12 #[.agg #[.int .i64 v, .int .i64 f, .int .i64 u, .slice ca zs.length ck], .int .i64 s, .int .i64 o] w fun e w' => e = .returned (.tuple #[.int .i64 (chV v f u zs s o), .int .i64 (useL v f u zs s [o])]) ∧ Fr no w w' := by
  obtain ⟨W, hW⟩ : ∃ W, W = w.alloc (.cells #[.int .i64 v, .int .i64 f, .int .i64 u, .slice ca zs.length ck] 24 (0, 0)) := ⟨_, rfl⟩
  have hF : Fr no w W := by rw [hW]; exact (Fr.refl no w).alloc _
  have h1 : W.heap[w.heap.size]? = some (.cells #[.int .i64 v, .int .i64 f, .int .i64 u, .slice ca zs.length ck] 24 (0, 0)) := by rw [hW]; exact heap_alloc_new w _
  obtain ⟨c0, c1, c2, c3⟩ := four_cells h1
  have HF := Lib.hid hF
  have HW := Lib.hid hW
  have H1 := Lib.hid h1
  have HZ := Lib.hid (hz.kept hF)
  have HL := Lib.hid hl
  have HWS := Lib.hid (show W.heap.size = w.heap.size + 1 by rw [hW]; simp)
  have HC := Lib.hid (show chV v f u zs s o = if useL v f u zs s [o] = 0 then cha zs s o else 0 from rfl)
  have HU := Lib.hid (show ∀ x, IntsIn x ca zs.length zs → IntsIn x (some ⟨w.heap.size + 1, 0, none⟩) 1 [o] → Calls Try.prog 35 #[.agg #[.int .i64 v, .int .i64 f, .int .i64 u, .slice ca zs.length ck], .int .i64 s, .slice (some ⟨w.heap.size + 1, 0, none⟩) 1 1] x (fun e w' => e = .returned (.int .i64 (useL v f u zs s [o])) ∧ Fr no x w') from fun x hz ho => checkUse_any v f u ca ck zs s (w.heap.size + 1) 1 [o] x hz hl ho (by simp))
  have HUF := Lib.hid (fun h : useL v f u zs s [o] = 0 => use_facts h)
  generalize useL v f u zs s [o] = E at *
  have HCO := Lib.hid (fun w hz h1 h2 s0 s1 o0 o1 => channelOf_any v f u ca ck zs s o w hz h1 h2 s0 s1 o0 o1)
  obtain ⟨ln, hln⟩ : ∃ ln, ln = zs.length := ⟨_, rfl⟩
  simp only [← hln] at HU HCO HUF ⊢
  rw [← hln] at H1 HW c3
  have HLN := Lib.hid hln
  clear hz hF h1 hW hl hln
  by_cases hE : E = 0
  · subst hE
    obtain ⟨l1, l2, s0, s1, ho⟩ := HUF.out rfl
    have ho := ho o (by simp)
    have HC := Lib.hid (show chV v f u zs s o = cha zs s o from HC.out)
    have HCO := Lib.hid (fun w hz => HCO.out w hz l1 l2 s0 s1 ho.1 ho.2)
    clear l1 l2 s0 s1 ho HUF
    go_enter Try.func12, Try.ntmps12
    go_wp2_with fail
    rw [← HW.out]
    go_wp2_with fail
    refine (HU.out _ (by rw [HLN.out]; exact HZ.out.kept ((Fr.refl no W).alloc _)) ?ho).mono ?_
    case ho => exact ⟨rfl, fun i hi => ⟨_, _, rfl, by obtain rfl : i = 0 := by omega
                                                      rw [← HWS.out]; exact cell_new1 _ _ _⟩⟩
    rintro e w2 ⟨rfl, f2⟩
    have HF2 := Lib.hid (((Fr.refl no W).alloc _).noTrans f2)
    obtain ⟨d0, d1, d2, d3⟩ := four_cells (HF2.out.blk H1.out (fun h => h))
    clear f2
    go_wp2_with fail
    refine (HCO.out _ (by rw [HLN.out]; exact HZ.out.kept HF2.out)).mono ?_
    rintro e w3 ⟨rfl, f3⟩
    have HF3 := Lib.hid (HF.out.noTrans (HF2.out.noTrans f3))
    clear f3
    go_wp2_with fail
    go_ret2
    rw [HC.out]
    exact ⟨rfl, HF3.out⟩
  · have HC := Lib.hid (show chV v f u zs s o = 0 from HC.out.trans (if_neg hE))
    have hE1 : (E == 0) = false := by simpa using hE
    have hE2 : decide (E = 0) = false := by simpa using hE
    clear HUF HCO
    go_enter Try.func12, Try.ntmps12
    go_wp2_with fail
    rw [← HW.out]
    go_wp2_with fail
    refine (HU.out _ (by rw [HLN.out]; exact HZ.out.kept ((Fr.refl no W).alloc _)) ?ho).mono ?_
    case ho => exact ⟨rfl, fun i hi => ⟨_, _, rfl, by obtain rfl : i = 0 := by omega
                                                      rw [← HWS.out]; exact cell_new1 _ _ _⟩⟩
    rintro e w2 ⟨rfl, f2⟩
    have HF2 := Lib.hid (HF.out.noTrans (((Fr.refl no W).alloc _).noTrans f2))
    clear f2
    go_wp2_with fail
    go_ret2
    rw [HC.out]
    exact ⟨rfl, HF2.out⟩

end Go.Proofs.Ytpaoacdgmfaolaa
