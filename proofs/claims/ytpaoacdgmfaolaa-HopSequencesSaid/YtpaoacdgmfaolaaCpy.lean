/- Copies of lists of lists. -/
import Derived.Test.YtpaoacdgmfaolaaClh
namespace Go.Proofs.Ytpaoacdgmfaolaa
set_option linter.unusedVariables false
open Go.RowKit


theorem own_at {B : Nat} {w : World} {ao : Option Addr} {len : Nat} {xs : List Hv} (h : OwnH B w ao len xs) {k : Nat} (hk : k < len) : ∃ g ca ck, ao = some ⟨g, 0, none⟩ ∧ B ≤ g ∧ IntsIn w ca (hvAt xs k).chs.length (hvAt xs k).chs ∧ w.cell? ⟨g, k * 4 + 3, none⟩ = some (.slice ca (hvAt xs k).chs.length ck) ∧ w.frozen? ⟨g, k * 4 + 3, none⟩ = false := by
  obtain ⟨g, rfl, hb, hf⟩ := h.2 k hk
  obtain ⟨b, off, ca, ck, ha, hI, -, -, -, -, h3⟩ := h.1.2 k hk
  cases ha
  rw [Nat.zero_add] at h3
  exact ⟨g, ca, ck, rfl, hb, hI, h3, hf _ (by omega)⟩
theorem OwnH.kept {B : Nat} {w w' : World} {ao : Option Addr} {len : Nat} {xs : List Hv} (h : OwnH B w ao len xs) (hf : Fr no w w') : OwnH B w' ao len xs := ⟨h.1.kept hf, fun i hi => by
  obtain ⟨g, rfl, hb, hz⟩ := h.2 i hi
  refine ⟨g, rfl, hb, fun j hj => ?_⟩
  obtain ⟨u, hu, -⟩ := hv_cell h.1 j hj
  rw [add_at, Nat.zero_add] at hu
  rw [hf.frozen (World.block_lt_of_cell? w _ hu) (fun h => h)]
  exact hz j hj⟩
theorem OwnH.put {B : Nat} {w : World} {g len : Nat} {xs : List Hv} (h : OwnH B w (some ⟨g, 0, none⟩) len xs) {k : Nat} (hk : k < len) {va : Option Addr} {vc : Nat} (hI : IntsIn w va (hvAt xs k).chs.length (hvAt xs k).chs) (hc : (hvAt xs k).chs.length ≤ vc) :
    OwnH B (w.setCell ⟨g, k * 4 + 3, none⟩ (.slice va (hvAt xs k).chs.length vc)) (some ⟨g, 0, none⟩) len xs := by
  obtain ⟨g', ca, ck, e, -, -, h3, -⟩ := own_at h hk
  cases e
  have ints : ∀ (a : Option Addr) (n : Nat) (l : List Int), IntsIn w a n l → IntsIn (w.setCell ⟨g, k * 4 + 3, none⟩ (.slice va (hvAt xs k).chs.length vc)) a n l := fun a n l hi => ⟨hi.1, fun i hin => by
    obtain ⟨b, off, ha, hcl⟩ := hi.2 i hin
    refine ⟨b, off, ha, ?_⟩
    rw [World.cell?_setCell_other _ _ _ _ (fun e => by rw [e, hcl] at h3; cases h3)]
    exact hcl⟩
  have oth : ∀ j, j ≠ k * 4 + 3 → (w.setCell ⟨g, k * 4 + 3, none⟩ (.slice va (hvAt xs k).chs.length vc)).cell? ⟨g, j, none⟩ = w.cell? ⟨g, j, none⟩ := fun j hj => World.cell?_setCell_other _ _ _ _ (fun e => by cases e; exact hj rfl)
  refine ⟨⟨h.1.1, fun i hi => ?_⟩, fun i hi => ?_⟩
  · obtain ⟨b, off, ca2, ck2, ha, hI2, hk2, e0, e1, e2, e3⟩ := h.1.2 i hi
    cases ha
    rw [Nat.zero_add] at e0 e1 e2 e3
    by_cases e : i = k
    · subst e
      refine ⟨g, 0, va, vc, rfl, ints _ _ _ hI, hc, ?_, ?_, ?_, ?_⟩ <;> rw [Nat.zero_add]
      · rw [oth _ (by omega)]; exact e0
      · rw [oth _ (by omega)]; exact e1
      · rw [oth _ (by omega)]; exact e2
      · exact World.cell?_setCell_same _ _ _ e3
    · refine ⟨g, 0, ca2, ck2, rfl, ints _ _ _ hI2, hk2, ?_, ?_, ?_, ?_⟩ <;> rw [Nat.zero_add]
      · rw [oth _ (by omega)]; exact e0
      · rw [oth _ (by omega)]; exact e1
      · rw [oth _ (by omega)]; exact e2
      · rw [oth _ (by omega)]; exact e3
  · obtain ⟨g2, e, hb, hz⟩ := h.2 i hi
    cases e
    exact ⟨g, rfl, hb, fun j hj => by rw [World.frozen?_setCell]; exact hz j hj⟩
set_option maxRecDepth 20000 in
set_option maxHeartbeats 8000000 in
theorem cp_any (ao : Option Addr) (len cap : Nat) (xs : List Hv) (w : World) (h : HvsIn w ao len xs) (hl : len ≤ 40) (hc : FewC len xs) :
    Calls Try.prog 20 #[.slice ao len cap] w fun e w' => ∃ bo bc, e = .returned (.slice bo len bc) ∧ HvsIn w' bo len xs ∧ Fr no w w' := by
  have KC := Lib.hid (cloneH_any ao len cap xs w h hl)
  have HL := Lib.hid hl
  have HC := Lib.hid hc
  have HXL := Lib.hid h.1
  clear h hl hc
  go_enter Try.func20, Try.ntmps20
  go_wp2_with fail
  refine KC.out.mono ?_
  rintro e w1 ⟨bo, bc, rfl, hO, -, f1⟩
  have HO := Lib.hid hO
  have F1 := Lib.hid f1
  clear hO f1
  go_wp2_with fail
  go_loopw [4, 9] (fun _ i wr => ∃ k : Nat, k ≤ len ∧ i = .int .i64 k ∧ Hid (OwnH w.heap.size wr bo len xs) ∧ Hid (Fr no w wr)) (fun _ i _ => len - (intOf i).toNat)
  case atStart => exact ⟨0, Nat.zero_le _, rfl, HO, F1⟩
  case round =>
    obtain ⟨k, hk, rfl, O, F⟩ := hrel
    by_cases hlt : k < len
    · have hkI : (k : Int) ≤ 39 := by have := HL.out; omega
      obtain ⟨g, ca, ck, rfl, hg, hI, h3, h3f⟩ := own_at O.out hlt
      have KI := Lib.hid (cloneI_any ca (hvAt xs k).chs.length ck (hvAt xs k).chs wr hI (HC.out k hlt))
      have HP := Lib.hid (fun (w' : World) (h : OwnH w.heap.size w' (some ⟨g, 0, none⟩) len xs) (va : Option Addr) (vc : Nat) hi hcc => OwnH.put h hlt (va := va) (vc := vc) hi hcc)
      have HG := Lib.hid hg
      clear hI hg
      generalize hn : (hvAt xs k).chs = l at *
      have HN := Lib.hid hn
      clear hn
      go_wp2_with fail
      refine KI.out.mono ?_
      rintro e w2 ⟨vv, rfl, hr, f2⟩
      obtain ⟨va, vc, rfl, hcap, hri⟩ := rowI_ints hr
      have HO2 := Lib.hid (HP.out w2 (O.out.kept f2) va vc hri hcap)
      have F2 := Lib.hid (F.out.noTrans f2)
      have i3 := f2.keepc h3
      have i3f := f2.keepf h3 h3f
      have hgl : (k : Int) < (len : Int) := by omega
      clear hr hri hcap f2 h3 h3f
      go_wp2_with fail
      go_roundw
      case rel => exact ⟨k + 1, by omega, by go_num, HO2, Lib.hid (F2.out.setCell (p := ⟨g, k * 4 + 3, none⟩) (.inr HG.out) _)⟩
      case measure => simp [intOf]; omega
    · go_wp2_with fail
      go_ret
      exact ⟨bo, bc, rfl, O.out.1, F.out⟩

end Go.Proofs.Ytpaoacdgmfaolaa
