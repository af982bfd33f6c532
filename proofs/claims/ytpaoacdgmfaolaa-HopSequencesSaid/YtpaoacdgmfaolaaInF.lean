/- InForce. -/
import Derived.Test.YtpaoacdgmfaolaaCal
namespace Go.Proofs.Ytpaoacdgmfaolaa
set_option linter.unusedVariables false
open Go.RowKit


def ifP (s : Int) (x : Hv) : Bool := decide (x.f ≤ s) && decide (s < x.u)
def z0 : Hv := ⟨0, 0, 0, []⟩
def ifE (xs : List Hv) (s : Int) : Int := if caE xs ≠ 0 then caE xs else if (xs.find? (ifP s)).isSome then 0 else 7
def ifV (xs : List Hv) (s : Int) : Hv := if caE xs ≠ 0 then z0 else (xs.find? (ifP s)).getD z0
def NoneTo (s : Int) (xs : List Hv) (k : Nat) : Prop := ∀ i, i < k → ifP s (hvAt xs i) = false
theorem find_take (P : Hv → Bool) (xs : List Hv) (k : Nat) (hk : k ≤ xs.length) (h : ∀ i, i < k → P (hvAt xs i) = false) : (xs.take k).find? P = none := by
  rw [List.find?_eq_none]
  intro x hx
  obtain ⟨i, hi, rfl⟩ := List.mem_iff_getElem.1 hx
  rw [List.length_take] at hi
  have h2 : i < xs.length := by omega
  have := h i (by omega)
  simp only [hvAt, List.getD_eq_getElem?_getD, List.getElem?_eq_getElem h2, Option.getD_some] at this
  simp [this]
theorem find_at {s : Int} {xs : List Hv} {k : Nat} (hk : k < xs.length) (h : NoneTo s xs k) (hp : ifP s (hvAt xs k) = true) : xs.find? (ifP s) = some (hvAt xs k) := by
  have h1 := find_take (ifP s) xs k (by omega) h
  conv => lhs; rw [← List.take_append_drop k xs]
  rw [List.find?_append, h1, List.drop_eq_getElem_cons hk]
  have e : xs[k] = hvAt xs k := by simp [hvAt, List.getD_eq_getElem?_getD, List.getElem?_eq_getElem hk]
  rw [e, List.find?_cons_of_pos hp]
  rfl
theorem find_no {s : Int} {xs : List Hv} (h : NoneTo s xs xs.length) : xs.find? (ifP s) = none := by
  have := find_take (ifP s) xs xs.length (Nat.le_refl _) h
  rwa [List.take_length] at this
def IfRes (w w' : World) (x : Hv) (er : Int) (e : Ending) : Prop := ∃ va vc, e = .returned (.tuple #[.agg #[.int .i64 x.v, .int .i64 x.f, .int .i64 x.u, .slice va x.chs.length vc], .int .i64 er]) ∧ IntsIn w' va x.chs.length x.chs ∧ Fr no w w'
theorem nil_ints (w : World) : IntsIn w none 0 [] := ⟨rfl, fun i hi => by omega⟩
set_option maxRecDepth 20000 in
set_option maxHeartbeats 16000000 in
theorem inForceL_any (ao : Option Addr) (len cap : Nat) (xs : List Hv) (s : Int) (w : World) (h : HvsIn w ao len xs) (hl : len ≤ 100) (hc : FewC len xs) :
    Calls Try.prog 19 #[.slice ao len cap, .int .i64 s] w fun e w' => IfRes w w' (ifV xs s) (ifE xs s) e := by
  obtain ⟨W, hW⟩ : ∃ W, W = w.alloc (.cells #[.int .i64 0, .int .i64 0, .int .i64 0, .slice none 0 0] 24 (0, 0)) := ⟨_, rfl⟩
  have hF : Fr no w W := by rw [hW]; exact (Fr.refl no w).alloc _
  have hR : W.heap[w.heap.size]? = some (.cells #[.int .i64 0, .int .i64 0, .int .i64 0, .slice none 0 0] 24 (0, 0)) := by rw [hW]; exact heap_alloc_new w _
  have HF := Lib.hid hF
  have HW := Lib.hid hW
  have HR := Lib.hid hR
  have HX := Lib.hid (h.kept hF)
  have HXL := Lib.hid h.1
  have HL := Lib.hid hl
  have HC := Lib.hid hc
  have KC := Lib.hid (checkAll_any ao len cap xs W (h.kept hF) hl hc)
  have HIE := Lib.hid (show ifE xs s = if caE xs ≠ 0 then caE xs else if (xs.find? (ifP s)).isSome then 0 else 7 from rfl)
  have HIV := Lib.hid (show ifV xs s = if caE xs ≠ 0 then z0 else (xs.find? (ifP s)).getD z0 from rfl)
  clear h hl hc hF hR hW
  generalize caE xs = E at *
  go_enter Try.func19, Try.ntmps19
  go_wp2_with fail
  rw [← HW.out]
  refine KC.out.mono ?_
  rintro e w1 ⟨rfl, f1⟩
  have F1 := Lib.hid f1
  have HR1 := Lib.hid (f1.blk HR.out (fun h => h))
  clear f1
  by_cases hE : E = 0
  · subst hE
    replace HIE := Lib.hid (show ifE xs s = if (xs.find? (ifP s)).isSome then 0 else 7 by rw [HIE.out]; simp)
    replace HIV := Lib.hid (show ifV xs s = (xs.find? (ifP s)).getD z0 by rw [HIV.out]; simp)
    go_wp2_with fail
    go_loopw [8, 17] (fun _ i wr => ∃ k : Nat, k ≤ len ∧ i = .int .i64 k ∧ Hid (NoneTo s xs k) ∧ Hid (Fr no w1 wr)) (fun _ i _ => len - (intOf i).toNat)
    case atStart => exact ⟨0, Nat.zero_le _, rfl, Lib.hid (fun i hi => by omega), Lib.hid (Fr.refl _ _)⟩
    case round =>
      obtain ⟨k, hk, rfl, I, F⟩ := hrel
      by_cases hlt : k < len
      · have hkI : (k : Int) ≤ 99 := by have := HL.out; omega
        obtain ⟨b, off, ca, ck, rfl, hI, -, e0, e1, e2, e3⟩ := HX.out.2 k hlt
        have FX := Lib.hid (F1.out.noTrans F.out)
        have HI1 := Lib.hid (hI.kept FX.out)
        have HF1 := Lib.hid (HC.out k hlt)
        replace e0 := FX.out.keepc e0
        replace e1 := FX.out.keepc e1
        replace e2 := FX.out.keepc e2
        replace e3 := FX.out.keepc e3
        have HIP := Lib.hid (show ifP s (hvAt xs k) = (decide ((hvAt xs k).f ≤ s) && decide (s < (hvAt xs k).u)) from rfl)
        have HNX := Lib.hid (show ifP s (hvAt xs k) = false → NoneTo s xs (k + 1) from fun h i hi => by
          by_cases e : i = k
          · rw [e]; exact h
          · exact I.out i (by omega))
        have HFA := Lib.hid (fun h => find_at (by have := HXL.out; omega) I.out h)
        have HRW := Lib.hid (FX.out.blk HR.out (fun h => h))
        clear hI
        generalize hvAt xs k = x at *
        have KI := fun w => inForce_any x.v x.f x.u ca x.chs.length ck s w
        rw [← HIP.out] at KI
        cases hp : ifP s x
        · rw [hp] at KI
          have KI := Lib.hid KI
          have HJ := Lib.hid (HNX.out hp)
          clear hp
          go_wp2_with fail
          refine (KI.out _).mono ?_
          rintro e w2 ⟨rfl, f2⟩
          have F2 := Lib.hid ((F.out.alloc _).noTrans f2)
          clear f2
          go_wp2_with fail
          go_roundw
          case rel => exact ⟨k + 1, by omega, by go_num, HJ, F2⟩
          case measure => simp [intOf]; omega
        · rw [hp] at KI
          have KI := Lib.hid KI
          have HFN := HFA.out hp
          have HV1 := Lib.hid (show ifE xs s = 0 by rw [HIE.out, HFN]; rfl)
          have HV2 := Lib.hid (show ifV xs s = x by rw [HIV.out, HFN]; rfl)
          clear hp HFN
          have KL := Lib.hid (fun w h => cloneI_any ca x.chs.length ck x.chs w h HF1.out)
          generalize hn : x.chs.length = n at *
          have HN := Lib.hid hn
          have hRc : w.heap.size ≠ wr.heap.size := by have := lt_of_blk HRW.out; omega
          have hcR : wr.heap.size ≠ w.heap.size := fun h => hRc h.symm
          have HSZ := Lib.hid (lt_of_blk HRW.out)
          clear hn
          go_wp2_with fail
          refine (KI.out _).mono ?_
          rintro e w2 ⟨rfl, f2⟩
          have hcb := f2.blk (heap_alloc_new wr (.cells #[.int .i64 x.v, .int .i64 x.f, .int .i64 x.u, .slice ca n ck] 24 (0, 0))) (fun h => h)
          have F2 := Lib.hid ((FX.out.alloc (.cells #[.int .i64 x.v, .int .i64 x.f, .int .i64 x.u, .slice ca n ck] 24 (0, 0))).noTrans f2)
          have HCB := Lib.hid hcb
          have F2r := Lib.hid (((Fr.refl no wr).alloc (.cells #[.int .i64 x.v, .int .i64 x.f, .int .i64 x.u, .slice ca n ck] 24 (0, 0))).noTrans f2)
          obtain ⟨b0, b1, b2, b3⟩ := four_cells hcb
          clear f2 hcb e0 e1 e2 e3
          go_wp2_with fail
          refine (KL.out _ (HI1.out.kept F2r.out)).mono ?_
          rintro e w3 ⟨vv, rfl, hown, f3⟩
          obtain ⟨va, vc, rfl, -, -⟩ := rowI_ints hown
          have HO := Lib.hid hown
          have hc3 := f3.blk HCB.out (fun h => h)
          have hr3 := f3.blk (F2r.out.blk HRW.out (fun h => h)) (fun h => h)
          clear b0 b1 b2 b3
          obtain ⟨b0, b1, b2, b3⟩ := four_cells hc3
          obtain ⟨k0, k1, k2, k3⟩ := four_frz hc3
          obtain ⟨y0, y1, y2, y3⟩ := four_cells hr3
          obtain ⟨g0, g1, g2, g3⟩ := four_frz hr3
          have HR4 := Lib.hid hr3
          have HF4 := Lib.hid (HF.out.noTrans (F2.out.noTrans f3))
          have HC3 := Lib.hid (lt_of_blk HCB.out)
          have HR5 := Lib.hid (lt_of_blk (F2r.out.blk HRW.out (fun h => h)))
          have HWW := Lib.hid (show w.heap.size ≤ wr.heap.size from Nat.le_of_lt HSZ.out)
          clear hown f3 hc3 hr3
          rw [HN.out]
          go_wp2_with fail
          obtain ⟨q0, q1, q2, q3⟩ := four_cells (set_four (other_set HR4.out (.slice va n vc) hRc (i := 3)) (.int .i64 x.v) (.int .i64 x.f) (.int .i64 x.u) (.slice va n vc))
          refine bodyPost_ret (v := .tuple #[.agg #[.int .i64 x.v, .int .i64 x.f, .int .i64 x.u, .slice va n vc], .int .i64 0]) (by simp [results, Try.results19, go_sem, q0, q1, q2, q3]) rfl ?_
          rw [HV1.out, HV2.out]
          have ho := HO.out
          rw [HN.out] at ho
          refine ⟨va, vc, by rw [HN.out], ?_, set_four_fr (HF4.out.setCell (p := ⟨wr.heap.size, 3, none⟩) (.inr HWW.out) _) (Nat.le_refl _) _ _ _ _⟩
          have hfx : Fr (fun k => k < w2.heap.size) w3 (((((w3.setCell ⟨wr.heap.size, 3, none⟩ (.slice va n vc)).setCell ⟨w.heap.size, 0, none⟩ (.int .i64 x.v)).setCell ⟨w.heap.size, 1, none⟩ (.int .i64 x.f)).setCell ⟨w.heap.size, 2, none⟩ (.int .i64 x.u)).setCell ⟨w.heap.size, 3, none⟩ (.slice va n vc)) :=
            (((((Fr.refl _ w3).setCell (p := ⟨wr.heap.size, 3, none⟩) (.inl HC3.out) _).setCell (p := ⟨w.heap.size, 0, none⟩) (.inl HR5.out) _).setCell (p := ⟨w.heap.size, 1, none⟩) (.inl HR5.out) _).setCell (p := ⟨w.heap.size, 2, none⟩) (.inl HR5.out) _).setCell (p := ⟨w.heap.size, 3, none⟩) (.inl HR5.out) _
          obtain ⟨a1, c1, e1, -, h3⟩ := rowI_ints (rowI_low ho hfx)
          cases e1
          rw [HN.out]
          exact h3
      · have HFN := find_no (s := s) (xs := xs) (by rw [show xs.length = k by have := HXL.out; omega]; exact I.out)
        have HV1 := Lib.hid (show ifE xs s = 7 by rw [HIE.out, HFN]; rfl)
        have HV2 := Lib.hid (show ifV xs s = z0 by rw [HIV.out, HFN]; rfl)
        have HRX := Lib.hid ((F1.out.noTrans F.out).blk HR.out (fun h => h))
        have FX := Lib.hid (HF.out.noTrans (F1.out.noTrans F.out))
        obtain ⟨y0, y1, y2, y3⟩ := four_cells HRX.out
        obtain ⟨g0, g1, g2, g3⟩ := four_frz HRX.out
        clear HFN
        go_wp2_with fail
        obtain ⟨q0, q1, q2, q3⟩ := four_cells (set_four HRX.out (.int .i64 0) (.int .i64 0) (.int .i64 0) (.slice none 0 0))
        refine bodyPost_ret (v := .tuple #[.agg #[.int .i64 0, .int .i64 0, .int .i64 0, .slice none 0 0], .int .i64 7]) (by simp [results, Try.results19, go_sem, q0, q1, q2, q3]) rfl ?_
        rw [HV1.out, HV2.out]
        exact ⟨none, 0, rfl, nil_ints _, set_four_fr FX.out (Nat.le_refl _) _ _ _ _⟩
  · have HV1 := Lib.hid (show ifE xs s = E by rw [HIE.out, if_pos hE])
    have HV2 := Lib.hid (show ifV xs s = z0 by rw [HIV.out, if_pos hE])
    have HRX := Lib.hid HR1.out
    have FX := Lib.hid (HF.out.noTrans F1.out)
    have hE1 : (E == 0) = false := by simpa using hE
    have hE2 : decide (E = 0) = false := by simpa using hE
    obtain ⟨y0, y1, y2, y3⟩ := four_cells HRX.out
    obtain ⟨g0, g1, g2, g3⟩ := four_frz HRX.out
    go_wp2_with fail
    obtain ⟨q0, q1, q2, q3⟩ := four_cells (set_four HRX.out (.int .i64 0) (.int .i64 0) (.int .i64 0) (.slice none 0 0))
    refine bodyPost_ret (v := .tuple #[.agg #[.int .i64 0, .int .i64 0, .int .i64 0, .slice none 0 0], .int .i64 E]) (by simp [results, Try.results19, go_sem, q0, q1, q2, q3]) rfl ?_
    rw [HV1.out, HV2.out]
    exact ⟨none, 0, rfl, nil_ints _, set_four_fr FX.out (Nat.le_refl _) _ _ _ _⟩

end Go.Proofs.Ytpaoacdgmfaolaa
