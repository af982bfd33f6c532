/- Lists in force. -/
import Derived.Test.YtpaoacdgmfaolaaChk
import Derived.BigGuardPart
namespace Go.Proofs.Ytpaoacdgmfaolaa
set_option linter.unusedVariables false
open Go.RowKit


set_option maxHeartbeats 4000000 in
theorem check_any (v f u : Int) (ca : Option Addr) (ck : Nat) (zs : List Int) (w : World) (hz : IntsIn w ca zs.length zs) (hl : zs.length ≤ 100) :
    Calls Try.prog 16 #[.agg #[.int .i64 v, .int .i64 f, .int .i64 u, .slice ca zs.length ck]] w fun e w' => e = .returned (.int .i64 (hlE v f u zs)) ∧ Fr no w w' := by
  obtain ⟨W, hW⟩ : ∃ W, W = w.alloc (.cells #[.int .i64 v, .int .i64 f, .int .i64 u, .slice ca zs.length ck] 24 (0, 0)) := ⟨_, rfl⟩
  have hF : Fr no w W := by rw [hW]; exact (Fr.refl no w).alloc _
  have h1 : W.heap[w.heap.size]? = some (.cells #[.int .i64 v, .int .i64 f, .int .i64 u, .slice ca zs.length ck] 24 (0, 0)) := by rw [hW]; exact heap_alloc_new w _
  obtain ⟨c0, c1, c2, c3⟩ := four_cells h1
  have HF := Lib.hid hF
  have HW := Lib.hid hW
  have HA := Lib.hid (areChannels_any ca zs.length ck zs W (hz.kept hF) hl)
  have HR := Lib.hid (show hlE v f u zs = if ((inR v 0 255 && (decide (0 ≤ f) && (decide (f < u) && decide (u ≤ 109951163)))) && chB zs) then 0 else 1 from rfl)
  generalize chB zs = B at *
  generalize zs.length = ln at *
  clear hz hF h1 hW hl
  go_enter Try.func16, Try.ntmps16
  go_wp2_with fail
  rw [← HW.out]
  go_wp2_with (first | (go_at_call 37; refine (isVersion_any v _).mono ?_; rintro e w' ⟨rfl, rfl⟩) | (go_at_call 38; refine HA.out.mono ?_; rintro e w' ⟨rfl, f1⟩))
  all_goals go_ret
  all_goals rw [HR.out]
  all_goals refine ⟨?_, by first | exact HF.out | exact HF.out.noTrans (by assumption) | (rw [← HW.out]; exact HF.out)⟩
  all_goals first | rfl | (simp [*]; done) | (simp [*]; intros; omega) | (simp_all; done)
theorem inForce_any (v f u : Int) (ca : Option Addr) (cl ck : Nat) (s : Int) (w : World) :
    Calls Try.prog 41 #[.agg #[.int .i64 v, .int .i64 f, .int .i64 u, .slice ca cl ck], .int .i64 s] w fun e w' => e = .returned (.bool (decide (f ≤ s) && decide (s < u))) ∧ Fr no w w' := by
  by_cases h1 : f ≤ s
  · have HR := Lib.hid (show (decide (f ≤ s) && decide (s < u)) = decide (s < u) by simp [h1])
    go_enter Try.func41, Try.ntmps41
    go_wp2_with fail
    go_ret
    rw [HR.out]
    exact ⟨rfl, (Fr.refl no w).alloc _⟩
  · have h2 : decide (f ≤ s) = false := by simpa using h1
    go_enter Try.func41, Try.ntmps41
    go_wp2_with fail
    go_ret
    exact ⟨rfl, (Fr.refl no w).alloc _⟩
def useL (v f u : Int) (zs : List Int) (s : Int) (os : List Int) : Int := if !hlB v f u zs then 1 else if !(decide (f ≤ s) && decide (s < u)) then 12 else if os.all (fun o => inR o 0 ((zs.length : Int) - 1)) then 0 else 2
theorem all_snoc (g : Int → Bool) (l : List Int) (k : Nat) (hk : k < l.length) : (l.take (k + 1)).all g = ((l.take k).all g && g (l.getD k 0)) := by
  rw [take_snoc l k hk, List.all_append]; simp
theorem all_no (g : Int → Bool) (l : List Int) (k : Nat) (hk : k < l.length) (h : g (l.getD k 0) = false) : l.all g = false := by
  rw [List.all_eq_false]
  refine ⟨l.getD k 0, ?_, by rw [h]; exact Bool.false_ne_true⟩
  rw [List.getD_eq_getElem?_getD, List.getElem?_eq_getElem hk]
  exact List.getElem_mem hk
set_option maxHeartbeats 8000000 in
theorem checkUse_any (v f u : Int) (ca : Option Addr) (ck : Nat) (zs : List Int) (s : Int) (ob : Nat) (oc : Nat) (os : List Int) (w : World) (hz : IntsIn w ca zs.length zs) (hl : zs.length ≤ 100) (ho : IntsIn w (some ⟨ob, 0, none⟩) os.length os) (ho2 : os.length ≤ 2) :
    Calls Try.prog 35 #[.agg #[.int .i64 v, .int .i64 f, .int .i64 u, .slice ca zs.length ck], .int .i64 s, .slice (some ⟨ob, 0, none⟩) os.length oc] w fun e w' => e = .returned (.int .i64 (useL v f u zs s os)) ∧ Fr no w w' := by
  obtain ⟨W, hW⟩ : ∃ W, W = w.alloc (.cells #[.int .i64 v, .int .i64 f, .int .i64 u, .slice ca zs.length ck] 24 (0, 0)) := ⟨_, rfl⟩
  have hF : Fr no w W := by rw [hW]; exact (Fr.refl no w).alloc _
  have h1 : W.heap[w.heap.size]? = some (.cells #[.int .i64 v, .int .i64 f, .int .i64 u, .slice ca zs.length ck] 24 (0, 0)) := by rw [hW]; exact heap_alloc_new w _
  obtain ⟨c0, c1, c2, c3⟩ := four_cells h1
  have HF := Lib.hid hF
  have HW := Lib.hid hW
  have H1 := Lib.hid h1
  have HA := Lib.hid (check_any v f u ca ck zs W (hz.kept hF) hl)
  have HO := Lib.hid ho
  have HL := Lib.hid hl
  have HO2 := Lib.hid ho2
  have HI := Lib.hid (fun w => inForce_any v f u ca zs.length ck s w)
  have HR := Lib.hid (show useL v f u zs s os = if !hlB v f u zs then 1 else if !(decide (f ≤ s) && decide (s < u)) then 12 else if os.all (fun o => inR o 0 ((zs.length : Int) - 1)) then 0 else 2 from rfl)
  have HEQ := Lib.hid (show hlE v f u zs = if hlB v f u zs then 0 else 1 from rfl)
  have HNZ := Lib.hid (show hlB v f u zs = true → 1 ≤ zs.length from fun h => (chB_t (hlB_t h).2.2.2.2.2).1)
  generalize hlE v f u zs = E at *
  obtain ⟨ol, hol⟩ : ∃ ol, ol = os.length := ⟨_, rfl⟩
  rw [← hol]
  have HOL := Lib.hid hol
  clear hz hF h1 hW hl ho ho2 hol
  cases hb : hlB v f u zs
  · rw [hb] at HR HEQ
    obtain rfl : E = 1 := HEQ.out
    have HR := Lib.hid (show useL v f u zs s os = 1 from HR.out)
    clear hb HEQ HNZ
    generalize zs.length = ln at *
    go_enter Try.func35, Try.ntmps35
    go_wp2_with fail
    rw [← HW.out]
    go_wp2_with fail
    refine HA.out.mono ?_
    rintro e w' ⟨rfl, f1⟩
    go_wp2_with fail
    go_ret
    rw [HR.out]
    exact ⟨rfl, HF.out.noTrans f1⟩
  · rw [hb] at HR HEQ
    obtain rfl : E = 0 := HEQ.out
    have HNZ := Lib.hid (HNZ.out hb)
    clear hb HEQ
    cases hi : (decide (f ≤ s) && decide (s < u))
    · rw [hi] at HI HR
      have HR := Lib.hid (show useL v f u zs s os = 12 from HR.out)
      clear hi
      generalize zs.length = ln at *
      go_enter Try.func35, Try.ntmps35
      go_wp2_with fail
      rw [← HW.out]
      go_wp2_with fail
      refine HA.out.mono ?_
      rintro e w' ⟨rfl, f1⟩
      obtain ⟨d0, d1, d2, d3⟩ := four_cells (f1.blk H1.out (fun h => h))
      go_wp2_with fail
      refine (HI.out _).mono ?_
      rintro e w3 ⟨rfl, f3⟩
      go_wp2_with fail
      go_ret
      rw [HR.out]
      exact ⟨rfl, (HF.out.noTrans f1).noTrans f3⟩
    · rw [hi] at HI HR
      have HR := Lib.hid (show useL v f u zs s os = if os.all (fun o => inR o 0 ((zs.length : Int) - 1)) then 0 else 2 from HR.out)
      clear hi
      generalize zs.length = ln at *
      have HWI := Lib.hid (fun o w => within_any o 0 ((ln : Int) - 1) w)
      have hw1 : IntKind.i64.wrap ((ln : Int) - 1) = (ln : Int) - 1 := IntWalk.i64_in _ (by have := HL.out; omega)
      go_enter Try.func35, Try.ntmps35
      go_wp2_with fail
      rw [← HW.out]
      go_wp2_with fail
      refine HA.out.mono ?_
      rintro e w2 ⟨rfl, f1⟩
      obtain ⟨d0, d1, d2, d3⟩ := four_cells (f1.blk H1.out (fun h => h))
      go_wp2_with fail
      refine (HI.out _).mono ?_
      rintro e w3 ⟨rfl, f3⟩
      have HF3 := Lib.hid ((HF.out.noTrans f1).noTrans f3)
      have d3 := f3.keepc d3
      clear f1 f3
      go_wp2_with fail
      obtain ⟨w9, hw9⟩ : ∃ w9, w9 = w3 := ⟨_, rfl⟩
      go_loopw [8, 18] (fun _ i wr => ∃ k : Nat, k ≤ ol ∧ i = .int .i64 k ∧ Hid ((os.take k).all (fun o => inR o 0 ((ln : Int) - 1)) = true) ∧ wr = w9) (fun _ i _ => ol - (intOf i).toNat)
      case atStart => exact ⟨0, by omega, rfl, Lib.hid (by simp), hw9.symm⟩
      case round =>
        obtain ⟨k, hk, rfl, I, rfl⟩ := hrel
        subst hw9
        by_cases hlt : k < ol
        · obtain ⟨b, off, hbo, e0⟩ := HO.out.2 k (by have := HOL.out; omega)
          cases hbo
          have e1 := HF3.out.keepc e0
          rw [Nat.zero_add] at e1
          have hkI : (k : Int) ≤ 1 := by have := HOL.out; have := HO2.out; omega
          have HT := Lib.hid (all_snoc (fun o => inR o 0 ((ln : Int) - 1)) os k (by have := HOL.out; omega))
          have HNO := Lib.hid (all_no (fun o => inR o 0 ((ln : Int) - 1)) os k (by have := HOL.out; omega))
          clear e0
          generalize os.getD k 0 = o at *
          have HWO := HWI.out o
          cases hg : inR o 0 ((ln : Int) - 1)
          · rw [hg] at HWO
            have HWO := Lib.hid HWO
            have HV := Lib.hid (show useL v f u zs s os = 2 by rw [HR.out, HNO.out hg]; rfl)
            clear hg
            go_wp2_with fail
            refine (HWO.out _).mono ?_
            rintro e w4 ⟨rfl, rfl⟩
            go_wp2_with fail
            go_ret
            rw [HV.out]
            exact ⟨rfl, HF3.out⟩
          · rw [hg] at HWO
            have HWO := Lib.hid HWO
            have HJ := Lib.hid (show (os.take (k + 1)).all (fun o => inR o 0 ((ln : Int) - 1)) = true by rw [HT.out, I.out]; exact hg)
            clear hg
            go_wp2_with fail
            refine (HWO.out _).mono ?_
            rintro e w4 ⟨rfl, rfl⟩
            go_wp2_with fail
            go_roundw
            case rel => exact ⟨k + 1, by omega, by go_num, HJ, by simp⟩
            case measure => simp [intOf]; omega
        · have HV := Lib.hid (show useL v f u zs s os = 0 by
            rw [HR.out, if_pos]
            rw [← I.out, List.take_of_length_le (by have := HOL.out; omega)])
          go_wp2_with fail
          go_ret
          rw [HV.out]
          exact ⟨rfl, HF3.out⟩

end Go.Proofs.Ytpaoacdgmfaolaa
