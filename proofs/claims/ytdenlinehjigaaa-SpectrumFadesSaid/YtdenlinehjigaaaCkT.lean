/- Check of a spectrum, by the document. -/
import Derived.Test.YtdenlinehjigaaaCkS
namespace Go.Proofs.Ytdenlinehjigaaa
open Go.RowKit
set_option linter.unusedVariables false

set_option maxHeartbeats 8000000 in
theorem checkT_any (a0 : Option Addr) (l0 k0 : Nat) (a1 : Option Addr) (l1 k1 : Nat) (ss : List Src) (fs : List Fd) (w : World) (hs : SrcsIn w a0 l0 ss) (hf : FdsIn w a1 l1 fs) (hc : ∀ i, i < l0 → (srAt ss i).chs.length ≤ 40) :
    Calls Try.prog 30 #[.agg #[.slice a0 l0 k0, .slice a1 l1 k1]] w fun e w' => e = .returned (.int .i64 (ckE (ckS l0 l1 ss fs))) ∧ Fr no w w' := by
  obtain ⟨W, hW⟩ : ∃ W, W = w.alloc (.cells #[.slice a0 l0 k0, .slice a1 l1 k1] 47 (0, 0)) := ⟨_, rfl⟩
  have hF : Fr no w W := by rw [hW]; exact (Fr.refl no w).alloc _
  have h1 : W.heap[w.heap.size]? = some (.cells #[.slice a0 l0 k0, .slice a1 l1 k1] 47 (0, 0)) := by rw [hW]; exact heap_alloc_new w _
  obtain ⟨c0, c1⟩ := two_cells h1
  have HS := Lib.hid (hs.kept hF)
  have HFD := Lib.hid (hf.kept hF)
  have HSL := Lib.hid hs.1
  have HFL := Lib.hid hf.1
  have HF := Lib.hid hF
  have HW := Lib.hid hW
  have HC := Lib.hid hc
  clear hs hf hF h1 hW hc
  by_cases g0 : 16 < l0
  · have HR := Lib.hid (show ckS l0 l1 ss fs = false by simp [ckS]; omega)
    have g0i : (16 : Int) < (l0 : Int) := by omega
    have g0d : decide ((16 : Int) < (l0 : Int)) = true := decide_eq_true g0i
    clear g0
    go_enter Try.func30, Try.ntmps30
    go_wp2_with fail
    go_ret
    rw [HR.out, ← HW.out]
    exact ⟨rfl, HF.out⟩
  have g0i : (l0 : Int) ≤ 16 := by omega
  have g0d : decide ((16 : Int) < (l0 : Int)) = false := decide_eq_false (by omega)
  by_cases g1 : 64 < l1
  · have HR := Lib.hid (show ckS l0 l1 ss fs = false by simp [ckS]; omega)
    have g1i : (64 : Int) < (l1 : Int) := by omega
    have g1d : decide ((64 : Int) < (l1 : Int)) = true := decide_eq_true g1i
    clear g0 g1
    go_enter Try.func30, Try.ntmps30
    go_wp2_with fail
    go_ret
    rw [HR.out, ← HW.out]
    exact ⟨rfl, HF.out⟩
  have g1i : (l1 : Int) ≤ 64 := by omega
  have g1d : decide ((64 : Int) < (l1 : Int)) = false := decide_eq_false (by omega)
  have HR := Lib.hid (show ckS l0 l1 ss fs = (ss.all srB && fs.all fdB) by
    have q0 : l0 ≤ 16 := by omega
    have q1 : l1 ≤ 64 := by omega
    simp [ckS, q0, q1])
  clear g0 g1
  go_enter Try.func30, Try.ntmps30
  go_wp2_with fail
  rw [← HW.out]
  go_loopw [3] (fun i wr => ∃ k : Nat, k ≤ l0 ∧ i = .int .i64 k ∧ Hid ((ss.take k).all srB = true) ∧ Hid (Fr no W wr)) (fun i _ => l0 - (intOf i).toNat)
  case atStart => exact ⟨0, Nat.zero_le _, rfl, Lib.hid (by simp), Lib.hid (Fr.refl _ _)⟩
  case round =>
    obtain ⟨k, hk, rfl, HA, F⟩ := hrel
    have d0 := F.out.keepc c0
    have d1 := F.out.keepc c1
    have HB1 := Lib.hid (show W.cell? ⟨w.heap.size, 0, none⟩ = _ ∧ W.cell? ⟨w.heap.size, 1, none⟩ = _ from ⟨c0, c1⟩)
    clear c0 c1
    by_cases hlt : k < l0
    · obtain ⟨b, off, ca, ck, rfl, hI, e0, e1, e2, e3, e4, e5, e6⟩ := (HS.out.kept F.out).2 k hlt
      have HT := Lib.hid (all_take srB ⟨0, 0, 0, [], 0, 0, 0⟩ ss k (by have := HSL.out; omega))
      have HN := Lib.hid (all_no srB ⟨0, 0, 0, [], 0, 0, 0⟩ ss k (by have := HSL.out; omega))
      have hkn : (k : Int) < (l0 : Int) := by omega
      have HI := Lib.hid hI
      have HCC := Lib.hid (HC.out k hlt)
      have HG := Lib.hid (show ss.getD k ⟨0, 0, 0, [], 0, 0, 0⟩ = srAt ss k from rfl)
      rw [HG.out] at HT HN
      generalize srAt ss k = s at *
      clear hI HG
      have HK := sourceR_any ca ck s wr HI.out HCC.out
      have F2 := F
      cases hp : srB s
      · have HV := Lib.hid (HN.out hp)
        rw [hp] at HK
        have HK := Lib.hid HK
        clear hp
        go_wp2_with fail
        refine HK.out.mono ?_
        rintro e w3 ⟨rfl, f3⟩
        have F3 := Lib.hid (F2.out.noTrans f3)
        clear f3
        go_wp2_with fail
        go_ret
        rw [HR.out, HV.out]
        exact ⟨rfl, HF.out.noTrans F3.out⟩
      · rw [hp] at HK
        have HV := Lib.hid (show (ss.take (k + 1)).all srB = true by rw [HT.out, HA.out, hp]; rfl)
        have HK := Lib.hid HK
        clear hp
        go_wp2_with fail
        refine HK.out.mono ?_
        rintro e w3 ⟨rfl, f3⟩
        have F3 := Lib.hid (F2.out.noTrans f3)
        clear f3
        go_wp2_with fail
        go_roundw
        case rel => exact ⟨k + 1, by omega, by go_num, HV, F3⟩
        case measure => simp [intOf]; omega
    · have HV := Lib.hid (show ss.all srB = true by have := HA.out; rwa [List.take_of_length_le (by have := HSL.out; omega)] at this)
      rw [HV.out, Bool.true_and] at HR
      clear HA
      have HFD2 := Lib.hid (HFD.out.kept F.out)
      have F0 := Lib.hid (HF.out.noTrans F.out)
      obtain ⟨w0, hw0⟩ : ∃ w0, w0 = wr := ⟨_, rfl⟩
      subst hw0
      clear HFD F HS
      go_wp2_with fail
      go_loopw [4] (fun i wq => ∃ j : Nat, j ≤ l1 ∧ i = .int .i64 j ∧ Hid ((fs.take j).all fdB = true) ∧ Hid (Fr no w0 wq)) (fun i _ => l1 - (intOf i).toNat)
      case atStart => exact ⟨0, Nat.zero_le _, rfl, Lib.hid (by simp), Lib.hid (Fr.refl _ _)⟩
      case round =>
        obtain ⟨j, hj, rfl, HA, F⟩ := hrel
        have b0 := F.out.keepc d0
        have b1 := F.out.keepc d1
        clear d0 d1
        by_cases hlt : j < l1
        · obtain ⟨b, off, rfl, e0, e1, e2, e3, e4, e5⟩ := (HFD2.out.kept F.out).2 j hlt
          have HT := Lib.hid (all_take fdB ⟨0, 0, 0, 0, 0, 0⟩ fs j (by have := HFL.out; omega))
          have HN := Lib.hid (all_no fdB ⟨0, 0, 0, 0, 0, 0⟩ fs j (by have := HFL.out; omega))
          have hkn : (j : Int) < (l1 : Int) := by omega
          have HG := Lib.hid (show fs.getD j ⟨0, 0, 0, 0, 0, 0⟩ = fdAt fs j from rfl)
          rw [HG.out] at HT HN
          generalize fdAt fs j = f at *
          clear HG
          have HK := fun w => fadeR_any f w
          cases hp : fdB f
          · have HV := Lib.hid (HN.out hp)
            rw [hp] at HK
            have HK := Lib.hid HK
            clear hp
            go_wp2_with fail
            refine (HK.out _).mono ?_
            rintro e w3 ⟨rfl, f3⟩
            have F3 := Lib.hid (F.out.noTrans f3)
            clear f3
            go_wp2_with fail
            go_ret
            rw [HR.out, HV.out]
            exact ⟨rfl, F0.out.noTrans F3.out⟩
          · rw [hp] at HK
            have HV := Lib.hid (show (fs.take (j + 1)).all fdB = true by rw [HT.out, HA.out, hp]; rfl)
            have HK := Lib.hid HK
            clear hp
            go_wp2_with fail
            refine (HK.out _).mono ?_
            rintro e w3 ⟨rfl, f3⟩
            have F3 := Lib.hid (F.out.noTrans f3)
            clear f3
            go_wp2_with fail
            go_roundw
            case rel => exact ⟨j + 1, by omega, by go_num, HV, F3⟩
            case measure => simp [intOf]; omega
        · have HV := Lib.hid (show fs.all fdB = true by have := HA.out; rwa [List.take_of_length_le (by have := HFL.out; omega)] at this)
          go_wp2_with fail
          go_ret
          rw [HR.out, HV.out]
          exact ⟨rfl, F0.out.noTrans F.out⟩
end Go.Proofs.Ytdenlinehjigaaa
