/- Depths. -/
import Derived.Test.YtmkmefcafpgphaaDep
import Derived.BigQuiet
import Derived.BigGuardPart
namespace Go.Proofs.Ytmkmefcafpgphaa
set_option linter.unusedVariables false
open Go.RowKit


theorem tree_len {zs : List Int} (h : Tree zs) : 1 ≤ zs.length ∧ zs.length ≤ 32 ∧ zs.getD 0 0 = -1 := by
  obtain ⟨⟨a, b⟩, c, -⟩ := hpB_t h.1
  exact ⟨a, b, c⟩
/-- The law behind Depths, the list being a tree. -/
theorem depths_step {zs : List Int} (h : Tree zs) {i : Nat} (i1 : i + 1 < zs.length) : (0 ≤ zs.getD (i + 1) 0 ∧ zs.getD (i + 1) 0 < zs.length) ∧ (dpL zs).getD (i + 1) 0 = (dpL zs).getD (zs.getD (i + 1) 0).toNat 0 + 1 ∧ 0 ≤ (dpL zs).getD (zs.getD (i + 1) 0).toNat 0 ∧ (dpL zs).getD (zs.getD (i + 1) 0).toNat 0 ≤ 32 := by
  obtain ⟨p0, p1, e⟩ := dep_next h (i := i + 1) (by omega) i1
  obtain ⟨-, h32, -⟩ := tree_len h
  refine ⟨⟨p0, p1⟩, ?_, ?_, ?_⟩
  · rw [dpL_at zs (i + 1) i1, dpL_at zs _ (by omega), e, show (((zs.getD (i + 1) 0).toNat : Nat) : Int) = zs.getD (i + 1) 0 by omega]
    omega
  · rw [dpL_at zs _ (by omega)]; omega
  · rw [dpL_at zs _ (by omega)]
    have := (h.2 (zs.getD (i + 1) 0).toNat (by omega)).1
    omega
set_option maxRecDepth 20000 in
set_option maxHeartbeats 8000000 in
theorem depths_law (ao : Option Addr) (len cap : Nat) (zs : List Int) (w : World) (h : IntsIn w ao len zs) (hc : len ≤ cap) (hbig : (len : Int) ≤ 9223372036854775807) : Calls Try.prog 7 #[.slice ao len cap] w fun e w' => e = .returned (.bool true) ∧ Fr no w w' := by
  by_cases h40 : 40 < len
  · have hI : (40 : Int) < (len : Int) := by omega
    have HI := Lib.hid hI
    clear h hbig h40 hc
    go_enter Try.func7, Try.ntmps7
    go_wp2_with fail
    refine (awake_any _).mono ?_
    rintro e w1 ⟨rfl, f1⟩
    have HF1 := Lib.hid f1
    clear f1
    go_wp2_with fail
    go_ret
    exact ⟨rfl, HF1.out⟩
  · have hl : len ≤ 40 := by omega
    have hI : (len : Int) ≤ 40 := by omega
    have H := Lib.hid h
    have KC := Lib.hid (fun w' hf => cloneI_any ao len cap zs w' (h.kept (w' := w') hf) hl)
    have hzl := h.1
    have HZL := Lib.hid hzl
    clear h h40 hbig
    go_enter Try.func7, Try.ntmps7
    go_wp2_with fail
    refine (awake_any _).mono ?_
    rintro e w1 ⟨rfl, f1⟩
    have HF1 := Lib.hid f1
    clear f1
    go_wp2_with fail
    refine (KC.out _ HF1.out).mono ?_
    rintro e w2 ⟨v, rfl, hrow, f2⟩
    obtain ⟨a, c, rfl, hcc, hin⟩ := rowI_ints hrow
    rw [hzl] at hcc hin
    have KD := Lib.hid (depths_any a len c zs w2 hin hcc hl)
    have HF2 := Lib.hid (HF1.out.noTrans f2)
    clear hrow f2 hin hcc
    rw [hzl]
    go_wp2_with fail
    refine KD.out.mono ?_
    rintro e w3 ⟨f3, ⟨hT, v, rfl, hrow⟩ | ⟨hT, rfl⟩⟩
    · obtain ⟨a2, c2, rfl, hcc, hin⟩ := rowI_ints hrow
      rw [dpL_len, hzl] at hcc hin
      rw [dpL_len, hzl]
      obtain ⟨n1, n2, z0⟩ := tree_len hT
      rw [hzl] at n1 n2
      have HF3 := Lib.hid (HF2.out.noTrans f3)
      obtain ⟨b2, off2, rfl, -, hd⟩ := slice_1 hin n1
      obtain ⟨b, off, rfl, -, hp⟩ := slice_1 (H.out.kept HF3.out) n1
      have hp0 := hp 0 (by omega)
      have hd0 := hd 0 (by omega)
      rw [z0, Nat.add_zero] at hp0
      rw [dpL_at zs 0 (by omega), show dep zs ((0 : Nat) : Int) = 0 from dep_0 (by omega), Nat.add_zero] at hd0
      have HS := Lib.hid (fun i (hi : i + 1 < len) => depths_step hT (i := i) (by rw [hzl]; exact hi))
      have HP := Lib.hid hp
      have HD := Lib.hid hd
      have q1 : (len : Int) ≠ 0 := by omega
      have q2 : ((len : Int) == 0) = false := by simpa using q1
      have q3 : decide ((len : Int) = 0) = false := by simpa using q1
      have HT := Lib.hid hT
      have hd0' : w3.cell? ⟨b2, off2, none⟩ = some (.int .i64 0) := by simpa using hd0
      clear hrow f3 hin hcc hp hd hT z0 hd0
      by_cases hc1 : cap = 1
      · subst hc1
        obtain rfl : len = 1 := by omega
        go_wp2_with fail
        go_loopw [5, 6, 47] (fun _ _ i wr => i = .int .i64 0 ∧ wr = w3) (fun _ _ i _ => (1 - intOf i).toNat)
        case atStart => exact ⟨rfl, rfl⟩
        case round =>
          obtain ⟨rfl, rfl⟩ := hrel
          go_wp2_with fail
          go_ret
          exact ⟨rfl, HF3.out⟩
      · have hc2 : (cap == 1) = false := by simpa using hc1
        go_wp2_with fail
        go_loopw [5, 6, 47] (fun _ _ i wr => ∃ k : Nat, k ≤ len - 1 ∧ i = .int .i64 k ∧ Hid (Fr no w3 wr)) (fun _ _ i _ => (len - 1) - (intOf i).toNat)
        case atStart => exact ⟨0, by omega, rfl, Lib.hid (Fr.refl no _)⟩
        case round =>
          obtain ⟨k, hk, rfl, F⟩ := hrel
          have HFk := Lib.hid (HF3.out.noTrans F.out)
          by_cases hlt : k < len - 1
          · obtain ⟨⟨p0, p1⟩, e, g0, g1⟩ := HS.out k (by omega)
            rw [HZL.out] at p1
            have ck := F.out.keepc (HP.out (k + 1) (by omega))
            rw [show off + (k + 1) = off + 1 + k by omega] at ck
            have cd := F.out.keepc (HD.out (k + 1) (by omega))
            have ce := F.out.keepc (HD.out (zs.getD (k + 1) 0).toNat (by omega))
            rw [e] at cd
            generalize zs.getD (k + 1) 0 = p at *
            generalize (dpL zs).getD p.toNat 0 = D at *
            have hkI : (k : Int) < ((len - 1 : Nat) : Int) := by omega
            have x0 : decide (p < 0) = false := by simp; omega
            have x1 : decide ((len : Int) ≤ p) = false := by simp; omega
            have x2 : IntKind.i64.wrap ((k : Int) + 1) = (k : Int) + 1 := IntWalk.i64_in _ (by omega)
            have x3 : IntKind.i64.wrap (D + 1) = D + 1 := IntWalk.i64_in _ (by omega)
            have x4 : ((k : Int) + 1) < (len : Int) := by omega
            have x5 : ((k : Int) + 1).toNat = k + 1 := by omega
            clear e
            go_wp2_with fail
            go_quiet (fail)
            rename_i nq
            have HFq := Lib.hid (F.out.drewN nq)
            go_wp2_with fail
            go_roundw
            case rel => exact ⟨k + 1, by omega, by go_num, HFq⟩
            case measure => simp [intOf]; omega
          · have hkI : ¬ (k : Int) < ((len - 1 : Nat) : Int) := by omega
            go_wp2_with fail
            go_ret
            exact ⟨rfl, HFk.out⟩
    · have HF3 := Lib.hid (HF2.out.noTrans f3)
      have HT := Lib.hid (show ¬ Tree zs from hT)
      have HI3 := Lib.hid (H.out.kept HF3.out)
      clear f3 hT
      by_cases n0 : len < 1
      · have hn : (len : Int) < 1 := by omega
        go_wp2_with fail
        go_ret
        exact ⟨rfl, HF3.out⟩
      · have n1 : 1 ≤ len := by omega
        have hn : ¬ (len : Int) < 1 := by omega
        have hn' : decide ((len : Int) < 1) = false := by simp; omega
        clear n0
        by_cases m0 : 32 < len
        · have hm : (32 : Int) < (len : Int) := by omega
          go_wp2_with fail
          go_ret
          exact ⟨rfl, HF3.out⟩
        · have m1 : len ≤ 32 := by omega
          have hm : (len : Int) ≤ 32 := by omega
          have hm' : decide (32 < (len : Int)) = false := by simp; omega
          clear m0
          obtain ⟨b, off, rfl, -, hp⟩ := slice_1 HI3.out n1
          have hp0 := hp 0 (by omega)
          have HP := Lib.hid hp
          rw [Nat.add_zero] at hp0
          by_cases z0 : zs.getD 0 0 = -1
          · have HT2 := Lib.hid (fun h4 => HT.out (less_tree (by omega) (by omega) z0 h4))
            rw [z0] at hp0
            clear hp z0
            by_cases hc1 : cap = 1
            · subst hc1
              obtain rfl : len = 1 := by omega
              exact absurd (fun i i1 i2 => by omega) HT2.out
            · have hc2 : (cap == 1) = false := by simpa using hc1
              go_wp2_with fail
              go_loopw [7, 8, 98] (fun _ _ i wr => ∃ k : Nat, k ≤ len - 1 ∧ i = .int .i64 k ∧ Hid (∀ i, 1 ≤ i → i ≤ k → 0 ≤ zs.getD i 0 ∧ zs.getD i 0 < i) ∧ wr = w3) (fun _ _ i _ => (len - 1) - (intOf i).toNat)
              case atStart => exact ⟨0, by omega, rfl, Lib.hid (fun i i1 i2 => by omega), rfl⟩
              case round =>
                obtain ⟨k, hk, rfl, I, rfl⟩ := hrel
                by_cases hlt : k < len - 1
                · have ck := HP.out (k + 1) (by omega)
                  rw [show off + (k + 1) = off + 1 + k by omega] at ck
                  have hkI : (k : Int) < ((len - 1 : Nat) : Int) := by omega
                  have HY := Lib.hid (show zs.getD (k + 1) 0 = zs.getD (k + 1) 0 from rfl)
                  generalize hy : zs.getD (k + 1) 0 = y at ck
                  have HYE := Lib.hid hy
                  clear hy HY
                  by_cases y0 : y < 0
                  · go_wp2_with fail
                    go_ret
                    exact ⟨rfl, HF3.out⟩
                  · have y1 : 0 ≤ y := by omega
                    have y0' : decide (y < 0) = false := by simpa using y0
                    by_cases y2 : (k : Int) < y
                    · go_wp2_with fail
                      go_ret
                      exact ⟨rfl, HF3.out⟩
                    · have y3 : y ≤ (k : Int) := by omega
                      have y4 : decide ((k : Int) < y) = false := by simpa using y2
                      have HJ := Lib.hid (show ∀ i, 1 ≤ i → i ≤ k + 1 → 0 ≤ zs.getD i 0 ∧ zs.getD i 0 < i from fun i i1 i2 => by
                        by_cases e : i = k + 1
                        · rw [e, HYE.out]; omega
                        · exact I.out i i1 (by omega))
                      clear HYE y0 y2
                      go_wp2_with fail
                      go_roundw
                      case rel => exact ⟨k + 1, by omega, by go_num, HJ, by simp⟩
                      case measure => simp [intOf]; omega
                · exact absurd (fun i i1 i2 => I.out i i1 (by have := HZL.out; omega)) HT2.out
          · have z1 : (zs.getD 0 0 == -1) = false := by simpa using z0
            have z2 : decide (zs.getD 0 0 = -1) = false := by simpa using z0
            generalize zs.getD 0 0 = y at *
            clear hp
            go_wp2_with fail
            go_ret
            exact ⟨rfl, HF3.out⟩

end Go.Proofs.Ytmkmefcafpgphaa
