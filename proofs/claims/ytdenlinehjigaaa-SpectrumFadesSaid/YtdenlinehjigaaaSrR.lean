/- The document on transmitters. -/
import Derived.Test.YtdenlinehjigaaaSrc
namespace Go.Proofs.Ytdenlinehjigaaa
open Go.RowKit
set_option linter.unusedVariables false

theorem IntsIn.drewN {w : World} {ao : Option Addr} {len : Nat} {zs : List Int} (h : IntsIn w ao len zs) (q : Nat) : IntsIn (w.drewN q) ao len zs := h.kept ((Fr.refl no w).drewN q)
set_option maxHeartbeats 4000000 in
theorem sourceR_any (ca : Option Addr) (ck : Nat) (s : Src) (w : World) (hz : IntsIn w ca s.chs.length s.chs) (hl : s.chs.length ≤ 40) : Calls Try.prog 83 #[.agg #[.int .i64 s.x, .int .i64 s.y, .int .i64 s.pw, .slice ca s.chs.length ck, .int .i64 s.per, .int .i64 s.fr, .int .i64 s.to]] w fun e w' => e = .returned (.bool (srB s)) ∧ Fr no w w' := by
  obtain ⟨x, y, pw, zs, per, fr, to⟩ := s
  simp only at hz hl ⊢
  obtain ⟨W, hW⟩ : ∃ W, W = w.alloc (.cells #[.int .i64 x, .int .i64 y, .int .i64 pw, .slice ca zs.length ck, .int .i64 per, .int .i64 fr, .int .i64 to] 49 (0, 0)) := ⟨_, rfl⟩
  have hF : Fr no w W := by rw [hW]; exact (Fr.refl no w).alloc _
  have h1 : W.heap[w.heap.size]? = some (.cells #[.int .i64 x, .int .i64 y, .int .i64 pw, .slice ca zs.length ck, .int .i64 per, .int .i64 fr, .int .i64 to] 49 (0, 0)) := by rw [hW]; exact heap_alloc_new w _
  have HZ := Lib.hid (hz.kept hF)
  have HF := Lib.hid hF
  have HW := Lib.hid hW
  have HL := Lib.hid hl
  obtain ⟨c0, c1, c2, c3, c4, c5, c6⟩ := seven_cells h1
  have H1 := Lib.hid h1
  have HR := Lib.hid (show srB ⟨x, y, pw, zs, per, fr, to⟩ = (ptB x y && inR pw 0 68719476736 && chsB zs && inR per 1 1000000000 && (decide (0 ≤ fr) && decide (fr ≤ to) && decide (to ≤ per))) from rfl)
  clear hz hF hW hl h1
  obtain ⟨len, hlen⟩ : ∃ len, len = zs.length := ⟨_, rfl⟩
  rw [← hlen] at c3 HL HZ ⊢
  have HLN := Lib.hid hlen
  clear hlen
  go_enter Try.func83, Try.ntmps83
  go_wp2_with fail
  rw [HLN.out, ← HW.out, ← HLN.out]
  go_loopw [3] (fun i wr => ∃ k : Nat, k ≤ len ∧ i = .int .i64 k ∧ chsB zs = chsF (lastC zs k) (zs.drop k) ∧ Hid (Fr no W wr)) (fun i _ => len - (intOf i).toNat)
  case atStart => exact ⟨0, Nat.zero_le _, rfl, by simp [lastC, chsB], Lib.hid (Fr.refl no W)⟩
  case round =>
    obtain ⟨k, hk, rfl, ha, F⟩ := hrel
    have HA := Lib.hid ha
    have g3 := F.out.keepc c3
    clear ha c0 c1 c2 c3 c4 c5 c6
    by_cases hlt : k < len
    · have hkI : (k : Int) ≤ 39 := by have := HL.out; omega
      have hkn : (k : Int) < (len : Int) := by omega
      have HT := Lib.hid (chsF_drop (lastC zs k) zs k (by have := HLN.out; omega))
      have HS := Lib.hid (show lastC zs (k + 1) = zs.getD k 0 from rfl)
      have HK := channelR_any (zs.getD k 0)
      obtain ⟨b, off, rfl, hc0⟩ := (HZ.out.kept F.out).2 k hlt
      generalize zs.getD k 0 = z at *
      by_cases h0 : k = 0
      · have HM := Lib.hid (show lastC zs k = -1 by rw [h0]; rfl)
        have hg : ¬ (0 : Int) < (k : Int) := by omega
        have hg1 : decide ((0 : Int) < (k : Int)) = false := decide_eq_false hg
        have hg2 : decide (0 < k) = false := decide_eq_false (by omega)
        clear h0
        cases hp : inR z 0 15
        · rw [hp] at HK
          have HV := Lib.hid (show chsB zs = false by rw [HA.out, HT.out, hp]; simp)
          have HK := Lib.hid HK
          clear hp
          go_wp2_with fail
          go_quiet ((go_at_call 95; refine Calls.quiet_of_same (HK.out _)))
          rename_i nq
          go_wp2_with fail
          go_ret
          rw [HR.out, HV.out]
          exact ⟨by simp, (HF.out.noTrans F.out).drewN _⟩
        · rw [hp] at HK
          have HV := Lib.hid (show chsB zs = chsF z (zs.drop (k + 1)) by rw [HA.out, HT.out, hp, HM.out]; have := inR_t.1 hp; simp; omega)
          have HK := Lib.hid HK
          clear hp
          go_wp2_with fail
          go_quiet ((go_at_call 95; refine Calls.quiet_of_same (HK.out _)))
          rename_i nq
          go_wp2_with fail
          go_roundw
          case rel => exact ⟨k + 1, by omega, by go_num, by rw [HS.out]; exact HV.out, F.out.drewN _⟩
          case measure => simp [intOf]; omega
      · obtain ⟨j, hj⟩ : ∃ j : Nat, k = j + 1 := ⟨k - 1, by omega⟩
        obtain ⟨b', off', hbo, hc1⟩ := (HZ.out.kept F.out).2 j (by omega)
        obtain ⟨rfl, rfl⟩ : b' = b ∧ off' = off := by simp at hbo; exact ⟨hbo.1.symm, hbo.2.symm⟩
        have HM := Lib.hid (show lastC zs k = zs.getD j 0 by rw [hj]; rfl)
        have hw1 : IntKind.i64.wrap ((k : Int) - 1) = (j : Int) := by rw [show (k : Int) - 1 = (j : Int) by omega]; exact IntWalk.i64_in _ (by omega)
        have hkp : (0 : Int) < (k : Int) := by omega
        have hkp1 : decide ((0 : Int) < (k : Int)) = true := decide_eq_true hkp
        have hkp2 : decide (0 < k) = true := decide_eq_true (by omega)
        have hkn2 : (j : Int) < (len : Int) := by omega
        have HJ := Lib.hid hj
        clear hbo hj h0
        generalize zs.getD j 0 = l at *
        cases hp : inR z 0 15
        · rw [hp] at HK
          have HV := Lib.hid (show chsB zs = false by rw [HA.out, HT.out, hp]; simp)
          have HK := Lib.hid HK
          clear hp
          go_wp2_with fail
          go_quiet ((go_at_call 95; refine Calls.quiet_of_same (HK.out _)))
          rename_i nq
          go_wp2_with fail
          go_ret
          rw [HR.out, HV.out]
          exact ⟨by simp, (HF.out.noTrans F.out).drewN _⟩
        · rw [hp] at HK
          have HK := Lib.hid HK
          by_cases h1 : z ≤ l
          · have HV := Lib.hid (show chsB zs = false by rw [HA.out, HT.out, hp, HM.out]; simp; omega)
            clear hp
            go_wp2_with fail
            go_quiet ((go_at_call 95; refine Calls.quiet_of_same (HK.out _)))
            rename_i nq
            go_wp2_with fail
            go_ret
            rw [HR.out, HV.out]
            exact ⟨by simp, (HF.out.noTrans F.out).drewN _⟩
          · have h2 : l < z := by omega
            have HV := Lib.hid (show chsB zs = chsF z (zs.drop (k + 1)) by rw [HA.out, HT.out, hp, HM.out]; simp; omega)
            have h3 : decide (z ≤ l) = false := decide_eq_false h1
            clear hp h1
            go_wp2_with fail
            go_quiet ((go_at_call 95; refine Calls.quiet_of_same (HK.out _)))
            rename_i nq
            go_wp2_with fail
            go_roundw
            case rel => exact ⟨k + 1, by omega, by go_num, by rw [HS.out]; exact HV.out, F.out.drewN _⟩
            case measure => simp [intOf]; omega
    · have HV := Lib.hid (show chsB zs = true by rw [HA.out]; exact chsF_end _ _ _ (by have := HLN.out; omega))
      have HN := Lib.hid (show inR pw 0 68719476736 = isP pw from rfl)
      obtain ⟨e0, e1, -, -, -, -, -⟩ := seven_cells (F.out.blk H1.out (fun h => h))
      go_wp2_with fail
      refine (point_any x y _).mono ?_
      rintro e w1 ⟨rfl, f1⟩
      obtain ⟨d0, d1, d2, d3, d4, d5, d6⟩ := seven_cells ((F.out.noTrans f1).blk H1.out (fun h => h))
      have HG := Lib.hid ((HF.out.noTrans F.out).noTrans f1)
      have HP := Lib.hid (isR_any pw)
      rw [HV.out, HN.out] at HR
      clear f1 g3 e0 e1
      generalize ptB x y = A at *
      generalize isP pw = B at *
      go_wp2_with (go_at_call 134; refine (HP.out _).mono ?_; rintro e w' ⟨rfl, rfl⟩)
      all_goals go_ret
      all_goals rw [HR.out]
      all_goals exact ⟨by first | rfl | (simp [inR, *]; done) | (simp_all [inR]; done) | (simp [inR, *]; omega), HG.out⟩
end Go.Proofs.Ytdenlinehjigaaa
