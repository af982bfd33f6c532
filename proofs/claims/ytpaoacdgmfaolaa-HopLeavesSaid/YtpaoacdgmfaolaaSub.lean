/- A set without a list. -/
import Derived.Test.YtpaoacdgmfaolaaFlg
namespace Go.Proofs.Ytpaoacdgmfaolaa
set_option linter.unusedVariables false
open Go.RowKit


set_option maxHeartbeats 8000000 in
theorem without_any (g : Nat → Bool) (ao : Option Addr) (len cap : Nat) (zs : List Int) (w : World) (hz : IntsIn w ao len zs) (hl : len ≤ 100) (hin : InC zs) :
    Calls Try.prog 47 #[.agg (flA g), .slice ao len cap] w fun e w' => e = .returned (.agg (flA (fun d => g d && !hasZ zs (d : Int)))) ∧ Fr no w w' := by
  have HZL := Lib.hid hz.1
  have HIN := Lib.hid hin
  have HL := Lib.hid hl
  have HZ := Lib.hid hz
  have HB := Lib.hid (show .agg (flA g) = Value.agg #[.bool (g 0), .bool (g 1), .bool (g 2), .bool (g 3), .bool (g 4), .bool (g 5), .bool (g 6), .bool (g 7), .bool (g 8), .bool (g 9), .bool (g 10), .bool (g 11), .bool (g 12), .bool (g 13), .bool (g 14), .bool (g 15)] by kernel_rfl)
  clear hz hl hin
  rw [HB.out]
  go_enter Try.func47, Try.ntmps47
  go_wp2_with fail
  obtain ⟨W, hW⟩ : ∃ W, W = (w.alloc (.cells #[.bool (g 0), .bool (g 1), .bool (g 2), .bool (g 3), .bool (g 4), .bool (g 5), .bool (g 6), .bool (g 7), .bool (g 8), .bool (g 9), .bool (g 10), .bool (g 11), .bool (g 12), .bool (g 13), .bool (g 14), .bool (g 15)] 66 (0, 0))).alloc (.cells #[.bool false, .bool false, .bool false, .bool false, .bool false, .bool false, .bool false, .bool false, .bool false, .bool false, .bool false, .bool false, .bool false, .bool false, .bool false, .bool false] 66 (0, 0)) := ⟨_, rfl⟩
  have hF : Fr no w W := by rw [hW]; exact ((Fr.refl no w).alloc _).alloc _
  have hR0 : W.heap[w.heap.size]? = some (.cells (flA (fun d => g d && !hasZ (zs.take 0) (d : Int))) 66 (0, 0)) := by
    rw [hW, show flA (fun d => g d && !hasZ (zs.take 0) (d : Int)) = #[.bool (g 0), .bool (g 1), .bool (g 2), .bool (g 3), .bool (g 4), .bool (g 5), .bool (g 6), .bool (g 7), .bool (g 8), .bool (g 9), .bool (g 10), .bool (g 11), .bool (g 12), .bool (g 13), .bool (g 14), .bool (g 15)] by
      rw [show (fun d : Nat => g d && !hasZ (zs.take 0) (d : Int)) = g by funext d; simp [hasZ]]
      kernel_rfl]
    exact alloc_keeps (heap_alloc_new w _) _
  have hR1 : W.heap[w.heap.size + 1]? = some (.cells (flA (fun _ => false)) 66 (0, 0)) := by rw [hW, flA_no]; exact second_new w _ _
  rw [← hW]
  have HF := Lib.hid hF
  have HI0 := Lib.hid hR0
  have HR0 := Lib.hid hR1
  have HZ1 := Lib.hid (HZ.out.kept hF)
  clear hF hR0 hR1 hW HB
  go_loopw [6, 9] (fun _ i wr => ∃ k : Nat, k ≤ len ∧ i = .int .i64 k ∧ Hid (wr.heap[w.heap.size]? = some (.cells (flA (fun d => g d && !hasZ (zs.take k) (d : Int))) 66 (0, 0))) ∧ Hid (Fr (only w.heap.size) W wr)) (fun _ i _ => len - (intOf i).toNat)
  case atStart => exact ⟨0, Nat.zero_le _, rfl, HI0, Lib.hid (Fr.refl _ _)⟩
  case round =>
    obtain ⟨k, hk, rfl, HBk, HFk⟩ := hrel
    have HFX := Lib.hid (show Fr no w wr from HF.out.trans HFk.out (fun i hi h => by simp only [only] at h; omega))
    by_cases hlt : k < len
    · obtain ⟨b, off, rfl, e0⟩ := HZ.out.2 k hlt
      have e1 := HFX.out.keepc e0
      have hkI : (k : Int) ≤ 99 := by have := HL.out; omega
      have hin := HIN.out k (by have := HZL.out; omega)
      have HN := Lib.hid (fun d : Nat => hasZ_snoc zs k (by have := HZL.out; omega) (d : Int))
      clear e0
      generalize zs.getD k 0 = z at *
      obtain ⟨m, rfl⟩ := Int.eq_ofNat_of_zero_le hin.1
      have hm16 : m < 16 := by omega
      have hmI : (m : Int) < 16 := by omega
      obtain ⟨v0, v1⟩ := fl_cellT HBk.out m hm16
      have HS2 := Lib.hid (by have := three_set HBk.out m (.bool false); rw [flA_put _ m hm16] at this; exact this)
      have HN := Lib.hid (show (fun d : Nat => if d == m then false else g d && !hasZ (zs.take k) (d : Int)) = fun d : Nat => g d && !hasZ (zs.take (k + 1)) (d : Int) by
        funext d
        rw [HN.out d]
        by_cases e : d = m
        · subst e; simp
        · have e1 : (d == m) = false := by simpa using e
          have e2 : ((m : Int) == (d : Int)) = false := by simp; omega
          rw [e1, e2]; simp)
      generalize (g m && !hasZ (zs.take k) (m : Int)) = q at *
      clear hin
      go_wp2_with fail
      go_roundw
      case rel => exact ⟨k + 1, by omega, by go_num, Lib.hid (by rw [← HN.out]; exact HS2.out), Lib.hid (HFk.out.setCell (p := ⟨w.heap.size, m, none⟩) (.inl rfl) _)⟩
      case measure => simp [intOf]; omega
    · obtain ⟨F, hFd⟩ : ∃ F : Nat → Bool, F = fun d => g d && !hasZ (zs.take k) (d : Int) := ⟨_, rfl⟩
      rw [← hFd] at HBk
      have HVAL := Lib.hid (show flA F = flA (fun d => g d && !hasZ zs (d : Int)) by
        rw [hFd, List.take_of_length_le (by have := HZL.out; omega)])
      clear hFd

      have h1 := HBk.out
      have h0 : wr.heap[w.heap.size + 1]? = some (.cells (flA (fun _ => false)) 66 (0, 0)) := HFk.out.blk HR0.out (by simp only [only]; omega)
      have hrg := fl_range h1
      have hth : wr.there (w.heap.size + 1) 0 (flV (F)).toArray.size := fl_there h0 _ (by simp [flV_len])
      have hi3 : (Try.prog.info? 66).map (·.size) = some (flV (F)).length := by rw [flV_len]; exact info66
      have hi2 : (Try.prog.info? 66).map (·.size) = some (flV (F)).toArray.size := by rw [List.size_toArray]; exact hi3
      have h1c := all_oneCell_toArray (flV_one (F))
      obtain ⟨w2, hw2⟩ : ∃ w2, w2 = wr.setCells (w.heap.size + 1) 0 (flV (F)).toArray.toList := ⟨_, rfl⟩
      have HL2 := Lib.hid (run_loadVar_mid (P := Try.prog) w2 (w.heap.size + 1) 0 66 (flV (F)) _ (by rw [hw2]; exact World.rangeAt_setCells_same _ _ _ _ hth) heap66 rfl hi3)
      have HF2 := Lib.hid (show Fr no w w2 by
        rw [hw2]
        refine Fr.setCells ?_ (.inr (by omega)) _ _
        exact HFX.out)
      have hrg2 : ∃ V, V = flV (F) := ⟨_, rfl⟩
      clear h0 h1
      generalize hG : (flV (F)).toArray = G at *
      go_wp2_with (refine wpList_load_mid rfl 66 (.tmp 2) rfl (w.heap.size) 0 ?hx (flV (F)) _ hrg heap66 rfl hi3 ?_; (case hx => rfl); rw [hG]; refine wpList_store_mid rfl 66 (.tmp 4) (.tmp 16) rfl (w.heap.size + 1) 0 G ?hx ?hy hth hi2 h1c ?_; (case hx => rfl); (case hy => rfl); rw [← hw2])
      refine bodyPost_ret (v := .agg (flA (F))) ?_ rfl ⟨by rw [HVAL.out], HF2.out⟩
      have hl2 := HL2.out
      rw [flA_V, hG]
      clear hrg hth hi2 h1c hw2 hi3 hG HF2 HL2 HFk HBk HFX HVAL
      simp [results, Try.results47, Act.put, asAddr, hl2]

end Go.Proofs.Ytpaoacdgmfaolaa
