/- The set of a list. -/
import Derived.Test.YtpaoacdgmfaolaaFlg
namespace Go.Proofs.Ytpaoacdgmfaolaa
set_option linter.unusedVariables false
open Go.RowKit


set_option maxHeartbeats 8000000 in
theorem setOf_any (ao : Option Addr) (len cap : Nat) (zs : List Int) (w : World) (hz : IntsIn w ao len zs) (hl : len ≤ 100) (hin : InC zs) :
    Calls Try.prog 46 #[.slice ao len cap] w fun e w' => e = .returned (.agg (flA (fun d => hasZ zs (d : Int)))) ∧ Fr no w w' := by
  have HZL := Lib.hid hz.1
  have HIN := Lib.hid hin
  have HL := Lib.hid hl
  have HZ := Lib.hid hz
  clear hz hl hin
  go_enter Try.func46, Try.ntmps46
  go_wp2_with fail
  obtain ⟨W, hW⟩ : ∃ W, W = (w.alloc (.cells #[.bool false, .bool false, .bool false, .bool false, .bool false, .bool false, .bool false, .bool false, .bool false, .bool false, .bool false, .bool false, .bool false, .bool false, .bool false, .bool false] 66 (0, 0))).alloc (.cells #[.bool false, .bool false, .bool false, .bool false, .bool false, .bool false, .bool false, .bool false, .bool false, .bool false, .bool false, .bool false, .bool false, .bool false, .bool false, .bool false] 66 (0, 0)) := ⟨_, rfl⟩
  have hF : Fr no w W := by rw [hW]; exact ((Fr.refl no w).alloc _).alloc _
  have hR0 : W.heap[w.heap.size]? = some (.cells (flA (fun _ => false)) 66 (0, 0)) := by rw [hW, flA_no]; exact alloc_keeps (heap_alloc_new w _) _
  have hR1 : W.heap[w.heap.size + 1]? = some (.cells (flA (fun _ => false)) 66 (0, 0)) := by rw [hW, flA_no]; exact second_new w _ _
  rw [← hW]
  have HF := Lib.hid hF
  have HR0 := Lib.hid hR0
  have HR1 := Lib.hid hR1
  have HZ1 := Lib.hid (HZ.out.kept hF)
  clear hF hR0 hR1 hW
  go_loopw [5, 8] (fun _ i wr => ∃ k : Nat, k ≤ len ∧ i = .int .i64 k ∧ Hid (wr.heap[w.heap.size + 1]? = some (.cells (flA (seenF zs k)) 66 (0, 0))) ∧ Hid (Fr (only (w.heap.size + 1)) W wr)) (fun _ i _ => len - (intOf i).toNat)
  case atStart => exact ⟨0, Nat.zero_le _, rfl, Lib.hid (by rw [seen_0]; exact HR1.out), Lib.hid (Fr.refl _ _)⟩
  case round =>
    obtain ⟨k, hk, rfl, HBk, HFk⟩ := hrel
    have HFX := Lib.hid (show Fr no w wr from HF.out.trans HFk.out (fun i hi h => by simp only [only] at h; omega))
    by_cases hlt : k < len
    · obtain ⟨b, off, rfl, e0⟩ := HZ.out.2 k hlt
      have e1 := HFX.out.keepc e0
      have hkI : (k : Int) ≤ 99 := by have := HL.out; omega
      have hin := HIN.out k (by have := HZL.out; omega)
      have HN := Lib.hid (fun (m : Nat) (hm : zs.getD k 0 = (m : Int)) => seen_put zs k m (by have := HZL.out; omega) hm)
      clear e0
      generalize zs.getD k 0 = z at *
      obtain ⟨m, rfl⟩ := Int.eq_ofNat_of_zero_le hin.1
      have hm16 : m < 16 := by omega
      have hmI : (m : Int) < 16 := by omega
      obtain ⟨v0, v1⟩ := fl_cellT HBk.out m hm16
      have HS2 := Lib.hid (by have := three_set HBk.out m (.bool true); rw [flA_put _ m hm16] at this; exact this)
      have HN := Lib.hid (HN.out m rfl)
      generalize seenF zs k m = q at *
      clear hin
      go_wp2_with fail
      go_roundw
      case rel => exact ⟨k + 1, by omega, by go_num, Lib.hid (by rw [← HN.out]; exact HS2.out), Lib.hid (HFk.out.setCell (p := ⟨w.heap.size + 1, m, none⟩) (.inl rfl) _)⟩
      case measure => simp [intOf]; omega
    · have HVAL := Lib.hid (show flA (seenF zs k) = flA (fun d => hasZ zs (d : Int)) by
        unfold seenF; rw [List.take_of_length_le (by have := HZL.out; omega)])

      have h1 := HBk.out
      have h0 : wr.heap[w.heap.size]? = some (.cells (flA (fun _ => false)) 66 (0, 0)) := HFk.out.blk HR0.out (by simp only [only]; omega)
      have hrg := fl_range h1
      have hth : wr.there (w.heap.size) 0 (flV (seenF zs k)).toArray.size := fl_there h0 _ (by simp [flV_len])
      have hi3 : (Try.prog.info? 66).map (·.size) = some (flV (seenF zs k)).length := by rw [flV_len]; exact info66
      have hi2 : (Try.prog.info? 66).map (·.size) = some (flV (seenF zs k)).toArray.size := by rw [List.size_toArray]; exact hi3
      have h1c := all_oneCell_toArray (flV_one (seenF zs k))
      obtain ⟨w2, hw2⟩ : ∃ w2, w2 = wr.setCells (w.heap.size) 0 (flV (seenF zs k)).toArray.toList := ⟨_, rfl⟩
      have HL2 := Lib.hid (run_loadVar_mid (P := Try.prog) w2 (w.heap.size) 0 66 (flV (seenF zs k)) _ (by rw [hw2]; exact World.rangeAt_setCells_same _ _ _ _ hth) heap66 rfl hi3)
      have HF2 := Lib.hid (show Fr no w w2 by
        rw [hw2]
        refine Fr.setCells ?_ (.inr (Nat.le_refl _)) _ _
        exact HFX.out)
      have hrg2 : ∃ V, V = flV (seenF zs k) := ⟨_, rfl⟩
      clear h0 h1
      generalize hG : (flV (seenF zs k)).toArray = G at *
      go_wp2_with (refine wpList_load_mid rfl 66 (.tmp 3) rfl (w.heap.size + 1) 0 ?hx (flV (seenF zs k)) _ hrg heap66 rfl hi3 ?_; (case hx => rfl); rw [hG]; refine wpList_store_mid rfl 66 (.tmp 2) (.tmp 15) rfl (w.heap.size) 0 G ?hx ?hy hth hi2 h1c ?_; (case hx => rfl); (case hy => rfl); rw [← hw2])
      refine bodyPost_ret (v := .agg (flA (seenF zs k))) ?_ rfl ⟨by rw [HVAL.out], HF2.out⟩
      have hl2 := HL2.out
      rw [flA_V, hG]
      clear hrg hth hi2 h1c hw2 hi3 hG HF2 HL2 HFk HBk HFX HVAL
      simp [results, Try.results46, Act.put, asAddr, hl2]

end Go.Proofs.Ytpaoacdgmfaolaa
