/- Of a list what a set has. -/
import Derived.Test.YtpaoacdgmfaolaaFlg
import Derived.OwnWalk
namespace Go.Proofs.Ytpaoacdgmfaolaa
set_option linter.unusedVariables false
open Go.RowKit


/-- Of a list what a set has. -/
def selL (g : Nat → Bool) (zs : List Int) : List Int := zs.filter fun c => g c.toNat
theorem selL_snoc (g : Nat → Bool) (zs : List Int) (k : Nat) (hk : k < zs.length) : selL g (zs.take (k + 1)) = selL g (zs.take k) ++ (if g (zs.getD k 0).toNat then [zs.getD k 0] else []) := by
  rw [take_snoc zs k hk]
  unfold selL
  rw [List.filter_append]
  congr 1
  simp [List.filter_cons]
def LstRes (w w' : World) (l : List Int) (e : Ending) : Prop := ∃ v, e = .returned v ∧ RowI w.heap.size w' v l ∧ Fr no w w'
set_option maxHeartbeats 8000000 in
theorem of_any (g : Nat → Bool) (ao : Option Addr) (len cap : Nat) (zs : List Int) (w : World) (hz : IntsIn w ao len zs) (hl : len ≤ 100) (hin : InC zs) :
    Calls Try.prog 48 #[.agg (flA g), .slice ao len cap] w fun e w' => LstRes w w' (selL g zs) e := by
  have HZL := Lib.hid hz.1
  have HIN := Lib.hid hin
  have HL := Lib.hid hl
  have HZ := Lib.hid hz
  have HB := Lib.hid (show .agg (flA g) = Value.agg #[.bool (g 0), .bool (g 1), .bool (g 2), .bool (g 3), .bool (g 4), .bool (g 5), .bool (g 6), .bool (g 7), .bool (g 8), .bool (g 9), .bool (g 10), .bool (g 11), .bool (g 12), .bool (g 13), .bool (g 14), .bool (g 15)] by kernel_rfl)
  obtain ⟨i0, hi, hz0, hz1, hz2⟩ := info_parts info3
  clear hz hl hin
  rw [HB.out]
  go_enter Try.func48, Try.ntmps48
  go_wp2_with fail
  obtain ⟨W, hW⟩ : ∃ W, W = w.alloc (.cells #[.bool (g 0), .bool (g 1), .bool (g 2), .bool (g 3), .bool (g 4), .bool (g 5), .bool (g 6), .bool (g 7), .bool (g 8), .bool (g 9), .bool (g 10), .bool (g 11), .bool (g 12), .bool (g 13), .bool (g 14), .bool (g 15)] 66 (0, 0)) := ⟨_, rfl⟩
  have hF : Fr no w W := by rw [hW]; exact (Fr.refl no w).alloc _
  have hR0 : W.heap[w.heap.size]? = some (.cells (flA g) 66 (0, 0)) := by
    rw [hW, show flA g = #[.bool (g 0), .bool (g 1), .bool (g 2), .bool (g 3), .bool (g 4), .bool (g 5), .bool (g 6), .bool (g 7), .bool (g 8), .bool (g 9), .bool (g 10), .bool (g 11), .bool (g 12), .bool (g 13), .bool (g 14), .bool (g 15)] by kernel_rfl]
    exact heap_alloc_new w _
  rw [← hW]
  have HF := Lib.hid hF
  have HR0 := Lib.hid hR0
  clear hF hR0 hW HB
  go_loopw [5, 7, 10] (fun v _ i wr => ∃ k : Nat, k ≤ len ∧ i = .int .i64 k ∧ Hid (RowI W.heap.size wr v (selL g (zs.take k))) ∧ Hid (Fr no W wr)) (fun _ _ i _ => len - (intOf i).toNat)
  case atStart => exact ⟨0, Nat.zero_le _, rfl, Lib.hid (by show World.ownsRow _ _ 3 1 _ 0 []; exact World.ownsRow_nil _ _ _ _), Lib.hid (Fr.refl _ _)⟩
  case round =>
    obtain ⟨k, hk, rfl, ho, F⟩ := hrel
    by_cases hlt : k < len
    · obtain ⟨b, off, rfl, e0⟩ := HZ.out.2 k hlt
      have e1 := F.out.keepc (HF.out.keepc e0)
      have hkI : (k : Int) ≤ 99 := by have := HL.out; omega
      have hin := HIN.out k (by have := HZL.out; omega)
      have HN := Lib.hid (selL_snoc g zs k (by have := HZL.out; omega))
      have HLn := Lib.hid (show (selL g (zs.take k)).length ≤ 100 from Nat.le_trans (List.length_filter_le _ _) (by have := HZL.out; have := HL.out; simp; omega))
      clear e0
      generalize zs.getD k 0 = z at *
      obtain ⟨m, rfl⟩ := Int.eq_ofNat_of_zero_le hin.1
      have hm16 : m < 16 := by omega
      have hmI : (m : Int) < 16 := by omega
      obtain ⟨v0, v1⟩ := fl_cellT (F.out.blk HR0.out (fun h => h)) m hm16
      rw [Int.toNat_natCast] at HN
      generalize selL g (zs.take k) = L at *
      clear hin v1
      cases hg : g m
      · rw [hg] at v0 HN
        clear hg
        go_wp2_with fail
        go_roundw
        case rel => exact ⟨k + 1, by omega, by go_num, by rw [HN.out]; simpa using ho, F⟩
        case measure => simp [intOf]; omega
      · rw [hg] at v0 HN
        clear hg
        have hown : World.ownsRow wr W.heap.size 3 1 u5 L.length (Ints L) := ho.out
        go_wp2_with (at_builtin; refine wpList_append_own _ rfl (.tmp 17) (.tmp 19) 22 rfl W.heap.size 3 i0 (.int .i64 0) 1 8 Try.underlying22 hi hz0 hz1 hz2 rfl (by decide) _ _ _ rfl (hown.alloc _) ⟨wr.heap.size, 0, none⟩ 1 1 [.int .i64 (m : Int)] rfl rfl ?c1 ?c2 ?c3 ?c4 ?c5 ?_)
        case c2 => simp [Value.oneCell']
        case c3 => have := HLn.out; unfold maxLen; omega
        case c4 => have := HLn.out; omega
        case c5 => have := F.out.size; simp; omega
        intro v' w7 hown7 hgrow7 _
        have F7 := Lib.hid (show Fr no W w7 from (F.out.alloc _).grown hgrow7 (fun j hj => .inr (own_geN hown j hj)))
        have HO7 := Lib.hid (show RowI W.heap.size w7 v' (L ++ [(m : Int)]) by
          unfold RowI Ints
          rw [List.length_append, List.map_append]
          exact hown7)
        clear hown7 hgrow7 hown
        go_wp2_with fail
        go_roundw
        case rel => exact ⟨k + 1, by omega, by go_num, by rw [HN.out]; simpa using HO7, F7⟩
        case measure => simp [intOf]; omega
    · have HV := Lib.hid (show zs.take k = zs from List.take_of_length_le (by have := HZL.out; omega))
      go_wp2_with fail
      go_ret
      exact ⟨_, rfl, by rw [← HV.out]; exact ho.out.mono HF.out.size, HF.out.noTrans F.out⟩

end Go.Proofs.Ytpaoacdgmfaolaa
