/- The reference's writer: Text, Bytes. -/
import Derived.Test.YtelpdihaonoedaaRefW2
namespace Go.Proofs.Ytelpdihaonoedaa
open Go.RowKit
set_option maxRecDepth 20000

set_option maxHeartbeats 1000000 in
theorem rtext_any (base B : Nat) (v : Value) (st : WSt) (most : Int) (s : ByteArray) (w : World) (hm2 : most ≤ 9223372036854775807) (hs : s.size ≤ 140737488355328) (h : RwS base w B v st) :
    Calls Try.prog 39 #[.pointer (some ⟨B, 0, none⟩), .int .i64 most, .string s] w fun e w' => e = .returned (.tuple #[]) ∧ ∃ v', RwS base w' B v' (wText most s st) ∧ Adv w w' B v v' := by
  obtain ⟨bs, e⟩ := st
  obtain ⟨c0, c1, f0, f1⟩ := two_cells h.blk
  have H := Lib.hid h
  have hbase : base ≤ w.heap.size := by have := h.hB; have := lt_of_blk h.blk; omega
  clear h
  by_cases he : e = 0
  · subst he
    simp only at c1
    by_cases hw : 1 ≤ most ∧ most ≤ 4095
    · obtain ⟨hw1, hw2⟩ := hw
      by_cases hgt : most < s.size
      · have HF : Hid (wText most s ⟨bs, 0⟩ = ⟨bs, 8⟩) := by
          refine Lib.hid ?_
          have hu : tErr most s.size = 8 := by unfold tErr; rw [if_pos ⟨hw1, hw2⟩, if_pos hgt]
          unfold wText wField
          rw [hu, if_neg (by simp), if_pos (by decide)]
        go_enter Try.func39, Try.ntmps39
        go_wp2_with fail
        refine ret_none rfl rfl ?_
        rw [HF.out]
        exact ⟨rfl, v, (H.out.setE 8).1, (H.out.setE 8).2⟩
      · have HF : Hid (wText most s ⟨bs, 0⟩ = wField 0 (width most + 8 * s.size) (ibits (width most) s.size ++ sbits s s.size) ⟨bs, 0⟩) := by
          refine Lib.hid ?_
          have hu : tErr most s.size = 0 := by unfold tErr; rw [if_pos ⟨hw1, hw2⟩, if_neg (by omega)]
          unfold wText
          rw [hu]
        have hwd := width_le most hw2
        have hlen : (width most : Int) + 8 * s.size = ((ibits (width most) s.size ++ sbits s s.size).length : Int) := by
          rw [List.length_append, ibits_len, sbits_len s s.size (Nat.le_refl _)]; push_cast; rfl
        have hs2 : s.size ≤ 4095 := by omega
        cases hrm : roomB ((width most : Int) + 8 * s.size) ⟨bs, 0⟩
        · have HRP := Lib.hid ((room_put (bs := bs) hlen).2 hrm)
          have HRM := Lib.hid hrm
          clear hrm hlen
          go_enter Try.func39, Try.ntmps39
          go_wp2_with fail
          refine (rwidth_any most _ hm2).mono ?_
          rintro e w' ⟨rfl, hwq⟩
          rw [hwq]
          clear hwq w'
          go_wp2_with fail
          refine (room_any base B v ⟨bs, 0⟩ _ _ (by omega) (by omega) H.out).mono ?_
          rw [HRM.out]
          rintro e w1 ⟨rfl, hr, ha⟩
          have HR := Lib.hid hr
          have HA := Lib.hid ha
          clear hr ha
          go_wp2_with fail
          refine ret_none rfl rfl ?_
          rw [HF.out, ← HRP.out]
          exact ⟨rfl, v, HR.out, HA.out⟩
        · obtain ⟨g1, g2, g3⟩ := (room_put (bs := bs) hlen).1 hrm
          have HRM := Lib.hid hrm
          have G1 := Lib.hid g1
          rw [List.length_append, ibits_len, sbits_len s s.size (Nat.le_refl _)] at g2
          have G2 := Lib.hid g2
          have G3 := Lib.hid g3
          clear hrm hlen g1 g2 g3
          go_enter Try.func39, Try.ntmps39
          go_wp2_with fail
          refine (rwidth_any most _ hm2).mono ?_
          rintro e w' ⟨rfl, hwq⟩
          rw [hwq]
          clear hwq w'
          go_wp2_with fail
          refine (room_any base B v ⟨bs, 0⟩ _ _ (by omega) (by omega) H.out).mono ?_
          rw [HRM.out, G3.out]
          rintro e w1 ⟨rfl, hr, ha⟩
          have HR := Lib.hid hr
          have HA := Lib.hid ha
          have hsz1 := ha.fr.size
          clear hr ha
          go_wp2_with fail
          refine (rwidth_any most _ hm2).mono ?_
          rintro e w' ⟨rfl, hwq⟩
          rw [hwq]
          clear hwq w'
          go_wp2_with fail
          refine (put_any base B v bs (width most) s.size _ (by omega) (by omega) (by omega) (by have := G2.out; omega) (by omega) HR.out).mono ?_
          rintro e w2 ⟨rfl, v2, h3, a3⟩
          have H3 := Lib.hid h3
          have A3 := Lib.hid (HA.out.trans a3)
          clear h3 a3
          go_wp2_with fail
          go_loopw [6] (fun i wr => ∃ (k : Nat) (v' : Value), k ≤ s.size ∧ i = .int .i64 k ∧ RwS base wr B v' ⟨bs ++ (ibits (width most) s.size ++ sbits s k), 0⟩ ∧ Adv w wr B v v') (fun i _ => s.size - (intOf i).toNat)
          case atStart => exact ⟨0, v2, Nat.zero_le _, rfl, by simpa [sbits] using H3.out, A3.out⟩
          case round =>
            obtain ⟨k, v3, hk, rfl, hwr, hadv⟩ := hrel
            have HW := Lib.hid hwr
            have HAD := Lib.hid hadv
            clear hwr hadv
            by_cases hlt : k < s.size
            · have HT := Lib.hid (sbits_succ s k hlt)
              have hsz2 := HAD.out.fr.size
              have hlen : (bs ++ (ibits (width most) s.size ++ sbits s k)).length = bs.length + (width most + 8 * k) := by simp [ibits_len, sbits_len s k hk]
              have HL := Lib.hid hlen
              clear hlen
              go_wp2_with fail
              rw [show wrap64 ((s[k].toNat : Nat) : Int) = ((s[k].toNat : Nat) : Int) from IntWalk.wrap64_in _ ⟨by omega, by have := s[k].toNat_lt; omega⟩]
              refine (put_any base B v3 _ 8 _ _ (by omega) (by omega) (by have := s[k].toNat_lt; omega) (by rw [HL.out]; have := G2.out; omega) (by omega) HW.out).mono ?_
              rintro e w' ⟨rfl, v4, hw3, ha3⟩
              have HW3 := Lib.hid hw3
              have HA3 := Lib.hid ha3
              clear hw3 ha3
              go_wp2_with fail
              go_roundw
              case rel =>
                refine ⟨k + 1, v4, by omega, by go_num, ?_, HAD.out.trans HA3.out⟩
                rw [HT.out, ← List.append_assoc, ← List.append_assoc]
                have := HW3.out
                rwa [← List.append_assoc] at this
              case measure => simp [intOf]; omega
            · go_wp2_with fail
              go_end0
              have e : k = s.size := by omega
              subst e
              rw [HF.out, G1.out]
              exact ⟨rfl, v3, HW.out, HAD.out⟩
    · have HF : Hid (wText most s ⟨bs, 0⟩ = ⟨bs, 1⟩) := by
        refine Lib.hid ?_
        have hu : tErr most s.size = 1 := by unfold tErr; rw [if_neg hw]
        unfold wText wField
        rw [hu, if_neg (by simp), if_pos (by decide)]
      by_cases hlo : most < 1
      · clear hw
        go_enter Try.func39, Try.ntmps39
        go_wp2_with fail
        refine ret_none rfl rfl ?_
        rw [HF.out]
        exact ⟨rfl, v, (H.out.setE 1).1, (H.out.setE 1).2⟩
      · have hhi : 4095 < most := by omega
        clear hw
        go_enter Try.func39, Try.ntmps39
        go_wp2_with fail
        refine ret_none rfl rfl ?_
        rw [HF.out]
        exact ⟨rfl, v, (H.out.setE 1).1, (H.out.setE 1).2⟩
  · have heb : (e != 0) = true := by simpa using he
    have HF : Hid (wText most s ⟨bs, e⟩ = ⟨bs, e⟩) := Lib.hid (by unfold wText; exact wField_dead _ _ _ _ he)
    clear he
    go_enter Try.func39, Try.ntmps39
    go_wp2_with fail
    refine ret_none rfl rfl ?_
    rw [HF.out]
    exact ⟨rfl, v, H.out, Adv.refl _ _ _⟩
end Go.Proofs.Ytelpdihaonoedaa
