/- haveParents; Depths. -/
import Derived.Test.YtmkmefcafpgphaaLis
import Derived.Deep.LoopGhost
import Derived.WalkMore
namespace Go.Proofs.Ytmkmefcafpgphaa
set_option linter.unusedVariables false
open Go.RowKit


theorem slice_1 {w : World} {ao : Option Addr} {len : Nat} {zs : List Int} (h : IntsIn w ao len zs) (h0 : 1 ≤ len) : ∃ b off, ao = some ⟨b, off, none⟩ ∧ zs.length = len ∧ ∀ i, i < len → w.cell? ⟨b, off + i, none⟩ = some (.int .i64 (zs.getD i 0)) := by
  obtain ⟨b, off, ha, _⟩ := h.2 0 (by omega)
  refine ⟨b, off, ha, h.1, fun i hi => ?_⟩
  obtain ⟨b', off', ha', hc⟩ := h.2 i hi
  rw [ha] at ha'
  cases ha'
  exact hc
theorem hp_of {zs : List Int} {q : Bool} (h1 : inR zs.length 1 32 = true) (h2 : zs.getD 0 0 = -1) (h3 : ((zs.drop 1).all fun p => inR p 0 ((zs.length : Int) - 1)) = q) : hpB zs = q := by
  simp only [hpB, h1, h2, h3]; simp
theorem all_take {α : Type} (g : α → Bool) (d : α) (l : List α) (k : Nat) (hk : k < l.length) : (l.take (k + 1)).all g = ((l.take k).all g && g (l.getD k d)) := by
  rw [List.take_succ_eq_append_getElem hk, List.all_append]
  simp [List.getD_eq_getElem?_getD, List.getElem?_eq_getElem hk]
theorem all_no {α : Type} (g : α → Bool) (d : α) (l : List α) (k : Nat) (hk : k < l.length) (h : g (l.getD k d) = false) : l.all g = false := by
  rw [List.all_eq_false]
  refine ⟨l.getD k d, ?_, by rw [h]; exact Bool.false_ne_true⟩
  rw [List.getD_eq_getElem?_getD, List.getElem?_eq_getElem hk]
  exact List.getElem_mem hk
theorem drop_at (zs : List Int) (k : Nat) : (zs.drop 1).getD k 0 = zs.getD (k + 1) 0 := by
  simp only [List.getD_eq_getElem?_getD, List.getElem?_drop]
  rw [Nat.add_comm]
set_option maxHeartbeats 4000000 in
theorem haveParents_any (ao : Option Addr) (len cap : Nat) (zs : List Int) (w : World) (h : IntsIn w ao len zs) (hc : len ≤ cap) (hl : len ≤ 40) :
    Calls Try.prog 52 #[.slice ao len cap] w fun e w' => e = .returned (.bool (hpB zs)) ∧ w' = w := by
  have HI := Lib.hid (fun w => twithin_any (len : Int) 1 32 w)
  by_cases h1 : 1 ≤ len ∧ len ≤ 32
  · obtain ⟨n1, n2⟩ := h1
    obtain ⟨b, off, rfl, hzl, hcell⟩ := slice_1 h n1
    have hin : inR zs.length 1 32 = true := inR_t.2 ⟨by omega, by omega⟩
    rw [show inR (len : Int) 1 32 = true from inR_t.2 ⟨by omega, by omega⟩] at HI
    have c0 := hcell 0 (by omega)
    have HCL := Lib.hid hcell
    have HZL := Lib.hid hzl
    rw [Nat.add_zero] at c0
    have z1 : (0 : Int) < (len : Int) := by omega
    by_cases h2 : zs.getD 0 0 = -1
    · rw [h2] at c0
      have HP := Lib.hid (fun (q : Bool) (h3 : ((zs.drop 1).all fun p => inR p 0 ((zs.length : Int) - 1)) = q) => hp_of hin h2 h3)
      have HW := Lib.hid (fun (n : Int) w => twithin_any n 0 ((len : Int) - 1) w)
      clear hin h hcell hzl h2
      by_cases hc1 : cap = 1
      · subst hc1
        obtain rfl : len = 1 := by omega
        have HR := Lib.hid (HP.out true (by rw [List.drop_eq_nil_of_le (by have := HZL.out; omega)]; rfl))
        clear HP
        go_enter Try.func52, Try.ntmps52
        go_wp2_with fail
        refine (HI.out _).mono ?_
        rintro e w1 ⟨rfl, rfl⟩
        go_wp2_with fail
        obtain ⟨w9, hw9⟩ : ∃ w9, w9 = w1 := ⟨_, rfl⟩
        go_loopw [4, 18] (fun _ i wr => i = .int .i64 0 ∧ wr = w9) (fun _ i _ => (1 - intOf i).toNat)
        case atStart => exact ⟨rfl, hw9.symm⟩
        case round =>
          obtain ⟨rfl, rfl⟩ := hrel
          go_wp2_with fail
          go_ret
          rw [HR.out]
          exact ⟨rfl, rfl⟩
      · have hc2 : (cap == 1) = false := by simpa using hc1
        go_enter Try.func52, Try.ntmps52
        go_wp2_with fail
        refine (HI.out _).mono ?_
        rintro e w1 ⟨rfl, rfl⟩
        go_wp2_with fail
        obtain ⟨w9, hw9⟩ : ∃ w9, w9 = w1 := ⟨_, rfl⟩
        go_loopw [4, 18] (fun _ i wr => ∃ k : Nat, k ≤ len - 1 ∧ i = .int .i64 k ∧ Hid (((zs.drop 1).take k).all (fun p => inR p 0 ((zs.length : Int) - 1)) = true) ∧ wr = w9) (fun _ i _ => (len - 1) - (intOf i).toNat)
        case atStart => exact ⟨0, by omega, rfl, Lib.hid (by simp), hw9.symm⟩
        case round =>
          obtain ⟨k, hk, rfl, I, rfl⟩ := hrel
          subst hw9
          by_cases hlt : k < len - 1
          · have ck := HCL.out (k + 1) (by omega)
            rw [show off + (k + 1) = off + 1 + k by omega] at ck
            have hkI : (k : Int) < ((len - 1 : Nat) : Int) := by omega
            have hE : (zs.drop 1).getD k 0 = zs.getD (k + 1) 0 := drop_at zs k
            have hdl : k < (zs.drop 1).length := by have := HZL.out; simp; omega
            generalize hy : zs.getD (k + 1) 0 = y at *
            have HWy := Lib.hid (fun w => HW.out y w)
            have HLE : ((len : Int)) = (zs.length : Int) := by rw [HZL.out]
            cases hg : inR y 0 ((len : Int) - 1)
            · rw [hg] at HWy
              have HR := Lib.hid (HP.out false (all_no _ 0 _ k hdl (by rw [hE, ← HLE]; exact hg)))
              clear HP hE hdl HLE hg hy
              go_wp2_with fail
              refine (HWy.out _).mono ?_
              rintro e w2 ⟨rfl, rfl⟩
              go_wp2_with fail
              go_ret
              rw [HR.out]
              exact ⟨rfl, rfl⟩
            · rw [hg] at HWy
              have HJ := Lib.hid (show ((zs.drop 1).take (k + 1)).all (fun p => inR p 0 ((zs.length : Int) - 1)) = true by rw [all_take _ 0 _ k hdl, I.out, hE, ← HLE]; exact hg)
              clear hE hdl HLE hg hy
              go_wp2_with fail
              refine (HWy.out _).mono ?_
              rintro e w2 ⟨rfl, rfl⟩
              go_wp2_with fail
              go_roundw
              case rel => exact ⟨k + 1, by omega, by go_num, HJ, by simp⟩
              case measure => simp [intOf]; omega
          · have hkI : ¬ (k : Int) < ((len - 1 : Nat) : Int) := by omega
            have HR := Lib.hid (HP.out true (by rw [← I.out, List.take_of_length_le (by have := HZL.out; simp; omega)]))
            clear HP
            go_wp2_with fail
            go_ret
            rw [HR.out]
            exact ⟨rfl, rfl⟩
    · have HR := Lib.hid (show hpB zs = false by simp only [hpB, decide_eq_false h2, Bool.false_and, Bool.and_false])
      have h3 : decide (zs.getD 0 0 = -1) = false := by simpa using h2
      have h4 : (zs.getD 0 0 == -1) = false := by simpa using h2
      generalize zs.getD 0 0 = y at *
      clear hin h hcell hzl
      go_enter Try.func52, Try.ntmps52
      go_wp2_with fail
      refine (HI.out _).mono ?_
      rintro e w1 ⟨rfl, rfl⟩
      go_wp2_with fail
      go_ret
      rw [HR.out]
      exact ⟨rfl, rfl⟩
  · have hin : inR (len : Int) 1 32 = false := by
      cases x : inR (len : Int) 1 32
      · rfl
      · have := inR_t.1 x; omega
    rw [hin] at HI
    have HR := Lib.hid (show hpB zs = false by simp only [hpB]; rw [show (zs.length : Int) = (len : Int) by rw [h.1], hin]; rfl)
    clear hin h
    go_enter Try.func52, Try.ntmps52
    go_wp2_with fail
    refine (HI.out _).mono ?_
    rintro e w1 ⟨rfl, rfl⟩
    go_wp2_with fail
    go_ret
    rw [HR.out]
    exact ⟨rfl, rfl⟩

theorem made_ints (n : Nat) : (madeCells #[Value.int .i64 0] n).toList = Ints (List.replicate n (0 : Int)) := by
  refine List.ext_getElem (by simp [madeCells, Ints]) fun i h1 h2 => ?_
  simp [madeCells, Nat.mod_one, Ints]
theorem ints_set (L : List Int) (m : Nat) (s : Int) : (Ints L).set m (.int .i64 s) = Ints (L.set m s) := by simp [Ints]
theorem take_set (L : List Int) (m : Nat) (s : Int) (h : m < L.length) : (L.set m s).take (m + 1) = L.take m ++ [s] := by
  induction L generalizing m with
  | nil => simp at h
  | cons a l ih =>
    cases m with
    | zero => simp
    | succ m => simp [ih m (by simpa using h)]
theorem dpL_take (zs : List Int) (k : Nat) (h : k < zs.length) : (dpL zs).take (k + 1) = (dpL zs).take k ++ [(dep zs (k : Int) : Int)] := by
  rw [List.take_succ_eq_append_getElem (by rw [dpL_len]; exact h)]
  simp [dpL]
/-- What Depths answers. -/
def DepR (w w' : World) (zs : List Int) (e : Ending) : Prop :=
  Fr no w w' ∧ ((Tree zs ∧ ∃ v, e = .returned (.tuple #[v, .int .i64 0]) ∧ RowI w.heap.size w' v (dpL zs)) ∨ (¬ Tree zs ∧ e = .returned (.tuple #[.slice none 0 0, .int .i64 1])))
set_option maxHeartbeats 4000000 in
theorem depths_any (ao : Option Addr) (len cap : Nat) (zs : List Int) (w : World) (h : IntsIn w ao len zs) (hc : len ≤ cap) (hl : len ≤ 40) :
    Calls Try.prog 21 #[.slice ao len cap] w (fun e w' => DepR w w' zs e) := by
  have HH := Lib.hid (fun w' hf => haveParents_any ao len cap zs w' (h.kept hf) hc hl)
  cases hp : hpB zs
  · rw [hp] at HH
    have HT := Lib.hid (show ¬ Tree zs from fun ht => by rw [ht.1] at hp; cases hp)
    clear h hc hl hp
    go_enter Try.func21, Try.ntmps21
    go_wp2_with fail
    first | (go_step3; go_wp2_with fail) | skip
    refine (HH.out _ (Fr.refl no w)).mono ?_
    rintro e w1 ⟨rfl, rfl⟩
    go_wp2_with fail
    first | rw [Exit.noGoto_ret] | skip
    go_ret2
    exact ⟨Fr.refl no _, .inr ⟨HT.out, rfl⟩⟩
  · rw [hp] at HH
    obtain ⟨⟨n1, n2⟩, hz0, -⟩ := hpB_t hp
    obtain ⟨b, off, rfl, hzl, hcell⟩ := slice_1 h (by rw [← h.1]; exact n1)
    have hblt : b < w.heap.size := World.block_lt_of_cell? _ _ (hcell 0 (by omega))
    have HCL := Lib.hid hcell
    have HZL := Lib.hid hzl
    have HP := Lib.hid hp
    obtain ⟨i0, hi, hz0', hz1, hz2⟩ := info_parts info3
    rw [hzl] at n1 n2
    clear h hc hl hp hcell hzl hz0
    go_enter Try.func21, Try.ntmps21
    go_wp2_with fail
    go_step3
    go_wp2_with fail
    refine (HH.out _ (Fr.refl no w)).mono ?_
    rintro e w1 ⟨rfl, rfl⟩
    go_wp2_with (refine wpList_make_full _ rfl (.tmp 12) (.tmp 12) 37 rfl w1.heap.size 3 i0 (.int .i64 0) 1 Try.underlying37 hi hz0' hz1 .i64 .i64 (len : Int) (len : Int) len rfl rfl rfl rfl ?m1 ?m2 ?m3 ?_)
    case m1 => rw [hz2]; omega
    case m2 => unfold maxLen; omega
    case m3 => exact Nat.le_refl _
    intro w2 hown hgrow
    rw [made_ints] at hown
    have HF2 := Lib.hid (show Fr no w1 w2 from (Fr.refl no w1).grown hgrow (fun k hk => by cases hk))
    have HO2 := Lib.hid hown
    clear hown hgrow
    go_wp2_with fail
    first | (go_step3; go_wp2_with fail; go_step3; go_wp2_with fail) | (go_step3; go_wp2_with fail) | skip
    go_loopg [5, 6, 7, 16] len (fun g _ _ _ i wr => ∃ (k : Nat) (L : List Int), k + g = len ∧ i = .int .i64 k ∧ L.length = len ∧ Hid (wr.ownsRow w1.heap.size 3 1 (.slice (some ⟨w1.heap.size, 0, none⟩) len len) len (Ints L)) ∧ Hid (L.take k = (dpL zs).take k ∧ ∀ j : Nat, j < k → Dp zs j (dep zs j)) ∧ Hid (Fr no w1 wr))
    case atStart => exact ⟨0, List.replicate len 0, by omega, rfl, by simp, HO2, Lib.hid ⟨by simp, fun j hj => by omega⟩, HF2⟩
    case round =>
      obtain ⟨k, L, hkg, rfl, hLl, hO, hD, hF⟩ := hrel
      cases gk with
      | zero =>
        have hkz : ¬ ((k : Int) < (len : Int)) := by omega
        obtain rfl : k = len := by omega
        have HT := Lib.hid (show Tree zs from ⟨HP.out, fun i hi => hD.out.2 i (by have := HZL.out; omega)⟩)
        have HL := Lib.hid (show L = dpL zs by
          have := hD.out.1
          rwa [List.take_of_length_le (by omega), List.take_of_length_le (by rw [dpL_len]; have := HZL.out; omega)] at this)
        have HLl := Lib.hid hLl
        clear hLl hkg
        go_wp2_with fail
        first | rw [Exit.noGoto_ret] | skip
        go_ret2
        refine ⟨hF.out, .inl ⟨HT.out, _, rfl, ?_⟩⟩
        unfold RowI
        rw [dpL_len, HZL.out, ← HL.out]
        exact hO.out
      | succ g =>
        have hkz : (k : Int) < (len : Int) := by omega
        have HLl := Lib.hid hLl
        have HK := Lib.hid (show k < len by omega)
        obtain ⟨wo, hwo⟩ : ∃ wo : World, wo = wr := ⟨_, rfl⟩
        subst hwo
        clear hLl
        go_wp2_with fail
        go_loopg [6, 7, 22] len (fun g2 s6 _ i wy => ∃ j : Nat, j + g2 = len ∧ i = .int .i64 j ∧ s6 = .int .i64 (an zs k j) ∧ Hid (∀ m, m < j → an zs k m ≠ 0) ∧ wy = wo)
        case atStart => exact ⟨0, by omega, rfl, rfl, Lib.hid (fun m hm => by omega), rfl⟩
        case round =>
          obtain ⟨j, hjg, rfl, rfl, hN, rfl⟩ := hrel
          cases gk with
          | zero =>
            have hjz : ¬ ((j : Int) < (len : Int)) := by omega
            have HT := Lib.hid (show ¬ Tree zs from fun ht => by
              obtain ⟨d1, d2, -⟩ := ht.2 k (by have := HZL.out; have := HK.out; omega)
              exact hN.out _ (by have := HZL.out; omega) d2)
            go_wp2_with fail
            first | rw [Exit.noGoto_ret] | skip
            go_ret2
            exact ⟨hF.out, .inr ⟨HT.out, rfl⟩⟩
          | succ g2 =>
            have hjz : (j : Int) < (len : Int) := by omega
            obtain ⟨ya, yb⟩ := an_in HP.out (i := (k : Int)) (by omega) (by have := HZL.out; have := HK.out; omega) j hN.out
            rw [HZL.out] at yb
            have HAN := Lib.hid (show zs.getD (an zs k j).toNat 0 = an zs k (j + 1) from rfl)
            have HY := Lib.hid (show Hid (∀ m, m < j → an zs k m ≠ 0) ∧ an zs k j = an zs k j from ⟨hN, rfl⟩)
            by_cases h0 : an zs k j = 0
            · have HDk := Lib.hid (show Dp zs k (dep zs k) from dp_of (by have := HZL.out; omega) h0)
              have HDe := Lib.hid (show dep zs k = j from Dp.eq ⟨by have := HZL.out; omega, h0, hN.out⟩)
              rw [h0]
              have hrow := hO.out
              have cg : ∃ v, World.cell? _ ⟨w1.heap.size, k, none⟩ = some v := ⟨_, (hrow.cellAt k (by have := HK.out; omega)).trans (List.getElem?_eq_getElem (by rw [ints_len, HLl.out]; exact HK.out))⟩
              obtain ⟨vg, cg⟩ := cg
              have fg := hrow.frozenAt k
              have hst := (hrow.stored k (.int .i64 (j : Int))).1
              rw [ints_set] at hst
              have HST := Lib.hid hst
              have HFn := Lib.hid (hF.out.setCell (p := ⟨w1.heap.size, k, none⟩) (.inr (Nat.le_refl _)) (.int .i64 (j : Int)))
              clear hrow hst ya yb h0
              go_wp2_with fail
              go_roundg g
              case rel => exact ⟨k + 1, L.set k (j : Int), by omega, by go_num, by rw [List.length_set]; exact HLl.out, HST, Lib.hid ⟨by rw [take_set L k _ (by have := HLl.out; have := HK.out; omega), hD.out.1, dpL_take zs k (by have := HZL.out; have := HK.out; omega), HDe.out], fun m hm => by
                by_cases e : m = k
                · rw [e]; exact HDk.out
                · exact hD.out.2 m (by omega)⟩, HFn⟩
              case measure => omega
            · have cy := hF.out.keepc (HCL.out (an zs k j).toNat (by omega))
              rw [HAN.out] at cy
              have HN2 := Lib.hid (show ∀ m, m < j + 1 → an zs k m ≠ 0 from fun m hm => by
                by_cases e : m = j
                · rw [e]; exact h0
                · exact hN.out m (by omega))
              have HAN2 := HAN
              generalize hyy : an zs k (j + 1) = y2 at *
              generalize hy1 : an zs k j = y at *
              have h1 : (y == 0) = false := by simpa using h0
              have h2 : decide (y = 0) = false := by simpa using h0
              have HYY := Lib.hid hyy
              clear HAN HAN2 HY hyy hy1
              go_wp2_with fail
              go_roundg g2
              case rel => exact ⟨j + 1, by omega, by go_num, by rw [HYY.out], HN2, rfl⟩
              case measure => omega

end Go.Proofs.Ytmkmefcafpgphaa
