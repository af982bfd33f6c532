/- The reference's writer: Bytes. -/
import Derived.Test.YtelpdihaonoedaaRefW3
namespace Go.Proofs.Ytelpdihaonoedaa
open Go.RowKit
set_option maxRecDepth 20000

/-- N bytes that hold the bits bs. -/
structure PackN (N : Nat) (l : List Nat) (bs : List Bool) : Prop where
  len : l.length = N
  byte : ∀ j, l.getD j 0 < 256
  bit : ∀ i, (l.getD (i / 8) 0).testBit (7 - i % 8) = bs.getD i false
theorem PackN.zero (N : Nat) : PackN N (List.replicate N 0) [] := by
  have h : ∀ j, (List.replicate N 0).getD j 0 = 0 := fun j => by
    rw [List.getD_eq_getElem?_getD, List.getElem?_replicate]; split <;> rfl
  exact ⟨by simp, fun j => by rw [h]; decide, fun i => by rw [h]; simp⟩
theorem PackN.step {N : Nat} {l : List Nat} {bs : List Bool} (h : PackN N l bs) (b : Bool) (hN : bs.length < 8 * N) :
    PackN N (l.set (bs.length / 8) (l.getD (bs.length / 8) 0 ||| b.toNat * 2 ^ (7 - bs.length % 8))) (bs ++ [b]) := by
  have hl := h.len
  have hlt : bs.length / 8 < l.length := by omega
  have hp : 7 - bs.length % 8 < 8 := by omega
  refine ⟨by simp [hl], fun j => ?_, fun i => ?_⟩
  · by_cases hj : j = bs.length / 8
    · rw [hj]
      simp only [List.getD_eq_getElem?_getD, List.getElem?_set_self hlt, Option.getD_some]
      refine Nat.or_lt_two_pow (n := 8) (by have := h.byte (bs.length / 8); simpa [List.getD_eq_getElem?_getD] using this) ?_
      cases b
      · simp
      · simpa using Nat.pow_lt_pow_right (a := 2) (by decide) hp
    · have := h.byte j; simpa [List.getD_eq_getElem?_getD, List.getElem?_set_ne (Ne.symm hj)] using this
  · have hb := h.bit i
    by_cases hi8 : i / 8 = bs.length / 8
    · rw [hi8]
      simp only [List.getD_eq_getElem?_getD, List.getElem?_set_self hlt, Option.getD_some, Nat.testBit_or]
      rw [hi8] at hb
      simp only [List.getD_eq_getElem?_getD] at hb
      rw [hb]
      have ht : (b.toNat * 2 ^ (7 - bs.length % 8)).testBit (7 - i % 8) = (b && decide (i = bs.length)) := by
        cases b
        · simp
        · simp only [Bool.toNat_true, Nat.one_mul, Nat.testBit_two_pow, Bool.true_and]
          by_cases hi' : i = bs.length
          · subst hi'; simp
          · have : ¬ (7 - bs.length % 8 = 7 - i % 8) := by omega
            simp [this, hi']
      rw [ht]
      by_cases hi : i < bs.length
      · rw [List.getElem?_append_left hi]
        have : i ≠ bs.length := by omega
        simp [this]
      · by_cases hi' : i = bs.length
        · subst hi'; simp
        · rw [List.getElem?_eq_none (show bs.length ≤ i by omega), List.getElem?_eq_none (show (bs ++ [b]).length ≤ i by simp; omega)]
          simp [hi']
    · rw [List.getD_eq_getElem?_getD, List.getElem?_set_ne (Ne.symm hi8), ← List.getD_eq_getElem?_getD, hb]
      by_cases hi : i < bs.length
      · simp [List.getD_eq_getElem?_getD, List.getElem?_append_left hi]
      · rw [List.getD_eq_getElem?_getD, List.getD_eq_getElem?_getD, List.getElem?_eq_none (by omega), List.getElem?_eq_none]
        have : i ≠ bs.length := fun e => hi8 (by rw [e])
        simp; omega
theorem or_shl (x p : Nat) (b : Bool) (hx : x < 256) (hp : p < 8) : bits .or .u8 (x : Int) (((b.toNat : Int) * 2 ^ p % 256)) = ((x ||| b.toNat * 2 ^ p : Nat) : Int) := by
  have h : ∀ x : Fin 256, ∀ p : Fin 8, ∀ b : Bool, bits .or .u8 ((x.val : Nat) : Int) (((b.toNat : Int) * 2 ^ p.val % 256)) = ((x.val ||| b.toNat * 2 ^ p.val : Nat) : Int) := by decide +kernel
  exact h ⟨x, hx⟩ ⟨p, hp⟩ b

set_option maxHeartbeats 1000000 in
theorem rbytes_any (base B : Nat) (v : Value) (st : WSt) (w : World) (h : RwS base w B v st) :
    Calls Try.prog 40 #[.pointer (some ⟨B, 0, none⟩)] w fun e w' => e = .returned (.tuple #[.string (wBytes st), .int .i64 st.e]) ∧ Fr (fun _ => False) w w' := by
  obtain ⟨bs, e⟩ := st
  obtain ⟨c0, c1, f0, f1⟩ := two_cells h.blk
  by_cases he : e = 0
  · subst he
    obtain ⟨ao, cap, hv⟩ := own_form h.own
    have hown := h.own
    have hne := h.ne
    have hBlt := lt_of_blk h.blk
    have hle := h.le
    subst hv
    simp only at hown c0 c1 hle
    have HLE := Lib.hid hle
    clear h hle
    obtain ⟨i0, hi, hz0, hz1, hz2⟩ := info_parts Try.info5
    obtain ⟨n, hn⟩ : ∃ n, bs.length = n := ⟨_, rfl⟩
    rw [hn] at c0 hown hne HLE
    have HNN := Lib.hid hn
    clear hn
    have hn19 : (n : Int) ≤ 524288 := by have := HLE.out; omega
    go_enter Try.func40, Try.ntmps40
    go_wp2_with (at_make; refine wpList_make_full _ rfl (.tmp 21) (.tmp 21) 41 rfl 0 5 i0 (.int .u8 0) 1 Try.underlying41 hi hz0 hz1 .i64 .i64 _ _ ((n + 7) / 8) rfl rfl ?b1 ?b2 ?c1 ?c2 ?c3 ?_)
    case b1 => omega
    case b2 => omega
    case c1 => rw [hz2]; omega
    case c2 => unfold maxLen; omega
    case c3 => exact Nat.zero_le _
    intro w1 ho1 hgrow
    rw [toList_madeCells_one] at ho1
    have hfr1 : Fr (fun _ => False) w w1 := (Fr.refl _ w).grown hgrow (by simp)
    have hrow1 : w1.ownsRow base 5 1 (.slice ao n cap) n (bytesV (bitsV bs)) := ownsRow_kept hown hfr1 (fun _ _ h => h)
    have d0 : w1.cell? ⟨B, 0, none⟩ = some (.slice ao n cap) := (hfr1.cell (p := ⟨B, 0, none⟩) hBlt (fun h => h)).trans c0
    have hgs : ∀ k, (Value.slice ao n cap).ownBlock = some k → k ≠ w.heap.size := fun k hk e => by have := (hown.lt k hk).2; omega
    have HGS := Lib.hid hgs
    have HO := Lib.hid ho1
    have HF1 := Lib.hid hfr1
    have HRW := Lib.hid hrow1
    clear ho1 hgrow hfr1 hrow1 hown hne c0 c1 f0 f1 hgs
    go_wp2_with fail
    go_loopw [5] (fun i wr => ∃ (k : Nat) (l : List Nat), k ≤ n ∧ i = .int .i64 k ∧ wr.cell? ⟨B, 0, none⟩ = some (.slice ao n cap) ∧ wr.ownsRow base 5 1 (.slice ao n cap) n (bytesV (bitsV bs)) ∧
      wr.ownsRow 0 5 1 (.slice (some ⟨w.heap.size, 0, none⟩) ((n + 7) / 8) ((n + 7) / 8)) ((n + 7) / 8) (bytesV l) ∧ PackN ((n + 7) / 8) l (bs.take k) ∧ Fr (fun _ => False) w wr) (fun i _ => n - (intOf i).toNat)
    case atStart => exact ⟨0, List.replicate ((n + 7) / 8) 0, Nat.zero_le _, rfl, d0, HRW.out, by have := HO.out; simpa [bytesV] using this, by simpa using PackN.zero ((n + 7) / 8), HF1.out⟩
    case round =>
      obtain ⟨k, l, hk, rfl, e0, hrb, hro, hpk, hfr⟩ := hrel
      have HRB := Lib.hid hrb
      have HRO := Lib.hid hro
      have HPK := Lib.hid hpk
      have HFR := Lib.hid hfr
      by_cases hlt : k < n
      · obtain ⟨g, cap2, hv2, hbg, hglt⟩ := hrb.form (by omega)
        simp only [Value.slice.injEq, true_and] at hv2
        obtain ⟨rfl, rfl⟩ := hv2
        have hkl : k < bs.length := by rw [HNN.out]; exact hlt
        have hbt := HNN.out
        have cb : wr.cell? ⟨g, k, none⟩ = some (.int .u8 ((bs[k]).toNat : Int)) := by
          rw [hrb.cellAt k (by omega)]
          simp [bytesV, bitsV, hkl]
        have ht : (bs.take k).length = k := by simp; omega
        have co : wr.cell? ⟨w.heap.size, k / 8, none⟩ = some (.int .u8 ((l.getD (k / 8) 0 : Nat) : Int)) := by
          rw [hro.cellAt (k / 8) (by omega)]
          exact bytesV_get l _ (by rw [hpk.len]; omega)
        have fo : wr.frozen? ⟨w.heap.size, k / 8, none⟩ = false := hro.frozenAt _
        have hx := hpk.byte (k / 8)
        have HOR := Lib.hid (or_shl (l.getD (k / 8) 0) (7 - k % 8) bs[k] hx (by omega))
        have hst := hpk.step bs[k] (by rw [ht]; omega)
        rw [ht] at hst
        have htk : bs.take (k + 1) = bs.take k ++ [bs[k]] := List.take_succ_eq_append_getElem hkl
        have HST := Lib.hid hst
        have HTK := Lib.hid htk
        have hgne : w.heap.size ≠ g := fun e => HGS.out g rfl e.symm
        clear hrb hro hpk hfr hst htk ht hbt
        generalize l.getD (k / 8) 0 = x at *
        generalize hbk : bs[k] = b at *
        have HBK := Lib.hid hbk
        clear hbk
        go_wp2_with fail
        go_region
        go_wp2_with fail
        rw [HOR.out]
        go_roundw
        case rel =>
          have hst2 := (HRO.out.stored (k / 8) (.int .u8 ((x ||| b.toNat * 2 ^ (7 - k % 8) : Nat) : Int))).1
          rw [bytesV_set] at hst2
          refine ⟨k + 1, _, by omega, by go_num, ?_, ?_, hst2, by rw [HTK.out]; exact HST.out, ?_⟩
          · exact (World.cell?_of_block (w := wr) (Below.heap_setCell wr ⟨w.heap.size, k / 8, none⟩ _ B (by simp only; omega))).trans e0
          · exact ownsRow_setCell_other HRB.out (by simpa [Value.ownBlock] using fun e => hgne e.symm) _
          · exact (HFR.out.setCell (p := ⟨w.heap.size, k / 8, none⟩) (.inr (Nat.le_refl _)) _).drew
        case measure => simp [intOf]; omega
      · have ek : k = n := by omega
        subst ek
        have hfull : bs.take k = bs := List.take_of_length_le (by rw [HNN.out]; exact Nat.le_refl _)
        rw [hfull] at hpk
        have hp : Packs l bs := ⟨by rw [hpk.len, HNN.out], hpk.byte, hpk.bit⟩
        have hcv := convert_bytes (w := wr) (l := l) (base := 0) (v := .slice (some ⟨w.heap.size, 0, none⟩) ((k + 7) / 8) ((k + 7) / 8)) (by rw [hpk.len]; exact hro) hpk.byte
        have hl : strOf l = wBytes ⟨bs, 0⟩ := by rw [hp.inj (packs_packB bs)]; simp [wBytes]
        rw [hl] at hcv
        clear hl
        generalize hS : wBytes ⟨bs, 0⟩ = S at *
        have HSS := Lib.hid hS
        clear hrb hro hpk hp hfull hfr hS
        go_wp2_with fail
        go_ret2
        rw [HSS.out]
        exact ⟨rfl, HFR.out⟩
  · have heb : (e != 0) = true := by simpa using he
    have hb0 : wBytes ⟨bs, e⟩ = ByteArray.empty := by simp [wBytes, he]
    rw [hb0]
    clear hb0 he h
    go_enter Try.func40, Try.ntmps40
    go_wp2
    go_region
    go_wp2
    go_ret2
    exact ⟨rfl, (Fr.refl _ _).drew⟩
end Go.Proofs.Ytelpdihaonoedaa
