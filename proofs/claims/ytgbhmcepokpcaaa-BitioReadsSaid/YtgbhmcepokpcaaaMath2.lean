/- Reading and writing, as plain functions: what is read is written, and the other way round. -/
import Derived.Test.YtgbhmcepokpcaaaStops
import Derived.Test.YtgbhmcepokpcaaaSigned
namespace Go.Proofs.Ytgbhmcepokpcaaa
open Go.RowKit

theorem ibits_bval_rev (l : List Bool) : ibits l.length (bval l.reverse : Int) = l.reverse := by
  induction l with
  | nil => simp [ibits, bval]
  | cons b l ih =>
    rw [List.reverse_cons, bval_snoc, List.length_cons, ibits_snoc]
    have h1 : ((2 * bval l.reverse + b.toNat : Nat) : Int) / 2 = (bval l.reverse : Int) := by cases b <;> simp <;> omega
    have h2 : decide (((2 * bval l.reverse + b.toNat : Nat) : Int) % 2 = 1) = b := by cases b <;> simp <;> omega
    rw [h1, h2, ih]
theorem ibits_bval (bs : List Bool) : ibits bs.length (bval bs : Int) = bs := by
  have := ibits_bval_rev bs.reverse
  rwa [List.reverse_reverse, List.length_reverse] at this
theorem ibits_bval' (bs : List Bool) (k : Nat) (h : bs.length = k) : ibits k (bval bs : Int) = bs := by subst h; exact ibits_bval bs
theorem rbits_add (s : ByteArray) (a j k : Nat) : rbits s a (j + k) = rbits s a j ++ rbits s (a + j) k := by
  simp only [rbits, List.range_add, List.map_append, List.map_map]
  congr 1
  refine List.map_congr_left fun i _ => ?_
  simp [Nat.add_assoc]
theorem rbits_one (s : ByteArray) (a : Nat) : rbits s a 1 = [sbit s a] := by simp [rbits]

theorem sbits_strOf (l : List Nat) (h : ∀ j, l.getD j 0 < 256) : sbits (strOf l) (strOf l).size = l.flatMap fun x : Nat => ibits 8 (x : Int) := by
  unfold sbits
  rw [strOf_size]
  have e : (strOf l).data.toList = l.map UInt8.ofNat := by simp [strOf]
  rw [e, List.take_of_length_le (by simp), List.flatMap_map]
  have : ∀ x ∈ l, ibits 8 ((UInt8.ofNat x).toNat : Int) = ibits 8 (x : Int) := by
    intro x hx
    obtain ⟨j, hj, rfl⟩ := List.getElem_of_mem hx
    have hb := h j
    rw [List.getD_eq_getElem?_getD, List.getElem?_eq_getElem hj, Option.getD_some] at hb
    rw [UInt8.toNat_ofNat', Nat.mod_eq_of_lt hb]
  clear e h
  induction l with
  | nil => rfl
  | cons x l ih =>
    rw [List.flatMap_cons, List.flatMap_cons, this x (by simp), ih (fun y hy => this y (by simp [hy]))]
theorem tbytes_bits (s : ByteArray) (a n : Nat) : ((tbytes s a n).flatMap fun x : Nat => ibits 8 (x : Int)) = rbits s a (8 * n) := by
  induction n with
  | zero => simp [tbytes, rbits]
  | succ n ih =>
    have e : tbytes s a (n + 1) = tbytes s a n ++ [bval (rbits s (a + 8 * n) 8)] := by simp [tbytes, List.range_succ]
    rw [e, List.flatMap_append, ih, Nat.mul_succ, rbits_add]
    simp [ibits_bval' _ 8 (rbits_len s (a + 8 * n) 8)]

theorem uErr_bval (bs : List Bool) (k : Nat) (hk : bs.length = k) (h1 : 1 ≤ k) (h2 : k ≤ 63) : uErr k (bval bs) = 0 := by
  refine uErr_fits k _ h1 h2 (by omega) ?_
  have := bval_lt' bs
  rw [hk] at this
  have e : (2 : Int) ^ k = ((2 ^ k : Nat) : Int) := by rw [Int.natCast_pow]; rfl
  rw [e]; omega
theorem sval_range (k n : Nat) (h1 : 2 ≤ k) (hn : n < 2 ^ k) : -(2 ^ (k - 1)) ≤ sval k n ∧ sval k n < 2 ^ (k - 1) ∧ sval k n % 2 ^ k = (n : Int) % 2 ^ k := by
  obtain ⟨j, rfl⟩ : ∃ j, k = j + 1 := ⟨k - 1, by omega⟩
  have e : (2 : Int) ^ (j + 1) = 2 * 2 ^ j := by rw [Int.pow_succ, Int.mul_comm]
  have e3 : 2 ^ (j + 1) = 2 * 2 ^ j := by rw [Nat.pow_succ]; omega
  have ec : ((2 ^ j : Nat) : Int) = 2 ^ j := by rw [Int.natCast_pow]; rfl
  rw [e3] at hn
  unfold sval
  simp only [Nat.add_sub_cancel]
  rw [e]
  generalize (2 : Int) ^ j = P at *
  generalize (2 : Nat) ^ j = N at *
  split
  · exact ⟨by omega, by omega, rfl⟩
  · refine ⟨by omega, by omega, ?_⟩
    rw [Int.sub_emod_right]

/-- What was read without an error is written as it stood. -/
theorem read_write (f : Fld) (s : ByteArray) (a : Nat) (bs : List Bool) (ha : a ≤ 8 * s.size) (hs : s.size ≤ 65536) (hbs : bs = rbits s 0 a)
    (hok : (rRead f ⟨s, a, 0⟩).2.e = 0) :
    ∃ a', (rRead f ⟨s, a, 0⟩).2 = ⟨s, a', 0⟩ ∧ a ≤ a' ∧ a' ≤ 8 * s.size ∧ wWrite (rRead f ⟨s, a, 0⟩).1 ⟨bs, 0⟩ = ⟨rbits s 0 a', 0⟩ := by
  have hlen : bs.length = a := by rw [hbs, rbits_len]
  have hfin : ∀ k, a + k ≤ 8 * s.size → rbits s 0 (a + k) = bs ++ rbits s a k := fun k _ => by rw [rbits_add, ← hbs, Nat.zero_add]
  have hfield : ∀ (k : Nat) (size : Int) (new : List Bool), size = k → new = rbits s a k → a + k ≤ 8 * s.size → wField 0 size new ⟨bs, 0⟩ = ⟨rbits s 0 (a + k), 0⟩ := by
    intro k size new h1 h2 h3
    unfold wField
    rw [if_neg (by simp), if_neg (by simp), if_neg (by simp only; omega), hfin k h3, h2]
  by_cases k0 : f.kind = 0
  · cases hb : (rBegin (between 1 63 f.width) f.width ⟨s, a, 0⟩).1
    · have := (rBegin_false (st := ⟨s, a, 0⟩) rfl hb).1
      simp [rRead, k0, rUnsigned, rNum, hb] at hok
      exact absurd hok this
    · obtain ⟨_, hv, hsz, _⟩ := rBegin_true hb
      have hw := between_iff hv
      obtain ⟨k, hk⟩ := Int.eq_ofNat_of_zero_le (show 0 ≤ f.width by omega)
      simp only at hsz
      have e : rRead f ⟨s, a, 0⟩ = (⟨0, f.width, (bval (rbits s a k) : Int), ByteArray.empty⟩, ⟨s, a + k, 0⟩) := by
        simp only [rRead, k0, if_true, rUnsigned, rNum, hb, hk, Int.toNat_natCast]
        rw [hk] at hb
        simp [hb]
      rw [e]
      refine ⟨a + k, rfl, by omega, by omega, ?_⟩
      have e2 : wWrite ⟨0, f.width, (bval (rbits s a k) : Int), ByteArray.empty⟩ ⟨bs, 0⟩ = wUnsigned k (bval (rbits s a k)) ⟨bs, 0⟩ := by simp [wWrite, hk]
      rw [e2]
      unfold wUnsigned
      rw [uErr_bval _ k (rbits_len _ _ _) (by omega) (by omega), Int.toNat_natCast, ibits_bval' _ k (rbits_len _ _ _)]
      exact hfield k k _ rfl rfl (by omega)
  by_cases k1 : f.kind = 1
  · cases hb : (rBegin (between 2 63 f.width) f.width ⟨s, a, 0⟩).1
    · have := (rBegin_false (st := ⟨s, a, 0⟩) rfl hb).1
      simp [rRead, k1, rSigned, hb] at hok
      exact absurd hok this
    · obtain ⟨_, hv, hsz, _⟩ := rBegin_true hb
      have hw := between_iff hv
      obtain ⟨k, hk⟩ := Int.eq_ofNat_of_zero_le (show 0 ≤ f.width by omega)
      simp only at hsz
      have e : rRead f ⟨s, a, 0⟩ = (⟨1, f.width, sval k (bval (rbits s a k)), ByteArray.empty⟩, ⟨s, a + k, 0⟩) := by
        rw [hk] at hb
        simp [rRead, k1, rSigned, hk, hb]
      have hv2 := bval_lt' (rbits s a k)
      rw [rbits_len] at hv2
      obtain ⟨g1, g2, g3⟩ := sval_range k (bval (rbits s a k)) (by omega) hv2
      rw [e]
      refine ⟨a + k, rfl, by omega, by omega, ?_⟩
      have e2 : wWrite ⟨1, f.width, sval k (bval (rbits s a k)), ByteArray.empty⟩ ⟨bs, 0⟩ = wSigned k (sval k (bval (rbits s a k))) ⟨bs, 0⟩ := by simp [wWrite, hk]
      rw [e2]
      unfold wSigned
      rw [sErr_fits k _ (by omega) (by omega) g1 g2, Int.toNat_natCast, ibits_congr k _ _ g3, ibits_bval' _ k (rbits_len _ _ _)]
      exact hfield k k _ rfl rfl (by omega)
  by_cases k2 : f.kind = 2
  · cases hb : (rBegin true 1 ⟨s, a, 0⟩).1
    · have := (rBegin_false (st := ⟨s, a, 0⟩) rfl hb).1
      simp [rRead, k2, rFlag, hb] at hok
      exact absurd hok this
    · obtain ⟨_, _, hsz, _⟩ := rBegin_true hb
      simp only at hsz
      have e : rRead f ⟨s, a, 0⟩ = (⟨2, 0, if sbit s a then 1 else 0, ByteArray.empty⟩, ⟨s, a + 1, 0⟩) := by
        simp [rRead, k2, rFlag, hb]
      rw [e]
      refine ⟨a + 1, rfl, by omega, by omega, ?_⟩
      have e2 : wWrite ⟨2, 0, if sbit s a then 1 else 0, ByteArray.empty⟩ ⟨bs, 0⟩ = wFlag (sbit s a) ⟨bs, 0⟩ := by
        simp only [wWrite]
        rw [if_neg (by decide), if_neg (by decide), if_pos trivial]
        cases sbit s a <;> rfl
      rw [e2]
      unfold wFlag
      exact hfield 1 1 _ rfl (rbits_one s a).symm (by omega)
  by_cases k3 : f.kind = 3
  · cases hb : (rBegin (between 1 4095 f.width) (width f.width) ⟨s, a, 0⟩).1
    · have := (rBegin_false (st := ⟨s, a, 0⟩) rfl hb).1
      simp [rRead, k3, rText, hb] at hok
      exact absurd hok this
    · obtain ⟨_, hv, hsz, _⟩ := rBegin_true hb
      have hw := between_iff hv
      simp only at hsz
      have hwd := width_le f.width hw.2
      have hspec := width_spec f.width (by omega) (by omega)
      obtain ⟨n, hn⟩ : ∃ n, bval (rbits s a (width f.width)) = n := ⟨_, rfl⟩
      by_cases hgt : f.width < (n : Int)
      · simp [rRead, k3, rText, hb, hn, hgt] at hok
      · cases hb2 : (rBegin true (8 * (n : Int)) ⟨s, a + width f.width, 0⟩).1
        · have := (rBegin_false (st := ⟨s, a + width f.width, 0⟩) rfl hb2).1
          simp [rRead, k3, rText, hb, hn, hgt, hb2] at hok
          exact absurd hok this
        · obtain ⟨_, _, hsz2, _⟩ := rBegin_true hb2
          simp only at hsz2
          have e : rRead f ⟨s, a, 0⟩ = (⟨3, f.width, 0, strOf (tbytes s (a + width f.width) n)⟩, ⟨s, a + width f.width + 8 * n, 0⟩) := by
            simp [rRead, k3, rText, hb, hn, hgt, hb2]
          rw [e]
          have hT : (strOf (tbytes s (a + width f.width) n)).size = n := by rw [strOf_size, tbytes_len]
          refine ⟨a + width f.width + 8 * n, rfl, by omega, by omega, ?_⟩
          have e2 : wWrite ⟨3, f.width, 0, strOf (tbytes s (a + width f.width) n)⟩ ⟨bs, 0⟩ = wText f.width (strOf (tbytes s (a + width f.width) n)) ⟨bs, 0⟩ := by simp [wWrite]
          rw [e2]
          unfold wText
          have he : tErr f.width (strOf (tbytes s (a + width f.width) n)).size = 0 := by
            rw [hT]; unfold tErr; rw [if_pos hw, if_neg hgt]
          rw [he, sbits_strOf _ (tbytes_lt s _ n), tbytes_bits, hT]
          have e3 : ibits (width f.width) (n : Int) = rbits s a (width f.width) := by rw [← hn]; exact ibits_bval' _ _ (rbits_len _ _ _)
          rw [e3, ← rbits_add, Nat.add_assoc]
          exact hfield (width f.width + 8 * n) _ _ (by push_cast; rfl) rfl (by omega)
  · have e : rRead f ⟨s, a, 0⟩ = (f, ⟨s, a, 0⟩) := rRead_other f _ (by omega)
    rw [e]
    refine ⟨a, rfl, by omega, ha, ?_⟩
    simp [wWrite, k0, k1, k2, k3, hbs]

theorem rRead_err (f : Fld) (st : RSt) (h : st.e ≠ 0) : (rRead f st).2.e ≠ 0 := by rw [rRead_deadst f st h]; exact h

def wIter (fs : Nat → Fld) (st : RSt) (ws : WSt) : Nat → WSt
  | 0 => ws
  | k + 1 => wWrite (rRead (fs k) (rIter fs st k)).1 (wIter fs st ws k)
theorem strict_iter (fs : Nat → Fld) (s : ByteArray) (hs : s.size ≤ 65536) (k : Nat) (h : (rIter fs ⟨s, 0, 0⟩ k).e = 0) :
    ∃ a, rIter fs ⟨s, 0, 0⟩ k = ⟨s, a, 0⟩ ∧ a ≤ 8 * s.size ∧ wIter fs ⟨s, 0, 0⟩ ⟨[], 0⟩ k = ⟨rbits s 0 a, 0⟩ := by
  induction k with
  | zero => exact ⟨0, rfl, by omega, rfl⟩
  | succ k ih =>
    have h0 : (rIter fs ⟨s, 0, 0⟩ k).e = 0 := by
      rcases Classical.em ((rIter fs ⟨s, 0, 0⟩ k).e = 0) with h0 | h0
      · exact h0
      · exact absurd h (rRead_err (fs k) _ h0)
    obtain ⟨a, e1, e2, e3⟩ := ih h0
    have hr : (rRead (fs k) ⟨s, a, 0⟩).2.e = 0 := by
      have : rIter fs ⟨s, 0, 0⟩ (k + 1) = (rRead (fs k) (rIter fs ⟨s, 0, 0⟩ k)).2 := rfl
      rw [this, e1] at h; exact h
    obtain ⟨a', g1, _, g3, g4⟩ := read_write (fs k) s a (rbits s 0 a) e2 hs rfl hr
    refine ⟨a', ?_, g3, ?_⟩
    · show (rRead (fs k) (rIter fs ⟨s, 0, 0⟩ k)).2 = _
      rw [e1, g1]
    · show wWrite (rRead (fs k) (rIter fs ⟨s, 0, 0⟩ k)).1 (wIter fs ⟨s, 0, 0⟩ ⟨[], 0⟩ k) = _
      rw [e1, e3, g4]

theorem bval_zero (bs : List Bool) (h : bval bs = 0) : ∀ b ∈ bs, b = false := by
  have hb := ibits_bval bs
  rw [h] at hb
  intro b hbm
  rw [← hb] at hbm
  simp only [ibits, List.mem_map] at hbm
  obtain ⟨i, _, hi⟩ := hbm
  rw [← hi]
  simp
/-- A string that was read to its end is what was written. -/
theorem closed_bytes (s : ByteArray) (a : Nat) (ha : a ≤ 8 * s.size) (h : rClose ⟨s, a, 0⟩ = 0) : wBytes ⟨rbits s 0 a, 0⟩ = s := by
  unfold rClose at h
  rw [if_neg (by simp)] at h
  simp only at h
  split at h
  · cases h
  · split at h
    · cases h
    · rename_i h8 hz
      have hz' : bval (rbits s a (8 * s.size - a)) = 0 := by omega
      have hall := bval_zero _ hz'
      have hp : Packs (s.data.toList.map UInt8.toNat) (rbits s 0 a) := by
        refine ⟨by simp [rbits_len]; omega, fun j => ?_, fun i => ?_⟩
        · rw [List.getD_eq_getElem?_getD, List.getElem?_map]
          cases s.data.toList[j]? with
          | none => simp
          | some x => simpa using x.toNat_lt
        · have hbit : ((s.data.toList.map UInt8.toNat).getD (i / 8) 0).testBit (7 - i % 8) = sbit s i := by
            unfold sbit
            congr 1
            rw [List.getD_eq_getElem?_getD, List.getElem?_map, List.getD_eq_getElem?_getD]
            cases s.data.toList[i / 8]? <;> simp
          rw [hbit]
          by_cases hi : i < a
          · rw [List.getD_eq_getElem?_getD]
            simp [rbits, hi]
          · rw [List.getD_eq_getElem?_getD, List.getElem?_eq_none (by rw [rbits_len]; omega), Option.getD_none]
            by_cases hi2 : i < 8 * s.size
            · refine hall _ ?_
              rw [rbits, List.mem_map]
              exact ⟨i - a, List.mem_range.2 (by omega), by congr 1; omega⟩
            · unfold sbit
              rw [List.getD_eq_getElem?_getD, List.getElem?_eq_none (by simp; omega)]
              simp
      have := hp.inj (packs_packB (rbits s 0 a))
      simp only [wBytes, ne_eq, not_true, if_false]
      rw [← this]
      unfold strOf
      rw [List.map_map]
      have e : (s.data.toList.map (UInt8.ofNat ∘ UInt8.toNat)) = s.data.toList := by
        conv => rhs; rw [← List.map_id s.data.toList]
        refine List.map_congr_left fun x _ => ?_
        simp
      rw [e]
end Go.Proofs.Ytgbhmcepokpcaaa
