/- BitioBack. -/
import Derived.Test.YtgbhmcepokpcaaaStrict
namespace Go.Proofs.Ytgbhmcepokpcaaa
open Go.RowKit

def bIter (fs : Nat → Fld) : Nat → WSt
  | 0 => ⟨[], 0⟩
  | k + 1 => wWrite (fs k) (bIter fs k)

theorem wField_dead (err size : Int) (new : List Bool) (st : WSt) (h : st.e ≠ 0) : wField err size new st = st := by simp [wField, h]
theorem wWrite_dead (f : Fld) (st : WSt) (h : st.e ≠ 0) : wWrite f st = st := by
  simp [wWrite, wUnsigned, wSigned, wFlag, wText, wField_dead _ _ _ _ h]

/-- What a field that was written without an error is when it is read. -/
def Match (f x : Fld) : Prop := (f.kind ≤ 1 → x.n = f.n) ∧ (f.kind = 2 → (x.n == 1) = (f.n != 0)) ∧ (f.kind = 3 → x.s = f.s)

theorem wField_ok {err size : Int} {new bs : List Bool} (hsz : err = 0 → size = new.length) (h : (wField err size new ⟨bs, 0⟩).e = 0) : err = 0 ∧ bs.length + new.length ≤ 524288 ∧ wField err size new ⟨bs, 0⟩ = ⟨bs ++ new, 0⟩ := by
  unfold wField at h ⊢
  rw [if_neg (by simp)] at h ⊢
  by_cases he : err = 0
  · rw [if_neg (by simp [he])] at h ⊢
    by_cases hs : size > 524288 - ((⟨bs, 0⟩ : WSt).bs.length : Int)
    · rw [if_pos hs] at h; cases h
    · rw [if_neg hs]
      have := hsz he
      simp only at hs
      exact ⟨he, by omega, rfl⟩
  · rw [if_pos he] at h
    exact absurd h he

theorem two_pow_nat (k : Nat) : (2 : Int) ^ k = ((2 ^ k : Nat) : Int) := by rw [Int.natCast_pow]; rfl

theorem uErr_inv {width n : Int} (h : uErr width n = 0) : 0 ≤ n ∧ n < 2 ^ width.toNat := by
  unfold uErr at h
  split at h
  · split at h
    · rename_i hz
      have hp : (0 : Int) < 2 ^ width.toNat := Int.pow_pos (by decide)
      rw [Int.ediv_eq_iff_of_pos hp] at hz
      omega
    · cases h
  · cases h
theorem sErr_inv {width n : Int} (h : sErr width n = 0) : -(2 ^ (width.toNat - 1)) ≤ n ∧ n < 2 ^ (width.toNat - 1) := by
  unfold sErr at h
  split at h
  · split at h
    · rename_i hz
      have hp : (0 : Int) < 2 ^ (width.toNat - 1) := Int.pow_pos (by decide)
      generalize (2 : Int) ^ (width.toNat - 1) = P at *
      rw [Int.ediv_eq_iff_of_pos hp, Int.ediv_eq_iff_of_pos hp] at hz
      omega
    · cases h
  · cases h

theorem write_step (f : Fld) (bs : List Bool) (hle : bs.length ≤ 524288) (h : (wWrite f ⟨bs, 0⟩).e = 0) :
    ∃ new : List Bool, wWrite f ⟨bs, 0⟩ = ⟨bs ++ new, 0⟩ ∧ bs.length + new.length ≤ 524288 ∧ (¬ (0 ≤ f.kind ∧ f.kind ≤ 3) → new = []) ∧
      ∀ (s : ByteArray) (a : Nat), rbits s a new.length = new → a + new.length ≤ 8 * s.size → 0 ≤ f.kind → f.kind ≤ 3 → ∃ x, rRead f ⟨s, a, 0⟩ = (x, ⟨s, a + new.length, 0⟩) ∧ Match f x := by
  have hbeg : ∀ (s : ByteArray) (a : Nat) (valid : Bool) (size : Int), valid = true → size ≤ 8 * (s.size : Int) - a → (rBegin valid size ⟨s, a, 0⟩).1 = true := by
    intro s a valid size hv hs
    unfold rBegin
    rw [if_neg (by simp), if_neg (by simp [hv]), if_neg (by simp only; omega)]
  by_cases k0 : f.kind = 0
  · have e : wWrite f ⟨bs, 0⟩ = wUnsigned f.width f.n ⟨bs, 0⟩ := by simp [wWrite, k0]
    rw [e] at h ⊢
    unfold wUnsigned at h ⊢
    obtain ⟨g1, g2, g3⟩ := wField_ok (fun he => by have := uErr_zero he; rw [ibits_len]; omega) h
    have hw := uErr_zero g1
    have hn := uErr_inv g1
    refine ⟨_, g3, g2, fun hk => absurd ⟨by omega, by omega⟩ hk, fun s a hr ha _ _ => ?_⟩
    rw [ibits_len] at hr ha ⊢
    have hb := hbeg s a (between 1 63 f.width) f.width (by simp [between]; omega) (by omega)
    refine ⟨⟨0, f.width, bval (rbits s a f.width.toNat), ByteArray.empty⟩, by simp [rRead, k0, rUnsigned, rNum, hb], fun _ => ?_, fun hk => by omega, fun hk => by omega⟩
    show ((bval (rbits s a f.width.toNat) : Nat) : Int) = f.n
    rw [hr, bval_ibits, Int.emod_eq_of_lt hn.1 hn.2]
  by_cases k1 : f.kind = 1
  · have e : wWrite f ⟨bs, 0⟩ = wSigned f.width f.n ⟨bs, 0⟩ := by simp [wWrite, k1]
    rw [e] at h ⊢
    unfold wSigned at h ⊢
    obtain ⟨g1, g2, g3⟩ := wField_ok (fun he => by have := sErr_zero he; rw [ibits_len]; omega) h
    have hw := sErr_zero g1
    have hn := sErr_inv g1
    refine ⟨_, g3, g2, fun hk => absurd ⟨by omega, by omega⟩ hk, fun s a hr ha _ _ => ?_⟩
    rw [ibits_len] at hr ha ⊢
    have hb := hbeg s a (between 2 63 f.width) f.width (by simp [between]; omega) (by omega)
    refine ⟨⟨1, f.width, sval f.width.toNat (bval (rbits s a f.width.toNat)), ByteArray.empty⟩, by simp [rRead, k1, rSigned, hb], fun _ => ?_, fun hk => by omega, fun hk => by omega⟩
    show sval f.width.toNat (bval (rbits s a f.width.toNat)) = f.n
    rw [hr]
    exact sval_emod f.width.toNat f.n (by omega) hn.1 hn.2 _ (bval_ibits _ _)
  by_cases k2 : f.kind = 2
  · have e : wWrite f ⟨bs, 0⟩ = wFlag (f.n != 0) ⟨bs, 0⟩ := by simp [wWrite, k2]
    rw [e] at h ⊢
    unfold wFlag at h ⊢
    obtain ⟨g1, g2, g3⟩ := wField_ok (size := 1) (new := [f.n != 0]) (fun _ => rfl) h
    refine ⟨_, g3, g2, fun hk => absurd ⟨by omega, by omega⟩ hk, fun s a hr ha _ _ => ?_⟩
    simp only [List.length_cons, List.length_nil, Nat.zero_add] at hr ha ⊢
    rw [rbits_one] at hr
    have hb := hbeg s a true 1 rfl (by omega)
    have hsb : sbit s a = (f.n != 0) := by simpa using hr
    refine ⟨⟨2, 0, if sbit s a then 1 else 0, ByteArray.empty⟩, by simp [rRead, k2, rFlag, hb], fun hk => by omega, fun _ => ?_, fun hk => by omega⟩
    show ((if sbit s a then (1 : Int) else 0) == 1) = (f.n != 0)
    rw [← hsb]
    cases sbit s a <;> rfl
  by_cases k3 : f.kind = 3
  · have e : wWrite f ⟨bs, 0⟩ = wText f.width f.s ⟨bs, 0⟩ := by simp [wWrite, k3]
    rw [e] at h ⊢
    unfold wText at h ⊢
    obtain ⟨g1, g2, g3⟩ := wField_ok (fun he => by rw [List.length_append, ibits_len, sbits_len f.s f.s.size (Nat.le_refl _)]; push_cast; rfl) h
    obtain ⟨w1, w2, w3⟩ := tErr_zero g1
    have hspec := width_spec f.width (by omega) (by omega)
    refine ⟨_, g3, g2, fun hk => absurd ⟨by omega, by omega⟩ hk, fun s a hr ha _ _ => ?_⟩
    rw [List.length_append, ibits_len, sbits_len f.s f.s.size (Nat.le_refl _)] at hr ha ⊢
    rw [rbits_add] at hr
    obtain ⟨r1, r2⟩ := List.append_inj hr (by rw [rbits_len, ibits_len])
    have hn : bval (rbits s a (width f.width)) = f.s.size := by
      have := bval_ibits (width f.width) (f.s.size : Int)
      rw [← r1, Int.emod_eq_of_lt (by omega) (by omega)] at this
      omega
    have hb := hbeg s a (between 1 4095 f.width) (width f.width) (by simp [between]; omega) (by omega)
    have hb2 := hbeg s (a + width f.width) true (8 * (f.s.size : Int)) rfl (by omega)
    have hT : strOf (tbytes s (a + width f.width) f.s.size) = f.s := by
      have hl := tbytes_bits s (a + width f.width) f.s.size
      rw [r2] at hl
      have hk : ∀ k, k ≤ f.s.size → ∀ j, j < k → (tbytes s (a + width f.width) f.s.size)[j]? = (f.s.data.toList.map UInt8.toNat)[j]? := by
        intro k
        induction k with
        | zero => intro _ j hj; omega
        | succ k ih =>
          intro hk' j hj
          by_cases hjk : j < k
          · exact ih (by omega) j hjk
          · have ej : j = k := by omega
            subst ej
            have hj2 : j < f.s.size := by omega
            have hd : (rbits s (a + width f.width + 8 * j) 8) = ibits 8 (f.s[j].toNat : Int) := by
              have e1 : rbits s (a + width f.width) (8 * f.s.size) = rbits s (a + width f.width) (8 * j) ++ (rbits s (a + width f.width + 8 * j) 8 ++ rbits s (a + width f.width + 8 * j + 8) (8 * (f.s.size - j - 1))) := by
                rw [← rbits_add, ← rbits_add]; congr 1; omega
              have e2 : sbits f.s f.s.size = sbits f.s j ++ (ibits 8 (f.s[j].toNat : Int) ++ (sbits f.s f.s.size).drop (8 * (j + 1))) := by
                have e3 := List.take_append_drop (8 * (j + 1)) (sbits f.s f.s.size)
                have e4 : (sbits f.s f.s.size).take (8 * (j + 1)) = sbits f.s (j + 1) := by
                  unfold sbits
                  have e5 : f.s.data.toList.take f.s.size = f.s.data.toList.take (j + 1) ++ (f.s.data.toList.take f.s.size).drop (j + 1) := by
                    conv => lhs; rw [← List.take_append_drop (j + 1) (f.s.data.toList.take f.s.size)]
                    rw [List.take_take, Nat.min_eq_left (by omega)]
                  rw [e5, List.flatMap_append]
                  have hlen : ((f.s.data.toList.take (j + 1)).flatMap fun c => ibits 8 (c.toNat : Int)).length = 8 * (j + 1) := sbits_len f.s (j + 1) (by omega)
                  rw [List.take_append_of_le_length (by omega), List.take_of_length_le (by omega)]
                rw [e4, sbits_succ f.s j hj2] at e3
                rw [← List.append_assoc]; exact e3.symm
              have e6 : rbits s (a + width f.width) (8 * j) ++ (rbits s (a + width f.width + 8 * j) 8 ++ rbits s (a + width f.width + 8 * j + 8) (8 * (f.s.size - j - 1))) = sbits f.s j ++ (ibits 8 (f.s[j].toNat : Int) ++ (sbits f.s f.s.size).drop (8 * (j + 1))) := by
                rw [← e1, ← e2, r2]
              obtain ⟨_, e7⟩ := List.append_inj e6 (by rw [rbits_len, sbits_len f.s j (by omega)])
              exact (List.append_inj e7 (by rw [rbits_len, ibits_len])).1
            have hv := bval_ibits 8 (f.s[j].toNat : Int)
            have hlt := f.s[j].toNat_lt
            rw [← hd, Int.emod_eq_of_lt (by omega) (by omega)] at hv
            simp only [tbytes, List.getElem?_map, List.getElem?_range hj2, Option.map_some]
            rw [List.getElem?_eq_getElem (by simpa using hj2), Option.map_some]
            congr 1
            have : f.s.data.toList[j]'(by simpa using hj2) = f.s[j] := rfl
            rw [this]
            omega
      have hall : tbytes s (a + width f.width) f.s.size = f.s.data.toList.map UInt8.toNat := by
        refine List.ext_getElem? fun j => ?_
        by_cases hj : j < f.s.size
        · exact hk f.s.size (Nat.le_refl _) j hj
        · rw [List.getElem?_eq_none (by rw [tbytes_len]; omega), List.getElem?_eq_none (by simp; omega)]
      rw [hall]
      unfold strOf
      rw [List.map_map]
      have e : (f.s.data.toList.map (UInt8.ofNat ∘ UInt8.toNat)) = f.s.data.toList := by
        conv => rhs; rw [← List.map_id f.s.data.toList]
        refine List.map_congr_left fun x _ => ?_
        simp
      rw [e]
    have hgt : ¬ f.width < (f.s.size : Int) := by omega
    refine ⟨⟨3, f.width, 0, f.s⟩, ?_, fun hk => by omega, fun hk => by omega, fun _ => rfl⟩
    simp [rRead, k3, rText, hb, hn, hgt, hb2, hT, Nat.add_assoc]
  · have e : wWrite f ⟨bs, 0⟩ = ⟨bs, 0⟩ := by simp [wWrite, k0, k1, k2, k3]
    rw [e]
    exact ⟨[], by simp, by simpa using hle, fun _ => rfl, fun _ _ _ _ h0 h3 => by omega⟩

theorem bIter_le (fs : Nat → Fld) : ∀ k, (bIter fs k).bs.length ≤ 524288
  | 0 => by simp [bIter]
  | k + 1 => by
    have ih := bIter_le fs k
    show (wWrite (fs k) (bIter fs k)).bs.length ≤ 524288
    generalize bIter fs k = st at ih ⊢
    obtain ⟨bs, e⟩ := st
    by_cases he : e = 0
    · subst he
      have hf : ∀ (err size : Int) (new : List Bool), (err = 0 → size = new.length) → (wField err size new ⟨bs, 0⟩).bs.length ≤ 524288 := by
        intro err size new hsz
        unfold wField
        rw [if_neg (by simp)]
        split
        · exact ih
        · rename_i h0
          have := hsz (by simpa using h0)
          split
          · exact ih
          · rename_i h1; simp only at h1; simp only [List.length_append]; omega
      unfold wWrite
      split
      · exact hf _ _ _ (fun h => by have := uErr_zero h; rw [ibits_len]; omega)
      · split
        · exact hf _ _ _ (fun h => by have := sErr_zero h; rw [ibits_len]; omega)
        · split
          · exact hf _ _ _ (fun _ => rfl)
          · split
            · exact hf _ _ _ (fun h => by rw [List.length_append, ibits_len, sbits_len _ _ (Nat.le_refl _)]; push_cast; rfl)
            · exact ih
    · rw [wWrite_dead _ _ he]; exact ih

theorem bIter_alive (fs : Nat → Fld) (m : Nat) (h : (bIter fs m).e = 0) : ∀ d k, k + d = m → (bIter fs k).e = 0 ∧ ∃ rest, (bIter fs m).bs = (bIter fs k).bs ++ rest := by
  intro d
  induction d with
  | zero => intro k hk; obtain rfl : k = m := by omega
            exact ⟨h, [], by simp⟩
  | succ d ih =>
    intro k hk
    obtain ⟨e1, rest, hr⟩ := ih (k + 1) (by omega)
    have e1' : (wWrite (fs k) (bIter fs k)).e = 0 := e1
    have e0 : (bIter fs k).e = 0 := by
      rcases Classical.em ((bIter fs k).e = 0) with h0 | h0
      · exact h0
      · rw [wWrite_dead _ _ h0] at e1'; exact e1'
    refine ⟨e0, ?_⟩
    have hle := bIter_le fs k
    have hb : bIter fs k = ⟨(bIter fs k).bs, 0⟩ := by rw [← e0]
    rw [hb] at e1'
    obtain ⟨new, hn, _⟩ := write_step (fs k) _ hle e1'
    have h2 : (bIter fs (k + 1)).bs = (bIter fs k).bs ++ new := by
      show (wWrite (fs k) (bIter fs k)).bs = _
      rw [hb, hn]
    exact ⟨new ++ rest, by rw [hr, h2, List.append_assoc]⟩

/-- The reader's way through what was written. -/
theorem back_step (fs : Nat → Fld) (m k : Nat) (hk : k < m) (h : (bIter fs m).e = 0) (s : ByteArray) (hs : s = wBytes (bIter fs m)) :
    (¬ (0 ≤ (fs k).kind ∧ (fs k).kind ≤ 3) → (bIter fs (k + 1)).bs.length = (bIter fs k).bs.length) ∧
    (0 ≤ (fs k).kind → (fs k).kind ≤ 3 → ∃ x, rRead (fs k) ⟨s, (bIter fs k).bs.length, 0⟩ = (x, ⟨s, (bIter fs (k + 1)).bs.length, 0⟩) ∧ Match (fs k) x) := by
  obtain ⟨e0, _⟩ := bIter_alive fs m h (m - k) k (by omega)
  obtain ⟨e1, rest, hr⟩ := bIter_alive fs m h (m - (k + 1)) (k + 1) (by omega)
  have hle := bIter_le fs k
  have hb : bIter fs k = ⟨(bIter fs k).bs, 0⟩ := by rw [← e0]
  have e1' : (wWrite (fs k) ⟨(bIter fs k).bs, 0⟩).e = 0 := by rw [← hb]; exact e1
  obtain ⟨new, hn, _, hno, hread⟩ := write_step (fs k) _ hle e1'
  have h2 : (bIter fs (k + 1)).bs = (bIter fs k).bs ++ new := by
    show (wWrite (fs k) (bIter fs k)).bs = _
    rw [hb, hn]
  have hst : bIter fs m = ⟨(bIter fs m).bs, 0⟩ := by rw [← h]
  have hp := packs_packB (bIter fs m).bs
  have hs2 : s = strOf (packB (bIter fs m).bs) := by rw [hs, hst]; simp [wBytes]
  have hsz : s.size = ((bIter fs m).bs.length + 7) / 8 := by rw [hs2, strOf_size, hp.len]
  have hlen : (bIter fs m).bs.length = (bIter fs k).bs.length + new.length + rest.length := by rw [hr, h2, List.length_append, List.length_append]
  refine ⟨fun hkd => by rw [h2, hno hkd]; simp, fun k0 k3 => ?_⟩
  have hrb : rbits s (bIter fs k).bs.length new.length = new := by
    rw [hs2, rbits_str hp _ _ (by omega), hr, h2, List.append_assoc, List.drop_left, List.take_left]
  obtain ⟨x, hx, hm⟩ := hread s (bIter fs k).bs.length hrb (by omega) k0 k3
  exact ⟨x, by rw [hx, h2, List.length_append], hm⟩

theorem back_close (bs : List Bool) (h : bs.length ≤ 524288) : rClose ⟨wBytes ⟨bs, 0⟩, bs.length, 0⟩ = 0 := by
  have hp := packs_packB bs
  have hs2 : wBytes ⟨bs, 0⟩ = strOf (packB bs) := by simp [wBytes]
  have hsz : (strOf (packB bs)).size = (bs.length + 7) / 8 := by rw [strOf_size, hp.len]
  rw [hs2]
  unfold rClose
  rw [if_neg (by simp)]
  simp only
  rw [if_neg (by omega)]
  have hz : rbits (strOf (packB bs)) bs.length (8 * (strOf (packB bs)).size - bs.length) = List.replicate (8 * (strOf (packB bs)).size - bs.length) false := by
    refine List.ext_getElem? fun i => ?_
    by_cases hi : i < 8 * (strOf (packB bs)).size - bs.length
    · simp only [rbits, List.getElem?_map, List.getElem?_range hi, Option.map_some, List.getElem?_replicate, hi, if_true]
      rw [sbit_str hp, List.getD_eq_getElem?_getD, List.getElem?_eq_none (by omega)]
      rfl
    · rw [List.getElem?_eq_none (by rw [rbits_len]; omega), List.getElem?_eq_none (by rw [List.length_replicate]; omega)]
  rw [hz]
  have hv : ∀ k, bval (List.replicate k false) = 0 := by
    intro k
    induction k with
    | zero => rfl
    | succ k ih => rw [List.replicate_succ', bval_snoc, ih]; rfl
  rw [hv]
  simp

set_option maxHeartbeats 4000000 in
set_option maxRecDepth 100000 in
theorem back_law (ao : Option Addr) (len cap : Nat) (fs : Nat → Fld) (w : World) (hl : len ≤ 9223372036854775807) (h : FieldsIn w.heap.size w ao len fs) :
    Calls Try.prog 5 #[.slice ao len cap] w fun e w' => e = .returned (.bool true) ∧ Below w.heap.size w w' := by
  go_enter Try.func5, Try.ntmps5
  go_wp2_with fail
  refine (awake_any w).mono ?_
  rintro e w1 ⟨rfl, b1⟩
  have B1 := Lib.hid b1
  clear b1
  go_wp2_with fail
  refine (few_any w.heap.size ao len cap fs w1 hl B1.out.size (h.below B1.out)).mono ?_
  rintro e w2 ⟨rfl, b2⟩
  have B2 := Lib.hid (B1.out.trans (b2.mono B1.out.size))
  clear b2
  cases hfew : fewB fs len
  · go_wp2_with fail
    go_ret
    exact ⟨rfl, B2.out⟩
  · have HFW := Lib.hid hfew
    clear hfew
    go_wp2_with fail
    refine (newWriter_any w2).mono ?_
    rintro e w4 ⟨rfl, hw4⟩
    have h4 := newWriter_st w.heap.size w2 B2.out.size
    rw [← hw4] at h4
    have B4 := Lib.hid (show Below w.heap.size w w4 by rw [hw4]; exact B2.out.alloc B2.out.size _)
    have H4 := Lib.hid h4
    clear h4 hw4
    go_wp2_with fail
    go_loopw [22] (fun i wr => ∃ (k : Nat) (v : Value), k ≤ len ∧ i = .int .i64 k ∧ WrS w.heap.size wr w2.heap.size v (bIter fs k) ∧ Below w.heap.size w wr) (fun i _ => len - (intOf i).toNat)
    case atStart => exact ⟨0, _, Nat.zero_le _, rfl, H4.out, B4.out⟩
    case round =>
      obtain ⟨k, v, hk, rfl, hw, hb⟩ := hrel
      have HWR := Lib.hid hw
      have HB := Lib.hid hb
      clear hw hb
      by_cases hlt : k < len
      · obtain ⟨ok, b, off, rfl, hblt, c0, c1, c2, c3⟩ := (h.below HB.out) k hlt
        have HWT := Lib.hid (show bIter fs (k + 1) = wWrite (fs k) (bIter fs k) from rfl)
        have HXS := Lib.hid (few_size fs len k HFW.out hlt)
        have HOK := Lib.hid ok
        clear h ok
        generalize bIter fs k = ws at *
        generalize hfk : fs k = f at *
        clear hfk
        go_wp2_with fail
        refine (write_any _ _ _ ws f _ HOK.out (by have := HXS.out; omega) (HWR.out.alloc _)).mono ?_
        rintro e w6 ⟨rfl, v6, h6, a6⟩
        have B6 := Lib.hid ((HB.out.alloc HB.out.size _).trans (a6.below (HWR.out.alloc _)))
        have W6 := Lib.hid h6
        clear h6 a6
        go_wp2_with fail
        go_roundw
        case rel => exact ⟨k + 1, v6, by omega, by go_num, by rw [HWT.out]; exact W6.out, B6.out⟩
        case measure => simp [intOf]; omega
      · have ek : k = len := by omega
        subst ek
        go_wp2_with fail
        refine (bytes_any _ _ _ _ _ HWR.out).mono ?_
        rintro e w6 ⟨rfl, k6, hw6⟩
        have B6 := Lib.hid (show Below w.heap.size w w6 by subst hw6; exact ⟨HB.out.os, HB.out.tape, HB.out.output, HB.out.size, HB.out.block⟩)
        have W6 := Lib.hid (show WrS w.heap.size w6 w2.heap.size v (bIter fs k) by subst hw6; exact ⟨HWR.out.blk, HWR.out.hB, HWR.out.own, HWR.out.ne, HWR.out.nil, HWR.out.le⟩)
        clear hw6
        by_cases he : (bIter fs k).e = 0
        · have hst : bIter fs k = ⟨(bIter fs k).bs, 0⟩ := by rw [← he]
          have hble := bIter_le fs k
          have hsz : ((wBytes (bIter fs k)).size : Int) = ((bIter fs k).bs.length + 7) / 8 := by
            rw [hst]
            have := (packs_packB (bIter fs k).bs).len
            simp only [wBytes, ne_eq, not_true, if_false, strOf_size, this]
            omega
          have hszb : (((wBytes (bIter fs k)).size : Int) != ((bIter fs k).bs.length + 7) / 8) = false := by rw [hsz]; simp
          have hcl := back_close (bIter fs k).bs hble
          rw [← hst] at hcl
          have HCL := Lib.hid hcl
          have HSZ := Lib.hid hsz
          have hstep := fun j hj => back_step fs k j hj he (wBytes (bIter fs k)) rfl
          have HSTEP := Lib.hid hstep
          have HE := Lib.hid he
          have HBL := Lib.hid hble
          have hs16 : (wBytes (bIter fs k)).size ≤ 65536 := by omega
          have HS16 := Lib.hid hs16
          rw [he]
          have hlenI : ((bIter fs k).bs.length : Int) ≤ 524288 := by omega
          have hs16I : ((wBytes (bIter fs k)).size : Int) ≤ 65536 := by omega
          generalize hsb : wBytes (bIter fs k) = s at *
          have HSB := Lib.hid hsb
          clear hcl hsz hstep he hble hs16 hsb hst
          go_wp2_with fail
          refine (bits_any _ _ _ _ _ W6.out).mono ?_
          rintro e w' ⟨rfl, hw⟩
          rw [hw]
          clear hw w'
          go_wp2_with fail
          refine (newReader_any s w6 (by have := HS16.out; omega)).mono ?_
          rintro e w7 ⟨rfl, h7, a7⟩
          have hnew : rNew s = ⟨s, 0, 0⟩ := by unfold rNew; rw [if_neg (by have := HS16.out; omega)]
          rw [hnew] at h7
          have B7 := Lib.hid (B6.out.trans (a7.belowNone B6.out.size))
          have W7 := Lib.hid (W6.out.kept a7 (fun h => h) (fun _ _ h => h))
          have hWR := lt_of_blk W6.out.blk
          have hne7 : Hid (v.ownBlock ≠ some w6.heap.size) := by
            refine Lib.hid fun hj => ?_
            obtain ⟨l, _, ho⟩ := W6.out.own HE.out
            have := (ho.lt _ hj).2
            omega
          have HR : Hid (w.heap.size ≤ w6.heap.size) := Lib.hid B6.out.size
          have R7 := Lib.hid h7
          clear h7 a7 hnew
          go_wp2_with fail
          go_loopw [52] (fun i wr => ∃ (j : Nat), j ≤ k ∧ i = .int .i64 j ∧ RdS wr w6.heap.size ⟨s, (bIter fs j).bs.length, 0⟩ ∧ WrS w.heap.size wr w2.heap.size v (bIter fs k) ∧ Below w.heap.size w wr) (fun i _ => k - (intOf i).toNat)
          case atStart => exact ⟨0, Nat.zero_le _, rfl, R7.out, W7.out, B7.out⟩
          case round =>
            obtain ⟨j, hj, rfl, hr8, hw8, hb8⟩ := hrel
            have R8 := Lib.hid hr8
            have W8 := Lib.hid hw8
            have B8 := Lib.hid hb8
            clear hr8 hw8 hb8
            by_cases hjk : j < k
            · obtain ⟨ok, b, off, rfl, hblt, c0, c1, c2, c3⟩ := (h.below B8.out) j hjk
              obtain ⟨hskip, hread⟩ := HSTEP.out j hjk
              have HOK := Lib.hid ok
              have HSK := Lib.hid hskip
              have HRE := Lib.hid hread
              clear h ok hskip hread
              generalize hfk : fs j = f at *
              clear hfk
              by_cases hk0 : f.kind < 0
              · have HL := Lib.hid (HSK.out (by omega))
                go_wp2_with fail
                go_roundw
                case rel => exact ⟨j + 1, by omega, by go_num, by rw [HL.out]; exact R8.out.alloc _, W8.out.alloc _, B8.out.alloc B8.out.size _⟩
                case measure => simp [intOf]; omega
              · by_cases hk3 : 3 < f.kind
                · have HL := Lib.hid (HSK.out (by omega))
                  go_wp2_with fail
                  go_roundw
                  case rel => exact ⟨j + 1, by omega, by go_num, by rw [HL.out]; exact R8.out.alloc _, W8.out.alloc _, B8.out.alloc B8.out.size _⟩
                  case measure => simp [intOf]; omega
                · obtain ⟨x, hx, hm⟩ := HRE.out (by omega) (by omega)
                  have HX := Lib.hid hx
                  have HM := Lib.hid hm
                  have hB0 := lt_of_blk R8.out.blk
                  clear hx hm
                  go_wp2_with fail
                  refine (read_any _ _ f _ HOK.out (R8.out.alloc _)).mono ?_
                  rw [HX.out]
                  rintro e w9 ⟨rfl, h9, a9⟩
                  have hbx : w9.heap[wr.heap.size]? = some (.cells #[.int .i64 f.kind, .int .i64 f.width, .int .i64 f.n, .string f.s] 30 (0, 0)) := a9.blk (heap_alloc_new wr _) (by simp only [only]; omega)
                  obtain ⟨d0, d1, d2, d3, _, _, _, _⟩ := four_cells hbx
                  have h9w : WrS w.heap.size w9 w2.heap.size v (bIter fs k) := (W8.out.alloc _).kept a9 (by simp only [only]; omega) (fun i hi hs => hne7.out (by rw [hi]; congr 1))
                  have R9 := Lib.hid (h9.alloc (.cells #[.int .i64 x.kind, .int .i64 x.width, .int .i64 x.n, .string x.s] 30))
                  have W9 := Lib.hid (h9w.alloc (.cells #[.int .i64 x.kind, .int .i64 x.width, .int .i64 x.n, .string x.s] 30))
                  have b9 := (B8.out.alloc B8.out.size (.cells #[.int .i64 f.kind, .int .i64 f.width, .int .i64 f.n, .string f.s] 30)).trans (a9.belowOnly (by have := B8.out.size; simp; omega) HR.out)
                  have B9 := Lib.hid (b9.alloc b9.size (.cells #[.int .i64 x.kind, .int .i64 x.width, .int .i64 x.n, .string x.s] 30))
                  have hsz9 : wr.heap.size < w9.heap.size := lt_of_blk hbx
                  clear h9 a9 hbx h9w b9
                  simp only [Fld.val]
                  go_wp2_with fail
                  refine (err_any _ _ _ R9.out).mono ?_
                  rintro e w' ⟨rfl, hw⟩
                  rw [hw]
                  clear hw w'
                  simp only
                  by_cases hk1 : f.kind ≤ 1
                  · have hxn : x.n = f.n := HM.out.1 hk1
                    have r9 := R9.out
                    have w9' := W9.out
                    have b9 := B9.out
                    rw [hxn] at r9 w9' b9
                    have R9 := Lib.hid r9
                    have W9 := Lib.hid w9'
                    have B9 := Lib.hid b9
                    clear r9 w9' b9
                    have g2 : (f.kind == 2) = false := by rw [beq_eq_false_iff_ne]; omega
                    have g3 : (f.kind == 3) = false := by rw [beq_eq_false_iff_ne]; omega
                    go_wp2_with fail
                    go_roundw
                    case rel => exact ⟨j + 1, by omega, by go_num, R9.out, W9.out, B9.out⟩
                    case measure => simp [intOf]; omega
                  · by_cases hk2 : f.kind = 2
                    · have hxn : (x.n == 1) = (f.n != 0) := HM.out.2.1 hk2
                      have g2 : (f.kind == 2) = true := by rw [hk2]; rfl
                      have g3 : (f.kind == 3) = false := by rw [hk2]; rfl
                      clear hk2
                      go_wp2_with fail
                      go_roundw
                      case rel => exact ⟨j + 1, by omega, by go_num, R9.out, W9.out, B9.out⟩
                      case measure => simp [intOf]; omega
                    · have hk3' : f.kind = 3 := by omega
                      have hxn : x.s = f.s := HM.out.2.2 hk3'
                      have r9 := R9.out
                      have w9' := W9.out
                      have b9 := B9.out
                      rw [hxn] at r9 w9' b9
                      have R9 := Lib.hid r9
                      have W9 := Lib.hid w9'
                      have B9 := Lib.hid b9
                      clear r9 w9' b9
                      have g2 : (f.kind == 2) = false := by rw [hk3']; rfl
                      have g3 : (f.kind == 3) = true := by rw [hk3']; rfl
                      clear hk3' hk2
                      go_wp2_with fail
                      go_roundw
                      case rel => exact ⟨j + 1, by omega, by go_num, R9.out, W9.out, B9.out⟩
                      case measure => simp [intOf]; omega
            · have ek : j = k := by omega
              subst ek
              go_wp2_with fail
              refine (left_any _ _ _ R8.out).mono ?_
              rintro e w9 ⟨rfl, hw9⟩
              have R9 := Lib.hid (show RdS w9 w6.heap.size ⟨s, (bIter fs j).bs.length, 0⟩ by rw [hw9]; exact R8.out.drew)
              have W9 := Lib.hid (show WrS w.heap.size w9 w2.heap.size v (bIter fs j) by rw [hw9]; exact W8.out.drew)
              have B9 := Lib.hid (show Below w.heap.size w w9 by rw [hw9]; exact B8.out.drew)
              clear hw9
              simp only
              go_wp2_with fail
              refine (bits_any _ _ _ _ _ W9.out).mono ?_
              rintro e w' ⟨rfl, hw⟩
              rw [hw]
              clear hw w'
              go_wp2_with fail
              refine (rClose_any _ _ _ R9.out).mono ?_
              rw [HCL.out]
              rintro e w10 ⟨rfl, a10⟩
              have B10 := Lib.hid (B9.out.trans (a10.belowNone B9.out.size))
              clear a10
              go_wp2_with fail
              go_ret
              exact ⟨rfl, B10.out⟩
        · have heb : ((bIter fs k).e != 0) = true := by simpa using he
          have hb0 : wBytes (bIter fs k) = ByteArray.empty := by simp [wBytes, he]
          rw [hb0]
          clear he hb0 h
          generalize (bIter fs k).e = q at *
          go_wp2_with fail
          go_ret
          exact ⟨rfl, B6.out⟩
end Go.Proofs.Ytgbhmcepokpcaaa
