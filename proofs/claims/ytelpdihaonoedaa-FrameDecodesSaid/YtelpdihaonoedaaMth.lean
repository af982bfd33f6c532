/- The mathematics of reading what was written. -/
import Derived.Test.YtelpdihaonoedaaRead3
import Derived.Lib.ItoaNum
namespace Go.Proofs.Ytelpdihaonoedaa
open Go.RowKit
set_option linter.unusedVariables false
theorem ibits_snoc (k : Nat) (n : Int) : ibits (k + 1) n = ibits k (n / 2) ++ [decide (n % 2 = 1)] := by
  simp only [ibits, List.range_succ, List.map_append, List.map_cons, List.map_nil]
  congr 1
  · refine List.map_congr_left fun i hi => ?_
    have hi' : i < k := List.mem_range.1 hi
    have e : k + 1 - 1 - i = (k - 1 - i) + 1 := by omega
    rw [e, Int.pow_succ, Int.mul_comm, ← Int.ediv_ediv_of_nonneg (by decide)]
  · simp

theorem emod_step (n : Int) (k : Nat) : 2 * (n / 2 % 2 ^ k) + n % 2 = n % 2 ^ (k + 1) := by
  have hp : (0 : Int) < 2 ^ k := Int.pow_pos (by decide)
  have h1 := Int.emod_add_mul_ediv (n / 2) (2 ^ k)
  have h2 := Int.emod_nonneg (n / 2) (Int.ne_of_gt hp)
  have h3 := Int.emod_lt_of_pos (n / 2) hp
  have e : (2 : Int) ^ (k + 1) = 2 * 2 ^ k := by rw [Int.pow_succ, Int.mul_comm]
  generalize n / 2 % 2 ^ k = r at *
  generalize n / 2 / 2 ^ k = q at *
  rw [e]
  have h5 : n = (2 * r + n % 2) + (2 * 2 ^ k) * q := by
    have : 2 * (2 ^ k * q) = 2 * 2 ^ k * q := by rw [Int.mul_assoc]
    omega
  generalize (2 : Int) ^ k = P at *
  have h4 : (n % 2 = 0 ∨ n % 2 = 1) := by omega
  have h6 : ((2 * r + n % 2) + (2 * P) * q) % (2 * P) = (2 * r + n % 2) % (2 * P) := Int.add_mul_emod_self_left _ _ _
  have h7 : (2 * r + n % 2) % (2 * P) = 2 * r + n % 2 := Int.emod_eq_of_lt (by omega) (by omega)
  rw [h5] 
  rw [← h5, ← h7, ← h6, ← h5]

theorem bval_ibits (k : Nat) : ∀ n : Int, (bval (ibits k n) : Int) = n % 2 ^ k := by
  induction k with
  | zero => intro n; simp [ibits, bval]
  | succ k ih =>
    intro n
    rw [ibits_snoc, bval_snoc, ← emod_step]
    have := ih (n / 2)
    push_cast
    rw [this]
    have h4 : (n % 2 = 0 ∨ n % 2 = 1) := by omega
    rcases h4 with h | h <;> simp [h]

theorem ibits_congr (k : Nat) (n m : Int) (h : n % 2 ^ k = m % 2 ^ k) : ibits k n = ibits k m := by
  induction k generalizing n m with
  | zero => simp [ibits]
  | succ k ih =>
    rw [← emod_step, ← emod_step] at h
    have hp : (0 : Int) < 2 ^ k := Int.pow_pos (by decide)
    have a1 : (n % 2 = 0 ∨ n % 2 = 1) := by omega
    have a2 : (m % 2 = 0 ∨ m % 2 = 1) := by omega
    have h1 : n % 2 = m % 2 := by omega
    have h2 : n / 2 % 2 ^ k = m / 2 % 2 ^ k := by omega
    rw [ibits_snoc, ibits_snoc, ih _ _ h2, h1]

theorem sbit_str {l : List Nat} {bs : List Bool} (h : Packs l bs) (i : Nat) : sbit (strOf l) i = bs.getD i false := by
  rw [← h.bit i]
  unfold sbit strOf
  have hb := h.byte (i / 8)
  simp only [List.getD_eq_getElem?_getD, List.getElem?_map]
  rw [List.getD_eq_getElem?_getD] at hb
  cases hl : l[i / 8]? with
  | none => simp
  | some x =>
    rw [hl] at hb
    simp only [Option.getD_some] at hb
    simp [Nat.mod_eq_of_lt hb]

theorem rbits_str {l : List Nat} {bs : List Bool} (h : Packs l bs) (a j : Nat) (hj : a + j ≤ bs.length) : rbits (strOf l) a j = (bs.drop a).take j := by
  refine List.ext_getElem? fun i => ?_
  unfold rbits
  by_cases hi : i < j
  · rw [List.getElem?_map, List.getElem?_range hi, Option.map_some, sbit_str h, List.getElem?_take, if_pos hi, List.getElem?_drop, List.getD_eq_getElem?_getD, List.getElem?_eq_getElem (by omega)]
    rfl
  · rw [List.getElem?_eq_none (by simp; omega), List.getElem?_eq_none (by simp; omega)]

theorem sval_emod (k : Nat) (n : Int) (hk : 1 ≤ k) (h1 : -(2 ^ (k - 1)) ≤ n) (h2 : n < 2 ^ (k - 1)) (q : Nat) (hq : (q : Int) = n % 2 ^ k) : sval k q = n := by
  obtain ⟨j, rfl⟩ : ∃ j, k = j + 1 := ⟨k - 1, by omega⟩
  have e : (2 : Int) ^ (j + 1) = 2 * 2 ^ j := by rw [Int.pow_succ, Int.mul_comm]
  have hp : (0 : Int) < 2 ^ j := Int.pow_pos (by decide)
  have ec : ((2 ^ j : Nat) : Int) = 2 ^ j := by push_cast; rfl
  simp only [Nat.add_sub_cancel] at h1 h2
  unfold sval
  simp only [Nat.add_sub_cancel]
  rw [e] at hq ⊢
  generalize (2 : Int) ^ j = P at *
  generalize (2 : Nat) ^ j = N at *
  by_cases hn : 0 ≤ n
  · rw [Int.emod_eq_of_lt hn (by omega)] at hq
    rw [if_pos (by omega)]
    omega
  · have : n % (2 * P) = n + 2 * P := by
      rw [← Int.add_emod_right, Int.emod_eq_of_lt (by omega) (by omega)]
    rw [this] at hq
    rw [if_neg (by omega)]
    omega

/-- A number that fits into a signed field. -/
theorem sErr_fits (k : Nat) (n : Int) (h1 : 2 ≤ k) (h2 : k ≤ 63) (hl : -(2 ^ (k - 1)) ≤ n) (hh : n < 2 ^ (k - 1)) : sErr k n = 0 := by
  unfold sErr
  rw [if_pos (by omega), Int.toNat_natCast]
  have hp : (0 : Int) < 2 ^ (k - 1) := Int.pow_pos (by decide)
  generalize (2 : Int) ^ (k - 1) = P at *
  rw [if_pos]
  by_cases hn : 0 ≤ n
  · exact .inl (Int.ediv_eq_zero_of_lt hn hh)
  · exact .inr ((Int.ediv_eq_iff_of_pos hp).2 (by omega))
theorem sErr_wide (k : Nat) (n : Int) (h1 : 2 ≤ k) (h2 : k ≤ 63) (h : n < -(2 ^ (k - 1)) ∨ 2 ^ (k - 1) ≤ n) : sErr k n = 2 := by
  unfold sErr
  rw [if_pos (by omega), Int.toNat_natCast]
  have hp : (0 : Int) < 2 ^ (k - 1) := Int.pow_pos (by decide)
  generalize (2 : Int) ^ (k - 1) = P at *
  rw [if_neg]
  rintro (e | e)
  · rw [Int.ediv_eq_iff_of_pos hp] at e; omega
  · rw [Int.ediv_eq_iff_of_pos hp] at e; omega
structure Fld where
  kind : Int
  width : Int
  n : Int
  s : ByteArray

/-- What fits into a field's memory. -/
structure Fld.Ok (f : Fld) : Prop where
  k1 : -9223372036854775808 ≤ f.kind
  k2 : f.kind ≤ 9223372036854775807
  w1 : -9223372036854775808 ≤ f.width
  w2 : f.width ≤ 9223372036854775807
  n1 : -9223372036854775808 ≤ f.n
  n2 : f.n ≤ 9223372036854775807
  s1 : f.s.size ≤ 9223372036854775807

def fewTo (fs : Nat → Fld) (k : Nat) : Bool := (List.range k).all fun i => decide ((fs i).s.size ≤ 200)
theorem fewTo_succ (fs : Nat → Fld) (k : Nat) : fewTo fs (k + 1) = (fewTo fs k && decide ((fs k).s.size ≤ 200)) := by simp [fewTo, List.range_succ]
def fewB (fs : Nat → Fld) (len : Nat) : Bool := decide (len ≤ 40) && fewTo fs len
theorem fewTo_mono (fs : Nat → Fld) {k m : Nat} (h : k ≤ m) (hk : fewTo fs k = false) : fewTo fs m = false := by
  cases hm : fewTo fs m with
  | false => rfl
  | true =>
    have : fewTo fs k = true := by
      simp only [fewTo, List.all_eq_true, List.mem_range, decide_eq_true_eq] at hm ⊢
      exact fun i hi => hm i (by omega)
    rw [hk] at this; cases this

def Fld.val (f : Fld) : Value := .agg #[.int .i64 f.kind, .int .i64 f.width, .int .i64 f.n, .string f.s]

def wWrite (f : Fld) (st : WSt) : WSt :=
  if f.kind = 0 then wUnsigned f.width f.n st else if f.kind = 1 then wSigned f.width f.n st else if f.kind = 2 then wFlag (f.n != 0) st else if f.kind = 3 then wText f.width f.s st else st

def rRead (f : Fld) (st : RSt) : Fld × RSt :=
  if f.kind = 0 then (⟨f.kind, f.width, (rUnsigned f.width st).1, ByteArray.empty⟩, (rUnsigned f.width st).2)
  else if f.kind = 1 then (⟨f.kind, f.width, (rSigned f.width st).1, ByteArray.empty⟩, (rSigned f.width st).2)
  else if f.kind = 2 then (⟨f.kind, 0, if (rFlag st).1 then 1 else 0, ByteArray.empty⟩, (rFlag st).2)
  else if f.kind = 3 then (⟨f.kind, f.width, 0, (rText f.width st).1⟩, (rText f.width st).2)
  else (f, st)

theorem width_spec (most : Int) (h0 : 0 ≤ most) (h1 : most ≤ 9223372036854775807) :
    1 ≤ width most ∧ width most ≤ 63 ∧ most < 2 ^ width most ∧ (width most = 1 → most ≤ 1) ∧ (width most ≠ 1 → (2 : Int) ^ (width most - 1) ≤ most) := by
  obtain ⟨n, rfl⟩ := Int.eq_ofNat_of_zero_le h0
  have h63 := width_le64 (n : Int) h1
  have hw : width (n : Int) = max 1 (Lib.bitLen n) := by unfold width; rw [if_neg (by omega), Int.toNat_natCast]
  by_cases hz : n = 0
  · subst hz
    rw [show width ((0 : Nat) : Int) = 1 from by decide]
    refine ⟨by omega, by omega, by decide, fun _ => by decide, fun h => absurd rfl h⟩
  · have hb := Lib.bitLenAux_bounds 64 n (by omega) hz
    have e : Lib.bitLenAux 64 n = Lib.bitLen n := rfl
    rw [e] at hb
    obtain ⟨b1, b2, b3⟩ := hb
    have hw2 : width (n : Int) = Lib.bitLen n := by omega
    rw [hw2] at h63 ⊢
    generalize Lib.bitLen n = q at *
    refine ⟨b1, h63, ?_, fun h => ?_, fun h => ?_⟩
    · exact_mod_cast b3
    · subst h; omega
    · exact_mod_cast b2

theorem uErr_fits (k : Nat) (n : Int) (h1 : 1 ≤ k) (h2 : k ≤ 63) (hn : 0 ≤ n) (h : n < 2 ^ k) : uErr k n = 0 := by
  unfold uErr
  rw [if_pos (by omega), Int.toNat_natCast, Int.ediv_eq_zero_of_lt hn h, if_pos rfl]
theorem uErr_wide (k : Nat) (n : Int) (h1 : 1 ≤ k) (h2 : k ≤ 63) (h : (2 : Int) ^ k ≤ n) : uErr k n = 2 := by
  unfold uErr
  rw [if_pos (by omega), Int.toNat_natCast, if_neg]
  have hp : (0 : Int) < 2 ^ k := Int.pow_pos (by decide)
  have : 1 ≤ n / 2 ^ k := by rw [Int.le_ediv_iff_mul_le hp]; omega
  omega

theorem wU_fits (k : Nat) (n : Int) (h1 : 1 ≤ k) (h2 : k ≤ 63) (hn : 0 ≤ n) (h : n < 2 ^ k) : wUnsigned k n ⟨[], 0⟩ = ⟨ibits k n, 0⟩ := by
  simp only [wUnsigned, wField, uErr_fits k n h1 h2 hn h]
  rw [if_neg (by decide), if_neg (by decide), if_neg (by simp; omega)]
  simp
theorem wU_wide (k : Nat) (n : Int) (h1 : 1 ≤ k) (h2 : k ≤ 63) (h : (2 : Int) ^ k ≤ n) : wUnsigned k n ⟨[], 0⟩ = ⟨[], 2⟩ := by
  simp only [wUnsigned, wField, uErr_wide k n h1 h2 h]
  rw [if_neg (by decide), if_pos (by decide)]

theorem wText_step (T : ByteArray) (bs : List Bool) (hT : T.size = 4000) (h : bs.length + 32012 ≤ 524288) : ∃ bs' : List Bool, wText 4000 T ⟨bs, 0⟩ = ⟨bs', 0⟩ ∧ bs'.length = bs.length + 32012 := by
  have hw : width 4000 = 12 := by decide
  have hl : (ibits 12 4000 ++ sbits T 4000).length = 32012 := by rw [List.length_append, ibits_len, sbits_len T 4000 (by omega)]
  refine ⟨bs ++ (ibits 12 4000 ++ sbits T 4000), ?_, by rw [List.length_append, hl]⟩
  have he : tErr 4000 4000 = 0 := by decide
  unfold wText wField
  rw [hw, hT, show ((4000 : Nat) : Int) = 4000 from rfl, he, if_neg (by simp), if_neg (by simp), if_neg (by simp only; omega)]
theorem uErr_one (k : Nat) (h1 : 1 ≤ k) (h2 : k ≤ 63) : uErr k 1 = 0 := by
  refine uErr_fits k 1 h1 h2 (by decide) ?_
  obtain ⟨j, rfl⟩ : ∃ j, k = j + 1 := ⟨k - 1, by omega⟩
  have hp : (0 : Int) < 2 ^ j := Int.pow_pos (by decide)
  rw [Int.pow_succ]; omega
theorem wU_step (k : Nat) (bs : List Bool) (h1 : 1 ≤ k) (h2 : k ≤ 63) (h : bs.length + k ≤ 524288) : ∃ bs' : List Bool, wUnsigned k 1 ⟨bs, 0⟩ = ⟨bs', 0⟩ ∧ bs'.length = bs.length + k := by
  refine ⟨bs ++ ibits k 1, ?_, by rw [List.length_append, ibits_len]⟩
  unfold wUnsigned wField
  rw [uErr_one k h1 h2, if_neg (by simp), if_neg (by simp), if_neg (by simp only; omega)]
  simp
theorem wU_over (k : Nat) (bs : List Bool) (h1 : 1 ≤ k) (h2 : k ≤ 63) (h : ¬ bs.length + k ≤ 524288) : wUnsigned k 1 ⟨bs, 0⟩ = ⟨bs, 8⟩ := by
  unfold wUnsigned wField
  rw [uErr_one k h1 h2, if_neg (by simp), if_neg (by simp), if_pos (by simp only; omega)]

def rIter (fs : Nat → Fld) (st : RSt) : Nat → RSt
  | 0 => st
  | k + 1 => (rRead (fs k) (rIter fs st k)).2

/-- Behind an error nothing is left. -/
def RInv (st : RSt) : Prop := st.e ≠ 0 → 8 * (st.s.size : Int) - st.at_ = 0

theorem rBegin_dead (valid : Bool) (size : Int) (st : RSt) (h : st.e ≠ 0) : rBegin valid size st = (false, st) := by simp [rBegin, h]
theorem rBegin_inv (valid : Bool) (size : Int) (st : RSt) (h : RInv st) : RInv (rBegin valid size st).2 := by
  unfold rBegin
  split
  · exact h
  · split
    · intro _; rfl
    · split
      · intro _; rfl
      · exact h
theorem rRead_dead (f : Fld) (st : RSt) (h : st.e ≠ 0) (k0 : 0 ≤ f.kind) (k3 : f.kind ≤ 3) : ∃ wd, rRead f st = (⟨f.kind, wd, 0, ByteArray.empty⟩, st) := by
  have hk : f.kind = 0 ∨ f.kind = 1 ∨ f.kind = 2 ∨ f.kind = 3 := by omega
  rcases hk with hk | hk | hk | hk
  · exact ⟨f.width, by simp [rRead, hk, rUnsigned, rNum, rBegin_dead _ _ st h]⟩
  · exact ⟨f.width, by simp [rRead, hk, rSigned, rBegin_dead _ _ st h]⟩
  · exact ⟨0, by simp [rRead, hk, rFlag, rBegin_dead _ _ st h]⟩
  · exact ⟨f.width, by simp [rRead, hk, rText, rBegin_dead _ _ st h]⟩
theorem rRead_other (f : Fld) (st : RSt) (h : ¬ (0 ≤ f.kind ∧ f.kind ≤ 3)) : rRead f st = (f, st) := by
  unfold rRead
  rw [if_neg (by omega), if_neg (by omega), if_neg (by omega), if_neg (by omega)]
theorem rRead_deadst (f : Fld) (st : RSt) (h : st.e ≠ 0) : (rRead f st).2 = st := by
  by_cases hk : 0 ≤ f.kind ∧ f.kind ≤ 3
  · obtain ⟨_, e⟩ := rRead_dead f st h hk.1 hk.2; rw [e]
  · rw [rRead_other f st hk]
theorem inv_alive {st : RSt} (h : st.e = 0) : RInv st := fun e => absurd h e
theorem rBegin_false {valid : Bool} {size : Int} {st : RSt} (he : st.e = 0) (h : (rBegin valid size st).1 = false) : (rBegin valid size st).2.e ≠ 0 ∧ RInv (rBegin valid size st).2 := by
  unfold rBegin at h ⊢
  rw [if_neg (by simp [he])] at h ⊢
  split
  · exact ⟨by simp, fun _ => rfl⟩
  · rename_i hv
    rw [if_neg hv] at h
    split
    · exact ⟨by simp, fun _ => rfl⟩
    · rename_i hs
      rw [if_neg hs] at h
      cases h
theorem rRead_inv (f : Fld) (st : RSt) (h : RInv st) : RInv (rRead f st).2 := by
  by_cases he : st.e = 0
  · unfold rRead
    split
    · show RInv (rUnsigned f.width st).2
      unfold rUnsigned rNum
      split
      · exact inv_alive he
      · rename_i hb; exact (rBegin_false he (by simpa using hb)).2
    · split
      · show RInv (rSigned f.width st).2
        unfold rSigned
        split
        · exact inv_alive he
        · rename_i hb; exact (rBegin_false he (by simpa using hb)).2
      · split
        · show RInv (rFlag st).2
          unfold rFlag
          split
          · exact inv_alive he
          · rename_i hb; exact (rBegin_false he (by simpa using hb)).2
        · split
          · show RInv (rText f.width st).2
            unfold rText
            split
            · rename_i hb; exact (rBegin_false he hb).2
            · split
              · intro _; rfl
              · split
                · rename_i hb; exact (rBegin_false (st := ⟨st.s, st.at_ + width f.width, st.e⟩) he hb).2
                · exact inv_alive he
          · exact h
  · rw [rRead_deadst f st he]; exact h
theorem rIter_inv (fs : Nat → Fld) (st : RSt) (h : RInv st) : ∀ k, RInv (rIter fs st k)
  | 0 => h
  | k + 1 => rRead_inv _ _ (rIter_inv fs st h k)

theorem wS_fits (k : Nat) (n : Int) (h1 : 2 ≤ k) (h2 : k ≤ 63) (hl : -(2 ^ (k - 1)) ≤ n) (hh : n < 2 ^ (k - 1)) : wSigned k n ⟨[], 0⟩ = ⟨ibits k n, 0⟩ := by
  simp only [wSigned, wField, sErr_fits k n h1 h2 hl hh]
  rw [if_neg (by decide), if_neg (by decide), if_neg (by simp; omega)]
  simp
theorem wS_wide (k : Nat) (n : Int) (h1 : 2 ≤ k) (h2 : k ≤ 63) (h : n < -(2 ^ (k - 1)) ∨ 2 ^ (k - 1) ≤ n) : wSigned k n ⟨[], 0⟩ = ⟨[], 2⟩ := by
  simp only [wSigned, wField, sErr_wide k n h1 h2 h]
  rw [if_neg (by decide), if_pos (by decide)]
theorem wBytes_err (bs : List Bool) (e : Int) (h : e ≠ 0) : wBytes ⟨bs, e⟩ = ByteArray.empty := by simp [wBytes, h]

theorem rS_back (k : Nat) (n : Int) (h1 : 2 ≤ k) (h2 : k ≤ 62) (hl : -(2 ^ (k - 1)) ≤ n) (hh : n < 2 ^ (k - 1)) : (rSigned k (rNew (wBytes ⟨ibits k n, 0⟩))).1 = n := by
  have hp := packs_packB (ibits k n)
  have hlen := hp.len
  rw [ibits_len] at hlen
  have hw : wBytes ⟨ibits k n, 0⟩ = strOf (packB (ibits k n)) := by simp [wBytes]
  have hs : (strOf (packB (ibits k n))).size ≤ 8 := by rw [strOf_size]; omega
  have hn : rNew (strOf (packB (ibits k n))) = ⟨strOf (packB (ibits k n)), 0, 0⟩ := by unfold rNew; rw [if_neg (by omega)]
  have hb : (rBegin (between 2 63 (k : Int)) k ⟨strOf (packB (ibits k n)), 0, 0⟩).1 = true := by
    have : between 2 63 (k : Int) = true := by simp [between]; omega
    unfold rBegin
    rw [if_neg (by simp), if_neg (by simp [this]), if_neg]
    simp only [strOf_size]
    omega
  rw [hw, hn]
  unfold rSigned
  rw [if_pos hb]
  simp only [Int.toNat_natCast]
  rw [rbits_str hp 0 k (by rw [ibits_len]; omega)]
  rw [List.drop_zero, List.take_of_length_le (by rw [ibits_len]; exact Nat.le_refl _)]
  exact sval_emod k n (by omega) hl hh _ (bval_ibits k n)

theorem ibits_bval_rev (l : List Bool) : ibits l.length (bval l.reverse : Int) = l.reverse := by
  induction l with
  | nil => simp [ibits, bval]
  | cons b l ih =>
    rw [List.reverse_cons, bval_snoc, List.length_cons, ibits_snoc]
    have h1 : ((2 * bval l.reverse + b.toNat : Nat) : Int) / 2 = (bval l.reverse : Int) := by cases b <;> simp <;> omega
    have h2 : decide (((2 * bval l.reverse + b.toNat : Nat) : Int) % 2 = 1) = b := by cases b <;> simp <;> omega
    rw [h1, h2, ih]
theorem ibits_bval (bs : List Bool) : ibits bs.length (bval bs : Int) = bs := by
  have := ibits_bval_rev bs.reverse
  rwa [List.reverse_reverse, List.length_reverse] at this
theorem ibits_bval' (bs : List Bool) (k : Nat) (h : bs.length = k) : ibits k (bval bs : Int) = bs := by subst h; exact ibits_bval bs
theorem rbits_add (s : ByteArray) (a j k : Nat) : rbits s a (j + k) = rbits s a j ++ rbits s (a + j) k := by
  simp only [rbits, List.range_add, List.map_append, List.map_map]
  congr 1
  refine List.map_congr_left fun i _ => ?_
  simp [Nat.add_assoc]
theorem rbits_one (s : ByteArray) (a : Nat) : rbits s a 1 = [sbit s a] := by simp [rbits]

theorem sbits_strOf (l : List Nat) (h : ∀ j, l.getD j 0 < 256) : sbits (strOf l) (strOf l).size = l.flatMap fun x : Nat => ibits 8 (x : Int) := by
  unfold sbits
  rw [strOf_size]
  have e : (strOf l).data.toList = l.map UInt8.ofNat := by simp [strOf]
  rw [e, List.take_of_length_le (by simp), List.flatMap_map]
  have : ∀ x ∈ l, ibits 8 ((UInt8.ofNat x).toNat : Int) = ibits 8 (x : Int) := by
    intro x hx
    obtain ⟨j, hj, rfl⟩ := List.getElem_of_mem hx
    have hb := h j
    rw [List.getD_eq_getElem?_getD, List.getElem?_eq_getElem hj, Option.getD_some] at hb
    rw [UInt8.toNat_ofNat', Nat.mod_eq_of_lt hb]
  clear e h
  induction l with
  | nil => rfl
  | cons x l ih =>
    rw [List.flatMap_cons, List.flatMap_cons, this x (by simp), ih (fun y hy => this y (by simp [hy]))]
theorem tbytes_bits (s : ByteArray) (a n : Nat) : ((tbytes s a n).flatMap fun x : Nat => ibits 8 (x : Int)) = rbits s a (8 * n) := by
  induction n with
  | zero => simp [tbytes, rbits]
  | succ n ih =>
    have e : tbytes s a (n + 1) = tbytes s a n ++ [bval (rbits s (a + 8 * n) 8)] := by simp [tbytes, List.range_succ]
    rw [e, List.flatMap_append, ih, Nat.mul_succ, rbits_add]
    simp [ibits_bval' _ 8 (rbits_len s (a + 8 * n) 8)]

theorem uErr_bval (bs : List Bool) (k : Nat) (hk : bs.length = k) (h1 : 1 ≤ k) (h2 : k ≤ 63) : uErr k (bval bs) = 0 := by
  refine uErr_fits k _ h1 h2 (by omega) ?_
  have := bval_lt' bs
  rw [hk] at this
  have e : (2 : Int) ^ k = ((2 ^ k : Nat) : Int) := by rw [Int.natCast_pow]; rfl
  rw [e]; omega
theorem sval_range (k n : Nat) (h1 : 2 ≤ k) (hn : n < 2 ^ k) : -(2 ^ (k - 1)) ≤ sval k n ∧ sval k n < 2 ^ (k - 1) ∧ sval k n % 2 ^ k = (n : Int) % 2 ^ k := by
  obtain ⟨j, rfl⟩ : ∃ j, k = j + 1 := ⟨k - 1, by omega⟩
  have e : (2 : Int) ^ (j + 1) = 2 * 2 ^ j := by rw [Int.pow_succ, Int.mul_comm]
  have e3 : 2 ^ (j + 1) = 2 * 2 ^ j := by rw [Nat.pow_succ]; omega
  have ec : ((2 ^ j : Nat) : Int) = 2 ^ j := by rw [Int.natCast_pow]; rfl
  rw [e3] at hn
  unfold sval
  simp only [Nat.add_sub_cancel]
  rw [e]
  generalize (2 : Int) ^ j = P at *
  generalize (2 : Nat) ^ j = N at *
  split
  · exact ⟨by omega, by omega, rfl⟩
  · refine ⟨by omega, by omega, ?_⟩
    rw [Int.sub_emod_right]

/-- What was read without an error is written as it stood. -/
theorem read_write (f : Fld) (s : ByteArray) (a : Nat) (bs : List Bool) (ha : a ≤ 8 * s.size) (hs : s.size ≤ 65536) (hbs : bs = rbits s 0 a)
    (hok : (rRead f ⟨s, a, 0⟩).2.e = 0) :
    ∃ a', (rRead f ⟨s, a, 0⟩).2 = ⟨s, a', 0⟩ ∧ a ≤ a' ∧ a' ≤ 8 * s.size ∧ wWrite (rRead f ⟨s, a, 0⟩).1 ⟨bs, 0⟩ = ⟨rbits s 0 a', 0⟩ := by
  have hlen : bs.length = a := by rw [hbs, rbits_len]
  have hfin : ∀ k, a + k ≤ 8 * s.size → rbits s 0 (a + k) = bs ++ rbits s a k := fun k _ => by rw [rbits_add, ← hbs, Nat.zero_add]
  have hfield : ∀ (k : Nat) (size : Int) (new : List Bool), size = k → new = rbits s a k → a + k ≤ 8 * s.size → wField 0 size new ⟨bs, 0⟩ = ⟨rbits s 0 (a + k), 0⟩ := by
    intro k size new h1 h2 h3
    unfold wField
    rw [if_neg (by simp), if_neg (by simp), if_neg (by simp only; omega), hfin k h3, h2]
  by_cases k0 : f.kind = 0
  · cases hb : (rBegin (between 1 63 f.width) f.width ⟨s, a, 0⟩).1
    · have := (rBegin_false (st := ⟨s, a, 0⟩) rfl hb).1
      simp [rRead, k0, rUnsigned, rNum, hb] at hok
      exact absurd hok this
    · obtain ⟨_, hv, hsz, _⟩ := rBegin_true hb
      have hw := between_iff hv
      obtain ⟨k, hk⟩ := Int.eq_ofNat_of_zero_le (show 0 ≤ f.width by omega)
      simp only at hsz
      have e : rRead f ⟨s, a, 0⟩ = (⟨0, f.width, (bval (rbits s a k) : Int), ByteArray.empty⟩, ⟨s, a + k, 0⟩) := by
        simp only [rRead, k0, if_true, rUnsigned, rNum, hk, Int.toNat_natCast]
        rw [hk] at hb
        simp [hb]
      rw [e]
      refine ⟨a + k, rfl, by omega, by omega, ?_⟩
      have e2 : wWrite ⟨0, f.width, (bval (rbits s a k) : Int), ByteArray.empty⟩ ⟨bs, 0⟩ = wUnsigned k (bval (rbits s a k)) ⟨bs, 0⟩ := by simp [wWrite, hk]
      rw [e2]
      unfold wUnsigned
      rw [uErr_bval _ k (rbits_len _ _ _) (by omega) (by omega), Int.toNat_natCast, ibits_bval' _ k (rbits_len _ _ _)]
      exact hfield k k _ rfl rfl (by omega)
  by_cases k1 : f.kind = 1
  · cases hb : (rBegin (between 2 63 f.width) f.width ⟨s, a, 0⟩).1
    · have := (rBegin_false (st := ⟨s, a, 0⟩) rfl hb).1
      simp [rRead, k1, rSigned, hb] at hok
      exact absurd hok this
    · obtain ⟨_, hv, hsz, _⟩ := rBegin_true hb
      have hw := between_iff hv
      obtain ⟨k, hk⟩ := Int.eq_ofNat_of_zero_le (show 0 ≤ f.width by omega)
      simp only at hsz
      have e : rRead f ⟨s, a, 0⟩ = (⟨1, f.width, sval k (bval (rbits s a k)), ByteArray.empty⟩, ⟨s, a + k, 0⟩) := by
        rw [hk] at hb
        simp [rRead, k1, rSigned, hk, hb]
      have hv2 := bval_lt' (rbits s a k)
      rw [rbits_len] at hv2
      obtain ⟨g1, g2, g3⟩ := sval_range k (bval (rbits s a k)) (by omega) hv2
      rw [e]
      refine ⟨a + k, rfl, by omega, by omega, ?_⟩
      have e2 : wWrite ⟨1, f.width, sval k (bval (rbits s a k)), ByteArray.empty⟩ ⟨bs, 0⟩ = wSigned k (sval k (bval (rbits s a k))) ⟨bs, 0⟩ := by simp [wWrite, hk]
      rw [e2]
      unfold wSigned
      rw [sErr_fits k _ (by omega) (by omega) g1 g2, Int.toNat_natCast, ibits_congr k _ _ g3, ibits_bval' _ k (rbits_len _ _ _)]
      exact hfield k k _ rfl rfl (by omega)
  by_cases k2 : f.kind = 2
  · cases hb : (rBegin true 1 ⟨s, a, 0⟩).1
    · have := (rBegin_false (st := ⟨s, a, 0⟩) rfl hb).1
      simp [rRead, k2, rFlag, hb] at hok
      exact absurd hok this
    · obtain ⟨_, _, hsz, _⟩ := rBegin_true hb
      simp only at hsz
      have e : rRead f ⟨s, a, 0⟩ = (⟨2, 0, if sbit s a then 1 else 0, ByteArray.empty⟩, ⟨s, a + 1, 0⟩) := by
        simp [rRead, k2, rFlag, hb]
      rw [e]
      refine ⟨a + 1, rfl, by omega, by omega, ?_⟩
      have e2 : wWrite ⟨2, 0, if sbit s a then 1 else 0, ByteArray.empty⟩ ⟨bs, 0⟩ = wFlag (sbit s a) ⟨bs, 0⟩ := by
        simp only [wWrite]
        rw [if_neg (by decide), if_neg (by decide), if_pos trivial]
        cases sbit s a <;> rfl
      rw [e2]
      unfold wFlag
      exact hfield 1 1 _ rfl (rbits_one s a).symm (by omega)
  by_cases k3 : f.kind = 3
  · cases hb : (rBegin (between 1 4095 f.width) (width f.width) ⟨s, a, 0⟩).1
    · have := (rBegin_false (st := ⟨s, a, 0⟩) rfl hb).1
      simp [rRead, k3, rText, hb] at hok
      exact absurd hok this
    · obtain ⟨_, hv, hsz, _⟩ := rBegin_true hb
      have hw := between_iff hv
      simp only at hsz
      have hwd := width_le f.width hw.2
      have hspec := width_spec f.width (by omega) (by omega)
      obtain ⟨n, hn⟩ : ∃ n, bval (rbits s a (width f.width)) = n := ⟨_, rfl⟩
      by_cases hgt : f.width < (n : Int)
      · simp [rRead, k3, rText, hb, hn, hgt] at hok
      · cases hb2 : (rBegin true (8 * (n : Int)) ⟨s, a + width f.width, 0⟩).1
        · have := (rBegin_false (st := ⟨s, a + width f.width, 0⟩) rfl hb2).1
          simp [rRead, k3, rText, hb, hn, hgt, hb2] at hok
          exact absurd hok this
        · obtain ⟨_, _, hsz2, _⟩ := rBegin_true hb2
          simp only at hsz2
          have e : rRead f ⟨s, a, 0⟩ = (⟨3, f.width, 0, strOf (tbytes s (a + width f.width) n)⟩, ⟨s, a + width f.width + 8 * n, 0⟩) := by
            simp [rRead, k3, rText, hb, hn, hgt, hb2]
          rw [e]
          have hT : (strOf (tbytes s (a + width f.width) n)).size = n := by rw [strOf_size, tbytes_len]
          refine ⟨a + width f.width + 8 * n, rfl, by omega, by omega, ?_⟩
          have e2 : wWrite ⟨3, f.width, 0, strOf (tbytes s (a + width f.width) n)⟩ ⟨bs, 0⟩ = wText f.width (strOf (tbytes s (a + width f.width) n)) ⟨bs, 0⟩ := by simp [wWrite]
          rw [e2]
          unfold wText
          have he : tErr f.width (strOf (tbytes s (a + width f.width) n)).size = 0 := by
            rw [hT]; unfold tErr; rw [if_pos hw, if_neg hgt]
          rw [he, sbits_strOf _ (tbytes_lt s _ n), tbytes_bits, hT]
          have e3 : ibits (width f.width) (n : Int) = rbits s a (width f.width) := by rw [← hn]; exact ibits_bval' _ _ (rbits_len _ _ _)
          rw [e3, ← rbits_add, Nat.add_assoc]
          exact hfield (width f.width + 8 * n) _ _ (by push_cast; rfl) rfl (by omega)
  · have e : rRead f ⟨s, a, 0⟩ = (f, ⟨s, a, 0⟩) := rRead_other f _ (by omega)
    rw [e]
    refine ⟨a, rfl, by omega, ha, ?_⟩
    simp [wWrite, k0, k1, k2, k3, hbs]

theorem rRead_err (f : Fld) (st : RSt) (h : st.e ≠ 0) : (rRead f st).2.e ≠ 0 := by rw [rRead_deadst f st h]; exact h

def wIter (fs : Nat → Fld) (st : RSt) (ws : WSt) : Nat → WSt
  | 0 => ws
  | k + 1 => wWrite (rRead (fs k) (rIter fs st k)).1 (wIter fs st ws k)
theorem strict_iter (fs : Nat → Fld) (s : ByteArray) (hs : s.size ≤ 65536) (k : Nat) (h : (rIter fs ⟨s, 0, 0⟩ k).e = 0) :
    ∃ a, rIter fs ⟨s, 0, 0⟩ k = ⟨s, a, 0⟩ ∧ a ≤ 8 * s.size ∧ wIter fs ⟨s, 0, 0⟩ ⟨[], 0⟩ k = ⟨rbits s 0 a, 0⟩ := by
  induction k with
  | zero => exact ⟨0, rfl, by omega, rfl⟩
  | succ k ih =>
    have h0 : (rIter fs ⟨s, 0, 0⟩ k).e = 0 := by
      rcases Classical.em ((rIter fs ⟨s, 0, 0⟩ k).e = 0) with h0 | h0
      · exact h0
      · exact absurd h (rRead_err (fs k) _ h0)
    obtain ⟨a, e1, e2, e3⟩ := ih h0
    have hr : (rRead (fs k) ⟨s, a, 0⟩).2.e = 0 := by
      have : rIter fs ⟨s, 0, 0⟩ (k + 1) = (rRead (fs k) (rIter fs ⟨s, 0, 0⟩ k)).2 := rfl
      rw [this, e1] at h; exact h
    obtain ⟨a', g1, _, g3, g4⟩ := read_write (fs k) s a (rbits s 0 a) e2 hs rfl hr
    refine ⟨a', ?_, g3, ?_⟩
    · show (rRead (fs k) (rIter fs ⟨s, 0, 0⟩ k)).2 = _
      rw [e1, g1]
    · show wWrite (rRead (fs k) (rIter fs ⟨s, 0, 0⟩ k)).1 (wIter fs ⟨s, 0, 0⟩ ⟨[], 0⟩ k) = _
      rw [e1, e3, g4]

theorem bval_zero (bs : List Bool) (h : bval bs = 0) : ∀ b ∈ bs, b = false := by
  have hb := ibits_bval bs
  rw [h] at hb
  intro b hbm
  rw [← hb] at hbm
  simp only [ibits, List.mem_map] at hbm
  obtain ⟨i, _, hi⟩ := hbm
  rw [← hi]
  simp
/-- A string that was read to its end is what was written. -/
theorem closed_bytes (s : ByteArray) (a : Nat) (ha : a ≤ 8 * s.size) (h : rClose ⟨s, a, 0⟩ = 0) : wBytes ⟨rbits s 0 a, 0⟩ = s := by
  unfold rClose at h
  rw [if_neg (by simp)] at h
  simp only at h
  split at h
  · cases h
  · split at h
    · cases h
    · rename_i h8 hz
      have hz' : bval (rbits s a (8 * s.size - a)) = 0 := by omega
      have hall := bval_zero _ hz'
      have hp : Packs (s.data.toList.map UInt8.toNat) (rbits s 0 a) := by
        refine ⟨by simp [rbits_len]; omega, fun j => ?_, fun i => ?_⟩
        · rw [List.getD_eq_getElem?_getD, List.getElem?_map]
          cases s.data.toList[j]? with
          | none => simp
          | some x => simpa using x.toNat_lt
        · have hbit : ((s.data.toList.map UInt8.toNat).getD (i / 8) 0).testBit (7 - i % 8) = sbit s i := by
            unfold sbit
            congr 1
            rw [List.getD_eq_getElem?_getD, List.getElem?_map, List.getD_eq_getElem?_getD]
            cases s.data.toList[i / 8]? <;> simp
          rw [hbit]
          by_cases hi : i < a
          · rw [List.getD_eq_getElem?_getD]
            simp [rbits, hi]
          · rw [List.getD_eq_getElem?_getD, List.getElem?_eq_none (by rw [rbits_len]; omega), Option.getD_none]
            by_cases hi2 : i < 8 * s.size
            · refine hall _ ?_
              rw [rbits, List.mem_map]
              exact ⟨i - a, List.mem_range.2 (by omega), by congr 1; omega⟩
            · unfold sbit
              rw [List.getD_eq_getElem?_getD, List.getElem?_eq_none (by simp; omega)]
              simp
      have := hp.inj (packs_packB (rbits s 0 a))
      simp only [wBytes, ne_eq, not_true, if_false]
      rw [← this]
      unfold strOf
      rw [List.map_map]
      have e : (s.data.toList.map (UInt8.ofNat ∘ UInt8.toNat)) = s.data.toList := by
        conv => rhs; rw [← List.map_id s.data.toList]
        refine List.map_congr_left fun x _ => ?_
        simp
      rw [e]
theorem bval_63 (s : ByteArray) (a k : Nat) (h : k ≤ 63) : (bval (rbits s a k) : Int) ≤ 9223372036854775807 := by
  have h1 := bval_lt' (rbits s a k)
  rw [rbits_len] at h1
  have h2 : 2 ^ k ≤ 9223372036854775808 := Nat.pow_le_pow_right (n := 2) (by decide) h
  omega
theorem rRead_ok (f : Fld) (st : RSt) (ok : f.Ok) : (rRead f st).1.Ok ∧ ((rRead f st).1.s.size ≤ 4095 ∨ (rRead f st).1.s = f.s) := by
  obtain ⟨k1, k2, w1, w2, n1, n2, s1⟩ := ok
  have he : ByteArray.empty.size = 0 := rfl
  unfold rRead
  by_cases c0 : f.kind = 0
  · rw [if_pos c0]
    refine ⟨⟨k1, k2, w1, w2, ?_, ?_, by rw [he]; omega⟩, .inl (by rw [he]; omega)⟩
    all_goals (simp only [rUnsigned, rNum]; split)
    · simp only; omega
    · simp only; omega
    · rename_i hb
      have := between_iff (rBegin_true hb).2.1
      exact bval_63 _ _ _ (by omega)
    · simp only; omega
  rw [if_neg c0]
  by_cases c1 : f.kind = 1
  · rw [if_pos c1]
    refine ⟨⟨k1, k2, w1, w2, ?_, ?_, by rw [he]; omega⟩, .inl (by rw [he]; omega)⟩
    all_goals (simp only [rSigned]; split)
    · rename_i hb
      have hw := between_iff (rBegin_true hb).2.1
      have hv := bval_lt' (rbits st.s st.at_ f.width.toNat)
      rw [rbits_len] at hv
      have g := (sval_range f.width.toNat _ (by omega) hv).1
      have hp : 2 ^ (f.width.toNat - 1) ≤ 4611686018427387904 := Nat.pow_le_pow_right (n := 2) (by decide) (show f.width.toNat - 1 ≤ 62 by omega)
      have e : (2 : Int) ^ (f.width.toNat - 1) = ((2 ^ (f.width.toNat - 1) : Nat) : Int) := by rw [Int.natCast_pow]; rfl
      rw [e] at g
      generalize 2 ^ (f.width.toNat - 1) = P at *
      simp only
      omega
    · simp only; omega
    · rename_i hb
      have hw := between_iff (rBegin_true hb).2.1
      have hv := bval_lt' (rbits st.s st.at_ f.width.toNat)
      rw [rbits_len] at hv
      have g := (sval_range f.width.toNat _ (by omega) hv).2.1
      have hp : 2 ^ (f.width.toNat - 1) ≤ 4611686018427387904 := Nat.pow_le_pow_right (n := 2) (by decide) (show f.width.toNat - 1 ≤ 62 by omega)
      have e : (2 : Int) ^ (f.width.toNat - 1) = ((2 ^ (f.width.toNat - 1) : Nat) : Int) := by rw [Int.natCast_pow]; rfl
      rw [e] at g
      generalize 2 ^ (f.width.toNat - 1) = P at *
      simp only
      omega
    · simp only; omega
  rw [if_neg c1]
  by_cases c2 : f.kind = 2
  · rw [if_pos c2]
    refine ⟨⟨k1, k2, by simp only; omega, by simp only; omega, ?_, ?_, by rw [he]; omega⟩, .inl (by rw [he]; omega)⟩
    all_goals (simp only; split <;> omega)
  rw [if_neg c2]
  by_cases c3 : f.kind = 3
  · rw [if_pos c3]
    have hsz : (rText f.width st).1.size ≤ 4095 := by
      unfold rText
      split
      · rw [he]; omega
      · rename_i hb
        have hb' : (rBegin (between 1 4095 f.width) (width f.width) st).1 = true := by simpa using hb
        have hw := between_iff (rBegin_true hb').2.1
        split
        · rw [he]; omega
        · split
          · rw [he]; omega
          · rw [strOf_size, tbytes_len]; omega
    exact ⟨⟨k1, k2, w1, w2, by simp only; omega, by simp only; omega, by simp only; omega⟩, .inl hsz⟩
  · rw [if_neg c3]
    exact ⟨⟨k1, k2, w1, w2, n1, n2, s1⟩, .inr rfl⟩
theorem few_size (fs : Nat → Fld) (len k : Nat) (h : fewB fs len = true) (hk : k < len) : (fs k).s.size ≤ 200 := by
  simp only [fewB, fewTo, Bool.and_eq_true, List.all_eq_true, List.mem_range, decide_eq_true_eq] at h
  exact h.2 k hk

def bIter (fs : Nat → Fld) : Nat → WSt
  | 0 => ⟨[], 0⟩
  | k + 1 => wWrite (fs k) (bIter fs k)

theorem wField_dead (err size : Int) (new : List Bool) (st : WSt) (h : st.e ≠ 0) : wField err size new st = st := by simp [wField, h]
theorem wWrite_dead (f : Fld) (st : WSt) (h : st.e ≠ 0) : wWrite f st = st := by
  simp [wWrite, wUnsigned, wSigned, wFlag, wText, wField_dead _ _ _ _ h]

/-- What a field that was written without an error is when it is read. -/
def Match (f x : Fld) : Prop := (f.kind ≤ 1 → x.n = f.n) ∧ (f.kind = 2 → (x.n == 1) = (f.n != 0)) ∧ (f.kind = 3 → x.s = f.s)

theorem wField_ok {err size : Int} {new bs : List Bool} (hsz : err = 0 → size = new.length) (h : (wField err size new ⟨bs, 0⟩).e = 0) : err = 0 ∧ bs.length + new.length ≤ 524288 ∧ wField err size new ⟨bs, 0⟩ = ⟨bs ++ new, 0⟩ := by
  unfold wField at h ⊢
  rw [if_neg (by simp)] at h ⊢
  by_cases he : err = 0
  · rw [if_neg (by simp [he])] at h ⊢
    by_cases hs : size > 524288 - ((⟨bs, 0⟩ : WSt).bs.length : Int)
    · rw [if_pos hs] at h; cases h
    · rw [if_neg hs]
      have := hsz he
      simp only at hs
      exact ⟨he, by omega, rfl⟩
  · rw [if_pos he] at h
    exact absurd h he

theorem two_pow_nat (k : Nat) : (2 : Int) ^ k = ((2 ^ k : Nat) : Int) := by rw [Int.natCast_pow]; rfl

theorem uErr_inv {width n : Int} (h : uErr width n = 0) : 0 ≤ n ∧ n < 2 ^ width.toNat := by
  unfold uErr at h
  split at h
  · split at h
    · rename_i hz
      have hp : (0 : Int) < 2 ^ width.toNat := Int.pow_pos (by decide)
      rw [Int.ediv_eq_iff_of_pos hp] at hz
      omega
    · cases h
  · cases h
theorem sErr_inv {width n : Int} (h : sErr width n = 0) : -(2 ^ (width.toNat - 1)) ≤ n ∧ n < 2 ^ (width.toNat - 1) := by
  unfold sErr at h
  split at h
  · split at h
    · rename_i hz
      have hp : (0 : Int) < 2 ^ (width.toNat - 1) := Int.pow_pos (by decide)
      generalize (2 : Int) ^ (width.toNat - 1) = P at *
      rw [Int.ediv_eq_iff_of_pos hp, Int.ediv_eq_iff_of_pos hp] at hz
      omega
    · cases h
  · cases h

theorem write_step (f : Fld) (bs : List Bool) (hle : bs.length ≤ 524288) (h : (wWrite f ⟨bs, 0⟩).e = 0) :
    ∃ new : List Bool, wWrite f ⟨bs, 0⟩ = ⟨bs ++ new, 0⟩ ∧ bs.length + new.length ≤ 524288 ∧ (¬ (0 ≤ f.kind ∧ f.kind ≤ 3) → new = []) ∧
      ∀ (s : ByteArray) (a : Nat), rbits s a new.length = new → a + new.length ≤ 8 * s.size → 0 ≤ f.kind → f.kind ≤ 3 → ∃ x, rRead f ⟨s, a, 0⟩ = (x, ⟨s, a + new.length, 0⟩) ∧ Match f x := by
  have hbeg : ∀ (s : ByteArray) (a : Nat) (valid : Bool) (size : Int), valid = true → size ≤ 8 * (s.size : Int) - a → (rBegin valid size ⟨s, a, 0⟩).1 = true := by
    intro s a valid size hv hs
    unfold rBegin
    rw [if_neg (by simp), if_neg (by simp [hv]), if_neg (by simp only; omega)]
  by_cases k0 : f.kind = 0
  · have e : wWrite f ⟨bs, 0⟩ = wUnsigned f.width f.n ⟨bs, 0⟩ := by simp [wWrite, k0]
    rw [e] at h ⊢
    unfold wUnsigned at h ⊢
    obtain ⟨g1, g2, g3⟩ := wField_ok (fun he => by have := uErr_zero he; rw [ibits_len]; omega) h
    have hw := uErr_zero g1
    have hn := uErr_inv g1
    refine ⟨_, g3, g2, fun hk => absurd ⟨by omega, by omega⟩ hk, fun s a hr ha _ _ => ?_⟩
    rw [ibits_len] at hr ha ⊢
    have hb := hbeg s a (between 1 63 f.width) f.width (by simp [between]; omega) (by omega)
    refine ⟨⟨0, f.width, bval (rbits s a f.width.toNat), ByteArray.empty⟩, by simp [rRead, k0, rUnsigned, rNum, hb], fun _ => ?_, fun hk => by omega, fun hk => by omega⟩
    show ((bval (rbits s a f.width.toNat) : Nat) : Int) = f.n
    rw [hr, bval_ibits, Int.emod_eq_of_lt hn.1 hn.2]
  by_cases k1 : f.kind = 1
  · have e : wWrite f ⟨bs, 0⟩ = wSigned f.width f.n ⟨bs, 0⟩ := by simp [wWrite, k1]
    rw [e] at h ⊢
    unfold wSigned at h ⊢
    obtain ⟨g1, g2, g3⟩ := wField_ok (fun he => by have := sErr_zero he; rw [ibits_len]; omega) h
    have hw := sErr_zero g1
    have hn := sErr_inv g1
    refine ⟨_, g3, g2, fun hk => absurd ⟨by omega, by omega⟩ hk, fun s a hr ha _ _ => ?_⟩
    rw [ibits_len] at hr ha ⊢
    have hb := hbeg s a (between 2 63 f.width) f.width (by simp [between]; omega) (by omega)
    refine ⟨⟨1, f.width, sval f.width.toNat (bval (rbits s a f.width.toNat)), ByteArray.empty⟩, by simp [rRead, k1, rSigned, hb], fun _ => ?_, fun hk => by omega, fun hk => by omega⟩
    show sval f.width.toNat (bval (rbits s a f.width.toNat)) = f.n
    rw [hr]
    exact sval_emod f.width.toNat f.n (by omega) hn.1 hn.2 _ (bval_ibits _ _)
  by_cases k2 : f.kind = 2
  · have e : wWrite f ⟨bs, 0⟩ = wFlag (f.n != 0) ⟨bs, 0⟩ := by simp [wWrite, k2]
    rw [e] at h ⊢
    unfold wFlag at h ⊢
    obtain ⟨g1, g2, g3⟩ := wField_ok (size := 1) (new := [f.n != 0]) (fun _ => rfl) h
    refine ⟨_, g3, g2, fun hk => absurd ⟨by omega, by omega⟩ hk, fun s a hr ha _ _ => ?_⟩
    simp only [List.length_cons, List.length_nil, Nat.zero_add] at hr ha ⊢
    rw [rbits_one] at hr
    have hb := hbeg s a true 1 rfl (by omega)
    have hsb : sbit s a = (f.n != 0) := by simpa using hr
    refine ⟨⟨2, 0, if sbit s a then 1 else 0, ByteArray.empty⟩, by simp [rRead, k2, rFlag, hb], fun hk => by omega, fun _ => ?_, fun hk => by omega⟩
    show ((if sbit s a then (1 : Int) else 0) == 1) = (f.n != 0)
    rw [← hsb]
    cases sbit s a <;> rfl
  by_cases k3 : f.kind = 3
  · have e : wWrite f ⟨bs, 0⟩ = wText f.width f.s ⟨bs, 0⟩ := by simp [wWrite, k3]
    rw [e] at h ⊢
    unfold wText at h ⊢
    obtain ⟨g1, g2, g3⟩ := wField_ok (fun he => by rw [List.length_append, ibits_len, sbits_len f.s f.s.size (Nat.le_refl _)]; push_cast; rfl) h
    obtain ⟨w1, w2, w3⟩ := tErr_zero g1
    have hspec := width_spec f.width (by omega) (by omega)
    refine ⟨_, g3, g2, fun hk => absurd ⟨by omega, by omega⟩ hk, fun s a hr ha _ _ => ?_⟩
    rw [List.length_append, ibits_len, sbits_len f.s f.s.size (Nat.le_refl _)] at hr ha ⊢
    rw [rbits_add] at hr
    obtain ⟨r1, r2⟩ := List.append_inj hr (by rw [rbits_len, ibits_len])
    have hn : bval (rbits s a (width f.width)) = f.s.size := by
      have := bval_ibits (width f.width) (f.s.size : Int)
      rw [← r1, Int.emod_eq_of_lt (by omega) (by omega)] at this
      omega
    have hb := hbeg s a (between 1 4095 f.width) (width f.width) (by simp [between]; omega) (by omega)
    have hb2 := hbeg s (a + width f.width) true (8 * (f.s.size : Int)) rfl (by omega)
    have hT : strOf (tbytes s (a + width f.width) f.s.size) = f.s := by
      have hl := tbytes_bits s (a + width f.width) f.s.size
      rw [r2] at hl
      have hk : ∀ k, k ≤ f.s.size → ∀ j, j < k → (tbytes s (a + width f.width) f.s.size)[j]? = (f.s.data.toList.map UInt8.toNat)[j]? := by
        intro k
        induction k with
        | zero => intro _ j hj; omega
        | succ k ih =>
          intro hk' j hj
          by_cases hjk : j < k
          · exact ih (by omega) j hjk
          · have ej : j = k := by omega
            subst ej
            have hj2 : j < f.s.size := by omega
            have hd : (rbits s (a + width f.width + 8 * j) 8) = ibits 8 (f.s[j].toNat : Int) := by
              have e1 : rbits s (a + width f.width) (8 * f.s.size) = rbits s (a + width f.width) (8 * j) ++ (rbits s (a + width f.width + 8 * j) 8 ++ rbits s (a + width f.width + 8 * j + 8) (8 * (f.s.size - j - 1))) := by
                rw [← rbits_add, ← rbits_add]; congr 1; omega
              have e2 : sbits f.s f.s.size = sbits f.s j ++ (ibits 8 (f.s[j].toNat : Int) ++ (sbits f.s f.s.size).drop (8 * (j + 1))) := by
                have e3 := List.take_append_drop (8 * (j + 1)) (sbits f.s f.s.size)
                have e4 : (sbits f.s f.s.size).take (8 * (j + 1)) = sbits f.s (j + 1) := by
                  unfold sbits
                  have e5 : f.s.data.toList.take f.s.size = f.s.data.toList.take (j + 1) ++ (f.s.data.toList.take f.s.size).drop (j + 1) := by
                    conv => lhs; rw [← List.take_append_drop (j + 1) (f.s.data.toList.take f.s.size)]
                    rw [List.take_take, Nat.min_eq_left (by omega)]
                  rw [e5, List.flatMap_append]
                  have hlen : ((f.s.data.toList.take (j + 1)).flatMap fun c => ibits 8 (c.toNat : Int)).length = 8 * (j + 1) := sbits_len f.s (j + 1) (by omega)
                  rw [List.take_append_of_le_length (by omega), List.take_of_length_le (by omega)]
                rw [e4, sbits_succ f.s j hj2] at e3
                rw [← List.append_assoc]; exact e3.symm
              have e6 : rbits s (a + width f.width) (8 * j) ++ (rbits s (a + width f.width + 8 * j) 8 ++ rbits s (a + width f.width + 8 * j + 8) (8 * (f.s.size - j - 1))) = sbits f.s j ++ (ibits 8 (f.s[j].toNat : Int) ++ (sbits f.s f.s.size).drop (8 * (j + 1))) := by
                rw [← e1, ← e2, r2]
              obtain ⟨_, e7⟩ := List.append_inj e6 (by rw [rbits_len, sbits_len f.s j (by omega)])
              exact (List.append_inj e7 (by rw [rbits_len, ibits_len])).1
            have hv := bval_ibits 8 (f.s[j].toNat : Int)
            have hlt := f.s[j].toNat_lt
            rw [← hd, Int.emod_eq_of_lt (by omega) (by omega)] at hv
            simp only [tbytes, List.getElem?_map, List.getElem?_range hj2, Option.map_some]
            rw [List.getElem?_eq_getElem (by simpa using hj2), Option.map_some]
            congr 1
            have : f.s.data.toList[j]'(by simpa using hj2) = f.s[j] := rfl
            rw [this]
            omega
      have hall : tbytes s (a + width f.width) f.s.size = f.s.data.toList.map UInt8.toNat := by
        refine List.ext_getElem? fun j => ?_
        by_cases hj : j < f.s.size
        · exact hk f.s.size (Nat.le_refl _) j hj
        · rw [List.getElem?_eq_none (by rw [tbytes_len]; omega), List.getElem?_eq_none (by simp; omega)]
      rw [hall]
      unfold strOf
      rw [List.map_map]
      have e : (f.s.data.toList.map (UInt8.ofNat ∘ UInt8.toNat)) = f.s.data.toList := by
        conv => rhs; rw [← List.map_id f.s.data.toList]
        refine List.map_congr_left fun x _ => ?_
        simp
      rw [e]
    have hgt : ¬ f.width < (f.s.size : Int) := by omega
    refine ⟨⟨3, f.width, 0, f.s⟩, ?_, fun hk => by omega, fun hk => by omega, fun _ => rfl⟩
    simp [rRead, k3, rText, hb, hn, hgt, hb2, hT, Nat.add_assoc]
  · have e : wWrite f ⟨bs, 0⟩ = ⟨bs, 0⟩ := by simp [wWrite, k0, k1, k2, k3]
    rw [e]
    exact ⟨[], by simp, by simpa using hle, fun _ => rfl, fun _ _ _ _ h0 h3 => by omega⟩

theorem bIter_le (fs : Nat → Fld) : ∀ k, (bIter fs k).bs.length ≤ 524288
  | 0 => by simp [bIter]
  | k + 1 => by
    have ih := bIter_le fs k
    show (wWrite (fs k) (bIter fs k)).bs.length ≤ 524288
    generalize bIter fs k = st at ih ⊢
    obtain ⟨bs, e⟩ := st
    by_cases he : e = 0
    · subst he
      have hf : ∀ (err size : Int) (new : List Bool), (err = 0 → size = new.length) → (wField err size new ⟨bs, 0⟩).bs.length ≤ 524288 := by
        intro err size new hsz
        unfold wField
        rw [if_neg (by simp)]
        split
        · exact ih
        · rename_i h0
          have := hsz (by simpa using h0)
          split
          · exact ih
          · rename_i h1; simp only at h1; simp only [List.length_append]; omega
      unfold wWrite
      split
      · exact hf _ _ _ (fun h => by have := uErr_zero h; rw [ibits_len]; omega)
      · split
        · exact hf _ _ _ (fun h => by have := sErr_zero h; rw [ibits_len]; omega)
        · split
          · exact hf _ _ _ (fun _ => rfl)
          · split
            · exact hf _ _ _ (fun h => by rw [List.length_append, ibits_len, sbits_len _ _ (Nat.le_refl _)]; push_cast; rfl)
            · exact ih
    · rw [wWrite_dead _ _ he]; exact ih

theorem bIter_alive (fs : Nat → Fld) (m : Nat) (h : (bIter fs m).e = 0) : ∀ d k, k + d = m → (bIter fs k).e = 0 ∧ ∃ rest, (bIter fs m).bs = (bIter fs k).bs ++ rest := by
  intro d
  induction d with
  | zero => intro k hk; obtain rfl : k = m := by omega
            exact ⟨h, [], by simp⟩
  | succ d ih =>
    intro k hk
    obtain ⟨e1, rest, hr⟩ := ih (k + 1) (by omega)
    have e1' : (wWrite (fs k) (bIter fs k)).e = 0 := e1
    have e0 : (bIter fs k).e = 0 := by
      rcases Classical.em ((bIter fs k).e = 0) with h0 | h0
      · exact h0
      · rw [wWrite_dead _ _ h0] at e1'; exact e1'
    refine ⟨e0, ?_⟩
    have hle := bIter_le fs k
    have hb : bIter fs k = ⟨(bIter fs k).bs, 0⟩ := by rw [← e0]
    rw [hb] at e1'
    obtain ⟨new, hn, _⟩ := write_step (fs k) _ hle e1'
    have h2 : (bIter fs (k + 1)).bs = (bIter fs k).bs ++ new := by
      show (wWrite (fs k) (bIter fs k)).bs = _
      rw [hb, hn]
    exact ⟨new ++ rest, by rw [hr, h2, List.append_assoc]⟩

/-- The reader's way through what was written. -/
theorem back_step (fs : Nat → Fld) (m k : Nat) (hk : k < m) (h : (bIter fs m).e = 0) (s : ByteArray) (hs : s = wBytes (bIter fs m)) :
    (¬ (0 ≤ (fs k).kind ∧ (fs k).kind ≤ 3) → (bIter fs (k + 1)).bs.length = (bIter fs k).bs.length) ∧
    (0 ≤ (fs k).kind → (fs k).kind ≤ 3 → ∃ x, rRead (fs k) ⟨s, (bIter fs k).bs.length, 0⟩ = (x, ⟨s, (bIter fs (k + 1)).bs.length, 0⟩) ∧ Match (fs k) x) := by
  obtain ⟨e0, _⟩ := bIter_alive fs m h (m - k) k (by omega)
  obtain ⟨e1, rest, hr⟩ := bIter_alive fs m h (m - (k + 1)) (k + 1) (by omega)
  have hle := bIter_le fs k
  have hb : bIter fs k = ⟨(bIter fs k).bs, 0⟩ := by rw [← e0]
  have e1' : (wWrite (fs k) ⟨(bIter fs k).bs, 0⟩).e = 0 := by rw [← hb]; exact e1
  obtain ⟨new, hn, _, hno, hread⟩ := write_step (fs k) _ hle e1'
  have h2 : (bIter fs (k + 1)).bs = (bIter fs k).bs ++ new := by
    show (wWrite (fs k) (bIter fs k)).bs = _
    rw [hb, hn]
  have hst : bIter fs m = ⟨(bIter fs m).bs, 0⟩ := by rw [← h]
  have hp := packs_packB (bIter fs m).bs
  have hs2 : s = strOf (packB (bIter fs m).bs) := by rw [hs, hst]; simp [wBytes]
  have hsz : s.size = ((bIter fs m).bs.length + 7) / 8 := by rw [hs2, strOf_size, hp.len]
  have hlen : (bIter fs m).bs.length = (bIter fs k).bs.length + new.length + rest.length := by rw [hr, h2, List.length_append, List.length_append]
  refine ⟨fun hkd => by rw [h2, hno hkd]; simp, fun k0 k3 => ?_⟩
  have hrb : rbits s (bIter fs k).bs.length new.length = new := by
    rw [hs2, rbits_str hp _ _ (by omega), hr, h2, List.append_assoc, List.drop_left, List.take_left]
  obtain ⟨x, hx, hm⟩ := hread s (bIter fs k).bs.length hrb (by omega) k0 k3
  exact ⟨x, by rw [hx, h2, List.length_append], hm⟩

theorem back_close (bs : List Bool) (h : bs.length ≤ 524288) : rClose ⟨wBytes ⟨bs, 0⟩, bs.length, 0⟩ = 0 := by
  have hp := packs_packB bs
  have hs2 : wBytes ⟨bs, 0⟩ = strOf (packB bs) := by simp [wBytes]
  have hsz : (strOf (packB bs)).size = (bs.length + 7) / 8 := by rw [strOf_size, hp.len]
  rw [hs2]
  unfold rClose
  rw [if_neg (by simp)]
  simp only
  rw [if_neg (by omega)]
  have hz : rbits (strOf (packB bs)) bs.length (8 * (strOf (packB bs)).size - bs.length) = List.replicate (8 * (strOf (packB bs)).size - bs.length) false := by
    refine List.ext_getElem? fun i => ?_
    by_cases hi : i < 8 * (strOf (packB bs)).size - bs.length
    · simp only [rbits, List.getElem?_map, List.getElem?_range hi, Option.map_some, List.getElem?_replicate, hi, if_true]
      rw [sbit_str hp, List.getD_eq_getElem?_getD, List.getElem?_eq_none (by omega)]
      rfl
    · rw [List.getElem?_eq_none (by rw [rbits_len]; omega), List.getElem?_eq_none (by rw [List.length_replicate]; omega)]
  rw [hz]
  have hv : ∀ k, bval (List.replicate k false) = 0 := by
    intro k
    induction k with
    | zero => rfl
    | succ k ih => rw [List.replicate_succ', bval_snoc, ih]; rfl
  rw [hv]
  simp

end Go.Proofs.Ytelpdihaonoedaa
