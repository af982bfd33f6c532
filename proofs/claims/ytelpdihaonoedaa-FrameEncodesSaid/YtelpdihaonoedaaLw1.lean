/- FrameTimes. -/
import Derived.Test.YtelpdihaonoedaaAwk
import Derived.Test.YtelpdihaonoedaaAns
import Derived.Test.YtelpdihaonoedaaMth
namespace Go.Proofs.Ytelpdihaonoedaa
open Go.RowKit
set_option linter.unusedVariables false
set_option maxRecDepth 20000

theorem eqF_refl (x : Frm) : eqF x x = true := by simp [eqF]
theorem inR_f {n a b : Int} : inR n a b = false ↔ ¬ (a ≤ n ∧ n ≤ b) := by
  have := @inR_t n a b
  cases h : inR n a b <;> simp_all
theorem acE_0 {x : Frm} {l d : Int} (h : acE x l d = 0) : okF x = true ∧ anB x = true ∧ inR l 0 255 = true ∧ inR d (-32768) 32767 = true ∧ acV x l d = akF x l d := by
  unfold acE at h
  split at h
  · rename_i h1
    split at h
    · rename_i h2
      simp only [Bool.and_eq_true] at h1 h2
      exact ⟨h1.1, h1.2, h2.1, h2.2, by simp [acV, h1, h2]⟩
    · cases h
  · cases h
theorem acE_n {x : Frm} {l d : Int} (h : acE x l d ≠ 0) : acV x l d = zeroF := by
  unfold acE at h
  unfold acV
  split
  · rename_i h1
    rw [if_pos h1] at h
    split
    · rename_i h2; rw [if_pos h2] at h; exact absurd rfl h
    · rfl
  · rfl
theorem anB_t {x : Frm} (h : anB x = true) : x.t ≠ -1 ∧ x.k ≠ 2 := by simpa [anB] using h
theorem ak_ok {x : Frm} {l d : Int} (hx : okF x = true) (ha : anB x = true) (hl : inR l 0 255 = true) (hd : inR d (-32768) 32767 = true) : okF (akF x l d) = true := by
  obtain ⟨h0, h1, h2, h3, h4, h5, h6, h7, h8, h9, h10⟩ := okF_parts hx
  obtain ⟨a1, a2, a3, a4⟩ := adB_parts h2
  obtain ⟨b1, b2⟩ := anB_t ha
  have a5 := (a4 b1).2
  rw [inR_t] at hl hd
  have e1 : inR x.s 0 31 = true := inR_t.2 a1
  have e2 : inR x.t 0 31 = true := inR_t.2 (by omega)
  have e3 : inR l 0 255 = true := inR_t.2 hl
  have e4 : inR x.q 0 255 = true := inR_t.2 h4
  have e5 : inR d (-32768) 32767 = true := inR_t.2 hd
  have e6 : ¬ x.s = -1 := by omega
  have e7 : (x.s != x.t) = true := by simp; omega
  have n : nmF (akF x l d) = akF x l d := by simp [nmF, akF]
  have adb : adB (akF x l d) = true := by simp [adB, akF, e1, e2, e6, e7]
  unfold okF
  rw [n, eqF_refl, adb]
  simp only [akF, e3, e4, e5]
  decide
theorem bit_step (wd : Nat) (n : Int) (bs : List Bool) (h1 : 1 ≤ wd) (h2 : wd ≤ 63) (hn : 0 ≤ n) (h : n < 2 ^ wd) (hb : bs.length + wd ≤ 524288) : wUnsigned wd n ⟨bs, 0⟩ = ⟨bs ++ ibits wd n, 0⟩ := by
  unfold wUnsigned wField
  rw [if_neg (by simp), uErr_fits wd n h1 h2 hn h, if_neg (by simp), if_neg (by simp only; omega)]
  simp
theorem bit_stepS (wd : Nat) (n : Int) (bs : List Bool) (h1 : 2 ≤ wd) (h2 : wd ≤ 63) (hl : -(2 ^ (wd - 1)) ≤ n) (h : n < 2 ^ (wd - 1)) (hb : bs.length + wd ≤ 524288) : wSigned wd n ⟨bs, 0⟩ = ⟨bs ++ ibits wd n, 0⟩ := by
  unfold wSigned wField
  rw [if_neg (by simp), sErr_fits wd n h1 h2 hl h, if_neg (by simp), if_neg (by simp only; omega)]
  simp
theorem bit_stepF (b : Bool) (bs : List Bool) (hb : bs.length + 1 ≤ 524288) : wFlag b ⟨bs, 0⟩ = ⟨bs ++ [b], 0⟩ := by
  unfold wFlag wField
  rw [if_neg (by simp), if_neg (by simp), if_neg (by simp only; omega)]
/-- The head of a valid frame: 25 bits, and 5 if it has a target. -/
theorem hd_bits {x : Frm} (hx : okF x = true) : ∃ bs : List Bool, hdS x = ⟨bs, 0⟩ ∧ (bs.length : Int) = if x.t = -1 then 25 else 30 := by
  obtain ⟨h0, h1, h2, h3, h4, h5, h6, h7, h8, h9, h10⟩ := okF_parts hx
  obtain ⟨a1, a2, a3, a4⟩ := adB_parts h2
  unfold hdS
  rw [show (3 : Int) = ((3 : Nat) : Int) from rfl, show (5 : Int) = ((5 : Nat) : Int) from rfl, show (8 : Int) = ((8 : Nat) : Int) from rfl]
  rw [bit_step 3 x.k [] (by decide) (by decide) (by omega) (by omega) (by simp)]
  rw [bit_step 5 x.s _ (by decide) (by decide) (by omega) (by omega) (by simp [ibits_len])]
  unfold tgS
  rw [bit_stepF _ _ (by simp [ibits_len])]
  by_cases ht : x.t = -1
  · have hb : (x.t != -1) = false := by simp [ht]
    rw [if_neg (by rw [hb]; decide), if_pos ht]
    rw [bit_step 8 x.l _ (by decide) (by decide) (by omega) (by omega) (by simp [ibits_len])]
    rw [bit_step 8 x.q _ (by decide) (by decide) (by omega) (by omega) (by simp [ibits_len])]
    exact ⟨_, rfl, by simp [ibits_len]⟩
  · have hb : (x.t != -1) = true := by simp [ht]
    rw [if_pos hb, if_neg ht]
    rw [show (5 : Int) = ((5 : Nat) : Int) from rfl]
    rw [bit_step 5 x.t _ (by decide) (by decide) (by omega) (by omega) (by simp [ibits_len])]
    rw [bit_step 8 x.l _ (by decide) (by decide) (by omega) (by omega) (by simp [ibits_len])]
    rw [bit_step 8 x.q _ (by decide) (by decide) (by omega) (by omega) (by simp [ibits_len])]
    exact ⟨_, rfl, by simp [ibits_len]⟩
theorem pr_size {x : Frm} {bs : List Bool} (h : enS x = ⟨bs, 0⟩) : (prS x).size = (bs.length + 7) / 8 + 2 := by
  unfold prS
  rw [prot_size]
  unfold wBytes
  rw [h, if_neg (by simp), strOf_size, (packs_packB _).len]
theorem ack_bits {x : Frm} (hx : okF x = true) (hk : x.k = 2) : ∃ bs : List Bool, enS x = ⟨bs, 0⟩ ∧ bs.length = 46 := by
  obtain ⟨h0, h1, h2, h3, h4, h5, h6, h7, h8, h9, h10⟩ := okF_parts hx
  obtain ⟨a1, a2, a3, a4⟩ := adB_parts h2
  have ht : x.t ≠ -1 := fun e => by have := a3 e; omega
  obtain ⟨bs, hb, hl⟩ := hd_bits hx
  rw [if_neg ht] at hl
  unfold enS kdS
  rw [if_neg (by omega), if_pos hk, hb, show (16 : Int) = ((16 : Nat) : Int) from rfl, bit_stepS 16 x.e bs (by decide) (by decide) (by omega) (by omega) (by omega)]
  exact ⟨_, rfl, by simp [ibits_len]; omega⟩
theorem ack_enc {x : Frm} (hx : okF x = true) (hk : x.k = 2) : enE x = 0 ∧ (enV x).size = 8 := by
  obtain ⟨bs, hb, hl⟩ := ack_bits hx hk
  have hs := pr_size hb
  rw [hl] at hs
  have := enc_4 hx (by rw [hb]) (by rw [hs]; decide)
  rw [this.1, hs]
  exact ⟨this.2, rfl⟩
end Go.Proofs.Ytelpdihaonoedaa
