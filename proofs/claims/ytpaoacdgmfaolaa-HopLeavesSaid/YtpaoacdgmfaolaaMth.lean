/- The mathematics of hopping lists. -/
import Derived.WalkKit
namespace Go.Proofs.Ytpaoacdgmfaolaa
set_option linter.unusedVariables false
open Go.RowKit

def inR (n a b : Int) : Bool := decide (a ≤ n) && decide (n ≤ b)
theorem inR_t {n a b : Int} : inR n a b = true ↔ a ≤ n ∧ n ≤ b := by simp [inR]
theorem inR_f {n a b : Int} (h : inR n a b = false) : ¬ (a ≤ n ∧ n ≤ b) := fun k => by rw [inR_t.2 k] at h; cases h
def isC (c : Int) : Bool := inR c 0 15
/-- The first k numbers are different channels. -/
def pre (zs : List Int) (k : Nat) : Bool := (zs.take k).all isC && decide (zs.take k).Nodup
def hasZ (zs : List Int) (n : Int) : Bool := zs.any (fun m => m == n)
theorem hasZ_t {zs : List Int} {n : Int} : hasZ zs n = true ↔ n ∈ zs := by simp [hasZ]
theorem take_snoc (zs : List Int) (k : Nat) (hk : k < zs.length) : zs.take (k + 1) = zs.take k ++ [zs.getD k 0] := by
  rw [List.take_succ_eq_append_getElem hk]
  simp [List.getD_eq_getElem?_getD, List.getElem?_eq_getElem hk]
theorem hasZ_snoc (zs : List Int) (k : Nat) (hk : k < zs.length) (d : Int) : hasZ (zs.take (k + 1)) d = (hasZ (zs.take k) d || (zs.getD k 0 == d)) := by
  rw [take_snoc zs k hk]
  simp [hasZ]
theorem pre_0 (zs : List Int) : pre zs 0 = true := by simp [pre]
theorem pre_succ (zs : List Int) (k : Nat) (hk : k < zs.length) : pre zs (k + 1) = (pre zs k && (isC (zs.getD k 0) && !hasZ (zs.take k) (zs.getD k 0))) := by
  unfold pre
  rw [take_snoc zs k hk]
  generalize zs.take k = l
  generalize zs.getD k 0 = c
  rw [Bool.eq_iff_iff]
  simp only [List.all_append, List.all_cons, List.all_nil, Bool.and_true, Bool.and_eq_true, decide_eq_true_eq, Bool.not_eq_true', List.nodup_append, List.nodup_cons, List.not_mem_nil, not_false_eq_true, List.nodup_nil, and_self, true_and, List.mem_singleton, forall_eq]
  have e : hasZ l c = false ↔ c ∉ l := by rw [← hasZ_t]; simp
  rw [e]
  constructor
  · rintro ⟨⟨h1, h2⟩, h3, h4⟩
    exact ⟨⟨h1, h3⟩, h2, fun h => h4 c h rfl⟩
  · rintro ⟨⟨h1, h3⟩, h2, h4⟩
    exact ⟨⟨h1, h2⟩, h3, fun a ha e => h4 (e ▸ ha)⟩
theorem pre_down (zs : List Int) (j : Nat) (hj : j ≤ zs.length) (k : Nat) (hk : k ≤ j) (h : pre zs k = false) : pre zs j = false := by
  induction j with
  | zero => obtain rfl : k = 0 := by omega
            exact h
  | succ j ih =>
    by_cases e : k = j + 1
    · rw [← e]; exact h
    · rw [pre_succ zs j (by omega), ih (by omega) (by omega)]; rfl
/-- 1 to 16 different channels. -/
def chB (zs : List Int) : Bool := inR zs.length 1 16 && pre zs zs.length
theorem nodup_le (n : Nat) : ∀ l : List Int, l.Nodup → (∀ x ∈ l, 0 ≤ x ∧ x < (n : Int)) → l.length ≤ n := by
  induction n with
  | zero => 
    intro l _ h
    cases l with
    | nil => simp
    | cons a l => have := h a (by simp); omega
  | succ n ih =>
    intro l hn h
    have h1 := ih (l.erase (n : Int)) (hn.erase _) (fun x hx => by
      rw [hn.mem_erase_iff] at hx
      have := h x hx.2
      omega)
    have h2 := List.length_erase (a := (n : Int)) (l := l)
    split at h2 <;> omega
theorem pre_len (zs : List Int) (h : pre zs zs.length = true) : zs.length ≤ 16 := by
  simp only [pre, List.take_length, Bool.and_eq_true, decide_eq_true_eq, List.all_eq_true] at h
  refine nodup_le 16 zs h.2 fun x hx => ?_
  have := inR_t.1 (h.1 x hx)
  omega
/-- What the document asks of a list of channels. -/
theorem chB_doc (zs : List Int) : chB zs = (decide (1 ≤ zs.length) && pre zs zs.length) := by
  unfold chB
  cases h : pre zs zs.length
  · simp
  · have := pre_len zs h
    have e : inR (zs.length : Int) 1 16 = decide (1 ≤ zs.length) := by
      rw [Bool.eq_iff_iff, inR_t, decide_eq_true_eq]
      omega
    rw [e]
theorem chB_t {zs : List Int} (h : chB zs = true) : 1 ≤ zs.length ∧ zs.length ≤ 16 ∧ zs.Nodup ∧ ∀ k, k < zs.length → 0 ≤ zs.getD k 0 ∧ zs.getD k 0 ≤ 15 := by
  simp only [chB, pre, List.take_length, Bool.and_eq_true, decide_eq_true_eq, List.all_eq_true, inR_t] at h
  obtain ⟨⟨h1, h2⟩, h3, h4⟩ := h
  refine ⟨by omega, by omega, h4, fun k hk => ?_⟩
  rw [List.getD_eq_getElem?_getD, List.getElem?_eq_getElem hk]
  exact inR_t.1 (h3 _ (List.getElem_mem hk))
/-- A list in force from f to u - 1. -/
def hlB (v f u : Int) (zs : List Int) : Bool := (inR v 0 255 && (decide (0 ≤ f) && (decide (f < u) && decide (u ≤ 109951163)))) && chB zs
theorem hlB_t {v f u : Int} {zs : List Int} (h : hlB v f u zs = true) : 0 ≤ v ∧ v ≤ 255 ∧ 0 ≤ f ∧ f < u ∧ u ≤ 109951163 ∧ chB zs = true := by
  simp only [hlB, Bool.and_eq_true, decide_eq_true_eq, inR_t] at h
  obtain ⟨⟨⟨h1, h2⟩, h3, h4, h5⟩, h6⟩ := h
  exact ⟨h1, h2, h3, h4, h5, h6⟩
def hlE (v f u : Int) (zs : List Int) : Int := if hlB v f u zs then 0 else 1
/-- The channel of an offset. -/
def cha (zs : List Int) (s o : Int) : Int := zs.getD ((s + o) % zs.length).toNat 0
/-- May a list be used? -/
def useE (v f u : Int) (zs : List Int) (s o : Int) : Int := if !hlB v f u zs then 1 else if !(decide (f ≤ s) && decide (s < u)) then 12 else if !inR o 0 ((zs.length : Int) - 1) then 2 else 0
theorem nodup_getD {zs : List Int} (h : zs.Nodup) {i j : Nat} (hi : i < zs.length) (hj : j < zs.length) (e : zs.getD i 0 = zs.getD j 0) : i = j := by
  rw [List.getD_eq_getElem?_getD, List.getD_eq_getElem?_getD, List.getElem?_eq_getElem hi, List.getElem?_eq_getElem hj] at e
  simp only [Option.getD_some] at e
  rw [List.nodup_iff_pairwise_ne, List.pairwise_iff_getElem] at h
  rcases Nat.lt_trichotomy i j with hl | hl | hl
  · exact absurd e (h i j hi hj hl)
  · exact hl
  · exact absurd e.symm (h j i hj hi hl)
theorem mod_inj {a b : Int} {n : Int} (hn : 0 < n) (h1 : a - b < n) (h2 : b - a < n) (e : a % n = b % n) : a = b := by
  have h := Int.emod_emod_of_dvd a (Int.dvd_refl n)
  have hd : n ∣ a - b := Int.dvd_of_emod_eq_zero (by rw [Int.sub_emod, e, Int.sub_self, Int.zero_emod])
  obtain ⟨k, hk⟩ := hd
  have k1 : k < 1 := by
    apply Classical.byContradiction
    intro hc
    have : n * 1 ≤ n * k := Int.mul_le_mul_of_nonneg_left (by omega) (by omega)
    omega
  have k2 : -1 < k := by
    apply Classical.byContradiction
    intro hc
    have : n * k ≤ n * (-1) := Int.mul_le_mul_of_nonneg_left (by omega) (by omega)
    omega
  have k0 : k = 0 := by omega
  rw [k0, Int.mul_zero] at hk
  omega
theorem cha_at {zs : List Int} (h : 1 ≤ zs.length) {s o : Int} : ∃ m : Nat, m < zs.length ∧ (m : Int) = (s + o) % (zs.length : Int) ∧ cha zs s o = zs.getD m 0 := by
  have h1 := Int.emod_nonneg (s + o) (show (zs.length : Int) ≠ 0 by omega)
  have h2 := Int.emod_lt_of_pos (s + o) (show (0 : Int) < zs.length by omega)
  exact ⟨((s + o) % (zs.length : Int)).toNat, by omega, by omega, rfl⟩
theorem cha_mem {zs : List Int} (h : 1 ≤ zs.length) (s o : Int) : cha zs s o ∈ zs := by
  obtain ⟨m, h1, -, h2⟩ := cha_at h (s := s) (o := o)
  rw [h2, List.getD_eq_getElem?_getD, List.getElem?_eq_getElem h1]
  exact List.getElem_mem h1
theorem cha_inj {zs : List Int} (h : chB zs = true) {s o s' o' : Int} (h1 : s + o - (s' + o') < zs.length) (h2 : s' + o' - (s + o) < zs.length) (e : cha zs s o = cha zs s' o') : s + o = s' + o' := by
  obtain ⟨l1, -, hn, -⟩ := chB_t h
  obtain ⟨m, a1, a2, a3⟩ := cha_at l1 (s := s) (o := o)
  obtain ⟨m', b1, b2, b3⟩ := cha_at l1 (s := s') (o := o')
  rw [a3, b3] at e
  have := nodup_getD hn a1 b1 e
  subst this
  exact mod_inj (by omega) h1 h2 (a2.symm.trans b2)
theorem cha_round {zs : List Int} (s o : Int) : cha zs (s + zs.length) o = cha zs s o := by
  unfold cha
  rw [show s + (zs.length : Int) + o = s + o + zs.length by omega, Int.add_emod_right]
/-! What stays. -/
def bkB (bl : List Int) : Bool := decide (bl.length ≤ 64) && bl.all isC
theorem bkB_t {bl : List Int} (h : bkB bl = true) : bl.length ≤ 64 ∧ ∀ k, k < bl.length → 0 ≤ bl.getD k 0 ∧ bl.getD k 0 ≤ 15 := by
  simp only [bkB, Bool.and_eq_true, decide_eq_true_eq, List.all_eq_true] at h
  refine ⟨h.1, fun k hk => ?_⟩
  rw [List.getD_eq_getElem?_getD, List.getElem?_eq_getElem hk]
  exact inR_t.1 (h.2 _ (List.getElem_mem hk))
/-- One number of the blacklist: how many lack still, and which ones stay after all. -/
def rsS (chs : List Int) (s : Int × List Int) (c : Int) : Int × List Int := if decide (0 < s.1) && (hasZ chs c && !hasZ s.2 c) then (s.1 - 1, s.2 ++ [c]) else s
def rsK (chs bl : List Int) (m : Int) (k : Nat) : Int × List Int := (bl.take k).foldl (rsS chs) (m, [])
theorem rsK_succ (chs bl : List Int) (m : Int) (k : Nat) (hk : k < bl.length) : rsK chs bl m (k + 1) = rsS chs (rsK chs bl m k) (bl.getD k 0) := by
  unfold rsK
  rw [take_snoc bl k hk, List.foldl_append]
  rfl
def gdL (chs bl : List Int) : List Int := chs.filter fun c => !hasZ bl c
def wiK (chs bl : List Int) (least : Int) : List Int := (rsK chs bl (least - (gdL chs bl).length) bl.length).2
def wiL (chs bl : List Int) (least : Int) : List Int := chs.filter fun c => !hasZ bl c || hasZ (wiK chs bl least) c
def wiE (chs bl : List Int) (least : Int) : Int := if !(chB chs && bkB bl) then 1 else if !inR least 1 chs.length then 2 else 0
def wiV (chs bl : List Int) (least : Int) : List Int := if wiE chs bl least = 0 then wiL chs bl least else []
/-- What is known of the loop over the blacklist. -/
structure RsI (chs bl : List Int) (m : Int) (k : Nat) : Prop where
  a : ∀ c ∈ (rsK chs bl m k).2, c ∈ bl.take k ∧ c ∈ chs
  n : (rsK chs bl m k).2.Nodup
  s : (rsK chs bl m k).1 + (rsK chs bl m k).2.length = m
  z : 0 ≤ m → 0 ≤ (rsK chs bl m k).1
  all : 0 < (rsK chs bl m k).1 → ∀ c ∈ bl.take k, c ∈ chs → c ∈ (rsK chs bl m k).2
  neg : m ≤ 0 → (rsK chs bl m k).2 = []
theorem rsI (chs bl : List Int) (m : Int) (k : Nat) (hk : k ≤ bl.length) : RsI chs bl m k := by
  induction k with
  | zero => exact ⟨fun c h => by simp [rsK] at h, by simp [rsK], by simp [rsK], fun h => by simpa [rsK] using h, fun _ c h => by simp at h, fun _ => by simp [rsK]⟩
  | succ k ih =>
    obtain ⟨i1, i2, i3, i4, i5, i6⟩ := ih (by omega)
    have e := rsK_succ chs bl m k (by omega)
    have et := take_snoc bl k (by omega)
    generalize rsK chs bl m k = st at *
    generalize bl.getD k 0 = c at *
    obtain ⟨q, l⟩ := st
    dsimp only at i1 i2 i3 i4 i5 i6
    unfold rsS at e
    dsimp only at e
    by_cases h : (decide (0 < q) && (hasZ chs c && !hasZ l c)) = true
    · rw [if_pos h] at e
      simp only [Bool.and_eq_true, decide_eq_true_eq, hasZ_t, Bool.not_eq_true'] at h
      obtain ⟨h1, h2, h3⟩ := h
      have h3' : c ∉ l := by rw [← hasZ_t, h3]; simp
      refine ⟨?_, ?_, ?_, ?_, ?_, ?_⟩ <;> rw [e] <;> dsimp only
      · intro d hd
        rw [et]
        rcases List.mem_append.1 hd with hd | hd
        · exact ⟨List.mem_append.2 (.inl (i1 d hd).1), (i1 d hd).2⟩
        · rw [List.mem_singleton.1 hd]
          exact ⟨by simp, h2⟩
      · rw [List.nodup_append]
        exact ⟨i2, by simp, fun a ha b hb => by rw [List.mem_singleton.1 hb]; rintro rfl; exact h3' ha⟩
      · simp; omega
      · intro; omega
      · intro hq d hd hd2
        rw [et] at hd
        rcases List.mem_append.1 hd with hd | hd
        · exact List.mem_append.2 (.inl (i5 (by omega) d hd hd2))
        · rw [List.mem_singleton.1 hd]; simp
      · intro hm
        have h4 := i6 hm
        rw [h4] at i3
        simp at i3
        omega
    · rw [if_neg h] at e
      refine ⟨?_, ?_, ?_, ?_, ?_, ?_⟩ <;> rw [e] <;> dsimp only
      · intro d hd
        rw [et]
        exact ⟨List.mem_append.2 (.inl (i1 d hd).1), (i1 d hd).2⟩
      · exact i2
      · exact i3
      · exact i4
      · intro hq d hd hd2
        rw [et] at hd
        rcases List.mem_append.1 hd with hd | hd
        · exact i5 hq d hd hd2
        · rw [List.mem_singleton.1 hd] at hd2 ⊢
          apply Classical.byContradiction
          intro hc
          exact h (by simp only [Bool.and_eq_true, decide_eq_true_eq, hasZ_t, Bool.not_eq_true']; exact ⟨hq, hd2, by rw [← Bool.not_eq_true, hasZ_t]; exact hc⟩)
      · exact i6
theorem filter_split (chs : List Int) (p : Int → Bool) (l : List Int) (hl : l.Nodup) (hc : chs.Nodup) (h : ∀ c ∈ l, c ∈ chs ∧ p c = false) : (chs.filter fun c => p c || hasZ l c).length = (chs.filter p).length + l.length := by
  induction l with
  | nil => simp [hasZ]
  | cons a l ih =>
    have hal : a ∉ l := (List.nodup_cons.1 hl).1
    have := ih (List.nodup_cons.1 hl).2 (fun c hc => h c (List.mem_cons_of_mem _ hc))
    obtain ⟨ha, hpa⟩ := h a (by simp)
    have key : ∀ cs : List Int, cs.Nodup → (cs.filter fun c => p c || hasZ (a :: l) c).length = (cs.filter fun c => p c || hasZ l c).length + (if a ∈ cs then 1 else 0) := by
      intro cs
      induction cs with
      | nil => intro _; simp
      | cons c cs ih2 =>
        intro hcs
        obtain ⟨hn, hcs'⟩ := List.nodup_cons.1 hcs
        have h2 := ih2 hcs'
        have hx : hasZ (a :: l) c = ((a == c) || hasZ l c) := by simp [hasZ]
        simp only [List.filter_cons, hx]
        by_cases e : a = c
        · subst e
          have hlf : hasZ l a = false := by rw [← Bool.not_eq_true, hasZ_t]; exact hal
          simp only [hpa, hlf, beq_self_eq_true, Bool.or_true, Bool.or_false, if_true, List.length_cons, Bool.false_eq_true, if_false, List.mem_cons, true_or]
          rw [if_neg hn] at h2
          omega
        · have e2 : (a == c) = false := by simpa using e
          simp only [e2, Bool.false_or, List.mem_cons, e, false_or]
          cases hq : (p c || hasZ l c)
          · simpa using h2
          · simp only [if_true, List.length_cons]
            omega
    rw [key chs hc, if_pos ha, this, List.length_cons]
    omega
/-- As many stay as have to. -/
theorem wi_len {chs bl : List Int} {least : Int} (h : wiE chs bl least = 0) : ((wiL chs bl least).length : Int) = max ((gdL chs bl).length : Int) least := by
  unfold wiE at h
  cases h1 : chB chs && bkB bl
  · rw [h1] at h; simp at h
  cases h2 : inR least 1 chs.length
  · rw [h1, h2] at h; simp at h
  rw [Bool.and_eq_true] at h1
  obtain ⟨-, -, hn, -⟩ := chB_t h1.1
  have h2 := inR_t.1 h2
  have hI := rsI chs bl (least - (gdL chs bl).length) bl.length (Nat.le_refl _)
  obtain ⟨i1, i2, i3, i4, i5, i6⟩ := hI
  rw [List.take_length] at i1 i5
  have hl : (wiL chs bl least).length = (gdL chs bl).length + (wiK chs bl least).length :=
    filter_split chs (fun c => !hasZ bl c) (wiK chs bl least) i2 hn (fun c hc => ⟨(i1 c hc).2, by simpa using hasZ_t.2 (i1 c hc).1⟩)
  have hle : (wiL chs bl least).length ≤ chs.length := List.length_filter_le _ _
  have e : wiK chs bl least = (rsK chs bl (least - (gdL chs bl).length) bl.length).2 := rfl
  rw [← e] at i3 i5 i6
  generalize hq : (rsK chs bl (least - (gdL chs bl).length) bl.length).1 = q at *
  by_cases hm : least - (gdL chs bl).length ≤ 0
  · have := i6 hm
    rw [this] at hl
    simp at hl
    omega
  · by_cases hq0 : 0 < q
    · have hall : (wiL chs bl least).length = chs.length := by
        unfold wiL
        rw [List.length_filter_eq_length_iff]
        intro c hc
        by_cases hb : c ∈ bl
        · rw [hasZ_t.2 (i5 hq0 c hb hc)]; simp
        · have : hasZ bl c = false := by rw [← Bool.not_eq_true, hasZ_t]; exact hb
          rw [this]; rfl
      omega
    · have := i4 (by omega)
      omega

end Go.Proofs.Ytpaoacdgmfaolaa
