/- The law of errors that are found. -/
import Derived.Test.YthkklnphchajdaaFlp
import Derived.Test.YthkklnphchajdaaLaw3
import Derived.Maps.OwnSet
import Derived.Maps.OwnOps
import Derived.BigRegion
namespace Go.Proofs.Ythkklnphchajdaa
open Go.RowKit

/-- A slice of integers that came in. -/
def IntsIn (w : World) (k : IntKind) (ao : Option Addr) (len : Nat) (zs : List Int) : Prop :=
  ∀ i, i < len → ∃ b off, ao = some ⟨b, off, none⟩ ∧ w.cell? ⟨b, off + i, none⟩ = some (.int k (zs.getD i 0))
theorem IntsIn.kept {w w' : World} {k : IntKind} {ao : Option Addr} {len : Nat} {zs : List Int} (h : IntsIn w k ao len zs) (hf : Fr no w w') : IntsIn w' k ao len zs := fun i hi => by
  obtain ⟨b, off, ha, hc⟩ := h i hi
  exact ⟨b, off, ha, (hf.cell (p := ⟨b, off + i, none⟩) (World.block_lt_of_cell? w _ hc) (fun h => h)).trans hc⟩

theorem check_val (d : ByteArray) (h2 : 2 ≤ d.size) : chkE d = if val 0#16 (bytesOf d) = 0#16 then 0 else 10 := by
  rw [chkE, if_neg (by omega), synL_val _ (bytesOf_lt d) (by rw [bytesOf_len]; exact h2)]
theorem check_any' (d : ByteArray) (w : World) (h2 : 2 ≤ d.size) (hd : d.size ≤ 1000000) (e0 : Int) (he : e0 = if val 0#16 (bytesOf d) = 0#16 then 0 else 10) :
    Calls Try.prog 23 #[.string d] w fun e w' => e = .returned (.tuple #[.string (chkV d), .int .i64 e0]) ∧ Fr no w w' := by
  have := check_any d w hd
  rwa [check_val d h2, ← he] at this
theorem syndrome_any' (d : ByteArray) (w : World) (h2 : 2 ≤ d.size) (hd : d.size ≤ 1000000) :
    Calls Try.prog 24 #[.string d] w fun e w' => e = .returned (.tuple #[.int .u16 ((val 0#16 (bytesOf d)).toNat : Int), .int .i64 0]) ∧ Fr no w w' := by
  have := syndrome_any d w hd
  rwa [if_neg (by omega), if_neg (by omega), synL_val _ (bytesOf_lt d) (by rw [bytesOf_len]; exact h2)] at this
theorem loc_n (i n : Nat) (hi : i < n) (hn : n < 32767) (e : Ending) (h : LocRes (pw i) (n : Int) e) : e = .returned (.tuple #[.int .i64 (i : Nat), .bool true]) := by
  obtain ⟨k, ok, he, hl⟩ := h
  cases ok
  · exact absurd rfl ((hl.no rfl).2 i (by omega) (by omega))
  · obtain ⟨h0, h1, h2, _⟩ := hl.yes rfl
    rw [pw_inj h2 (by omega) h0] at he
    exact he
theorem val_prot (d : ByteArray) : val 0#16 (bytesOf (protB d)) = 0#16 := by
  rw [← synL_val _ (bytesOf_lt _) (by rw [bytesOf_len, prot_size]; omega), bytesOf_prot, synL_prot]
/-- One more bit of a burst. -/
theorem burst_step (m : Wd) (k : Nat) (hk : k < 16) (hm : m.toNat < 2 ^ k) : (m ^^^ pw k).toNat < 2 ^ (k + 1) ∧ m ^^^ pw k ≠ 0#16 := by
  have hp : (pw k).toNat = 2 ^ k := by
    have : ∀ j : Fin 16, (pw j.val).toNat = 2 ^ j.val := by decide
    exact this ⟨k, hk⟩
  constructor
  · rw [BitVec.toNat_xor, hp]
    exact Nat.xor_lt_two_pow (Nat.lt_of_lt_of_le hm (Nat.pow_le_pow_right (by decide) (by omega))) (Nat.pow_lt_pow_right (by decide) (by omega))
  · intro h
    have : m = pw k := by
      have := congrArg (· ^^^ pw k) h
      simpa [BitVec.xor_assoc] using this
    rw [this, hp] at hm
    omega

/-- The sum of powers of x. -/
def sumP (K : List Nat) : Wd := K.foldl (fun s k => s ^^^ pw k) 0#16
theorem sumP_snoc (K : List Nat) (x : Nat) : sumP (K ++ [x]) = sumP K ^^^ pw x := by rw [sumP, List.foldl_append]; rfl
theorem par_sum (K : List Nat) : par (sumP K) = if K.length % 2 = 1 then 1#16 else 0#16 := by
  have key : ∀ n, ∀ K : List Nat, K.length = n → par (sumP K) = if K.length % 2 = 1 then 1#16 else 0#16 := by
    intro n
    induction n with
    | zero => intro K h; rw [List.length_eq_zero_iff.1 h]; decide
    | succ n ih =>
      intro K h
      have hne : K ≠ [] := by rintro rfl; cases h
      rw [← List.dropLast_concat_getLast hne, sumP_snoc, par_xor, par_pw, ih _ (by simp; omega)]
      simp only [List.length_append, List.length_dropLast, List.length_singleton]
      by_cases ho : (K.length - 1) % 2 = 1
      · rw [if_pos ho, if_neg (by omega)]; decide
      · rw [if_neg ho, if_pos (by omega)]; decide
  exact key _ K rfl
theorem sum_odd (K : List Nat) (h : K.length % 2 = 1) : sumP K ≠ 0#16 := by
  intro e
  have := par_sum K
  rw [e, if_pos h] at this
  exact absurd this (by decide)
theorem sum_two (K : List Nat) (h : K.length = 2) (hn : K.Nodup) (hl : ∀ x ∈ K, x < 32767) : sumP K ≠ 0#16 := by
  match K, h with
  | [a, b], _ =>
    intro e
    have e2 : pw a = pw b := by
      have e1 : 0#16 ^^^ pw a ^^^ pw b = 0#16 := e
      rw [BitVec.zero_xor] at e1
      have := congrArg (· ^^^ pw b) e1
      simpa [BitVec.xor_assoc] using this
    have := pw_inj (hl a (by simp)) (hl b (by simp)) e2
    subst this
    simp at hn
/-- The map holds just the numbers K, each one with true. -/
structure MapIs (D : DataW Unit) (K : List Nat) : Prop where
  tidy : Maps.Tidy D
  size : Maps.size D = K.length
  has : ∀ x : Nat, Maps.has D (.int .i64 x) = decide (x ∈ K)
  at_ : ∀ x : Nat, D.atKey (.int .i64 x) (.lit (.bool false)) = .lit (.bool (decide (x ∈ K)))
theorem MapIs.nil : MapIs (.map []) [] := ⟨Maps.tidy_empty, rfl, fun _ => rfl, fun _ => rfl⟩
theorem MapIs.add {D : DataW Unit} {K : List Nat} (h : MapIs D K) (x : Nat) (hx : x ∉ K) : MapIs (D.put (.int .i64 x) (.lit (.bool true))) (K ++ [x]) := by
  have hk : WideAt.IsKeyLit (.int .i64 x) := trivial
  have hm := h.tidy.isMap
  refine ⟨h.tidy.put hk _, ?_, fun y => ?_, fun y => ?_⟩
  · rw [Maps.size_put h.tidy, h.has x, decide_eq_false hx, h.size]
    simp
  · by_cases e : y = x
    · subst e
      rw [Maps.has_put_same hm hk]
      simp
    · rw [Maps.has_put_other (by intro h; simp at h; exact e (by omega)), h.has y]
      simp [e]
  · by_cases e : y = x
    · subst e
      rw [Maps.atKey_put_same hm hk]
      simp
    · rw [Maps.atKey_put_other (by intro h; simp at h; exact e (by omega)), h.at_ y]
      simp [e]
theorem look_bool {w : World} {b n : Nat} {D : DataW Unit} (hown : w.ownsMap Try.prog 3 (plainElem Try.prog 4) b n D) (x : Nat) (hx : x < 1000000) (c : Bool) (hc : D.atKey (.int .i64 x) (.lit (.bool false)) = .lit (.bool c)) :
    (Instr.lookup 49 (.map (some b)) (.int .i64 (x : Int)) false).run Try.prog w = .ok (.bool c) w := by
  have hw : (Lit.int .i64 (x : Int)).wf = true := by simp [Lit.wf, IntKind.min, IntKind.max, IntKind.signed, IntKind.bits]; omega
  obtain ⟨v, ps, hrun, hv⟩ := hown.lookup (Maps.int_keyed Try.underlying3) Try.underlying49 (zd := .lit (.bool false)) (zp := []) (show (zeroValue 4).run Try.prog w = .ok (.bool false) w from Try.zeroValue4 w) (by simp [plainElem, Try.underlying4]) (Maps.keyOf_int_mk Try.underlying3 hw)
  rw [hc] at hv
  rw [hrun]
  congr 1
  unfold plainElem at hv
  rw [Try.underlying4] at hv
  cases v <;> simp at hv
  rw [hv.1]
set_option maxHeartbeats 8000000 in
set_option maxRecDepth 20000 in
theorem finds_in (data P : ByteArray) (f : Nat) (burst : Wd) (ao : Option Addr) (len cap : Nat) (zs : List Int) (w : World) (hd : data.size ≤ 300) (hl : len ≤ 15) (hf : f ≤ 65535)
    (hP : P = protB data) (hz : IntsIn w .u16 ao len zs) (hzb : ∀ x ∈ zs, 0 ≤ x ∧ x ≤ 65535) (hzl : len ≤ zs.length) :
    Calls Try.prog 9 #[.string data, .agg #[.int .u16 (f : Int), .int .u16 (burst.toNat : Int)], .slice ao len cap] w fun e w' => e = .returned (.bool true) ∧ Fr no w w' := by
  have hps : P.size = data.size + 2 := by rw [hP]; exact prot_size data
  have hv0 : val 0#16 (bytesOf P) = 0#16 := by rw [hP]; exact val_prot data
  obtain ⟨n, hn⟩ : ∃ n, n = 8 * P.size := ⟨_, rfl⟩
  obtain ⟨i, hi⟩ : ∃ i, i = f % n := ⟨_, rfl⟩
  have hin : i < n := by rw [hi]; exact Nat.mod_lt _ (by omega)
  have hPI : (P.size : Int) = (data.size : Int) + 2 := by omega
  have hnI : (8 : Int) * ((data.size : Int) + 2) = (n : Int) := by omega
  have hiI : (f : Int) % (n : Int) = (i : Int) := by rw [hi]; rfl
  have hiT : Int.tmod (f : Int) (n : Int) = (i : Int) := by rw [Int.tmod_eq_emod_of_nonneg (by omega)]; exact hiI
  have hn0 : ¬ (n : Int) = 0 := by omega
  have hn1 : ¬ (n : Int) = -1 := by omega
  have HI := Lib.hid hin
  have HN := Lib.hid (show n = 8 * P.size ∧ n < 32767 ∧ 2 ≤ P.size ∧ P.size ≤ 302 from ⟨hn, by omega, by omega, by omega⟩)
  have HV0 := Lib.hid hv0
  have HPR := Lib.hid (fun w => by have := protect_any data w (by omega); rwa [← hP] at this : ∀ w : World, Calls Try.prog 22 #[.string data] w fun e w' => e = .returned (.string P) ∧ Fr no w w')
  have HFL := Lib.hid (fun w => flip_any P i w (by omega) (by omega))
  have hOs := flB_size P i
  have HO := Lib.hid (show val 0#16 (bytesOf (flB P i)) = pw i by rw [bytesOf_flB, val_flip _ _ (by rw [bytesOf_len]; omega), hv0, BitVec.zero_xor])
  have HSY := Lib.hid (fun w => by have := syndrome_any' (flB P i) w (by omega) (by omega); rwa [HO.out] at this : ∀ w : World, Calls Try.prog 24 #[.string (flB P i)] w fun e w' => e = .returned (.tuple #[.int .u16 ((pw i).toNat : Int), .int .i64 0]) ∧ Fr no w w')
  have HLO := Lib.hid (loc_n i n hin (by omega))
  have HPW := Lib.hid (powZ_nat i)
  have ha' : ¬ (300 : Int) < data.size := by omega
  have hl' : ¬ (15 : Int) < len := by omega
  have GPI := Lib.hid hPI
  have GNI := Lib.hid hnI
  have GII := Lib.hid hiI
  have GIT := Lib.hid hiT
  have GN0 := Lib.hid hn0
  have HT := Lib.hid (show (wrap64 (f : Int)).tmod (n : Int) = (i : Int) by rw [show wrap64 (f : Int) = (f : Int) by unfold wrap64; omega]; exact hiT)
  clear hPI hnI hiI hiT hn0 hn1
  have HZ := Lib.hid hz
  have HZB := Lib.hid hzb
  have HZL := Lib.hid hzl
  have hmm := @run_makeMap Try.prog
  clear hps hv0 hn hi hin hd hl hf hP hz hzb hzl hOs HO
  generalize flB P i = O at *
  go_enter Try.func9, Try.ntmps9
  go_wp2_with fail
  refine (awake_any _).mono ?_
  rintro e w1 ⟨rfl, f1⟩
  have HF1 := Lib.hid (((Fr.refl no w).alloc (.cells #[.int .u16 (f : Int), .int .u16 (burst.toNat : Int)] 44 (0, 0))).noTrans f1)
  have hb := f1.blk (heap_alloc_new w _) (fun h => h)
  have c0 : w1.cell? ⟨w.heap.size, 0, none⟩ = some (.int .u16 (f : Int)) := by simp [World.cell?, hb]
  have c1 : w1.cell? ⟨w.heap.size, 1, none⟩ = some (.int .u16 (burst.toNat : Int)) := by simp [World.cell?, hb]
  clear f1 hb
  go_wp2_with fail
  go_region
  clear c0 c1
  have HF2 := Lib.hid HF1.out.drew
  clear HF1
  generalize w1.drew = w2 at *
  go_wp2_with fail
  refine (HPR.out _).mono ?_
  rintro e w3 ⟨rfl, f3⟩
  have hPI := GPI.out
  have hnI := GNI.out
  have hiI := GII.out
  have hiT := GIT.out
  have hn0 := GN0.out
  have HF3 := Lib.hid (HF2.out.noTrans f3)
  clear f3 HF2
  go_wp2_with fail
  rw [HT.out]
  clear hiI hiT
  refine (HFL.out _).mono ?_
  rintro e w4 ⟨rfl, f4⟩
  have HF4 := Lib.hid (HF3.out.noTrans f4)
  clear f4 HF3
  go_wp2_with fail
  refine (HSY.out _).mono ?_
  rintro e w5 ⟨rfl, f5⟩
  have HF5 := Lib.hid (HF4.out.noTrans f5)
  clear f5 HF4
  go_wp2_with fail
  refine (locate_any _ _ _ (by omega) (by have := HN.out; omega)).mono ?_
  rintro e w' ⟨hl, rfl⟩
  rw [HLO.out e hl]
  clear hl
  go_wp2_with fail
  refine (power_any _ _ (by omega) (by have := HN.out; have := HI.out; omega)).mono ?_
  rintro e w' ⟨rfl, rfl⟩
  rw [HPW.out]
  go_wp2_with fail
  clear hPI hnI
  have HIN := Lib.hid (show (i : Int) < 2500 ∧ (i : Int) < n by have := HI.out; have := HN.out; omega)
  go_loopw [17, 87] (fun s j wr => ∃ (k : Nat) (W : ByteArray) (m : Wd), k ≤ 16 ∧ j = .int .i64 k ∧ s = .string W ∧ W.size = P.size ∧ val 0#16 (bytesOf W) = txn i m ∧ m.toNat < 2 ^ k ∧ (m = 0#16 → W = P) ∧ Fr no w wr) (fun _ j _ => 16 - (intOf j).toNat)
  case atStart => exact ⟨0, P, 0#16, by decide, rfl, rfl, rfl, by rw [HV0.out, txn_zero], by decide, fun _ => rfl, HF5.out⟩
  case round =>
    obtain ⟨k, W, m, hk, rfl, rfl, hs, hv, hm, hz, hf⟩ := hrel
    have HS := Lib.hid hs
    have HV := Lib.hid hv
    have HM := Lib.hid hm
    have HZ0 := Lib.hid hz
    have HF := Lib.hid hf
    clear hs hv hm hz hf
    by_cases hlk : k < 16
    · have hbt := bit_test burst k
      have hwr : IntKind.i64.wrap ((i : Int) + (k : Int)) = (i : Int) + (k : Int) := IntWalk.i64_in _ (by have := HIN.out; omega)
      cases hb : burst.getLsbD k
      · rw [hb] at hbt
        clear hb
        go_wp2_with fail
        go_roundw
        case rel => exact ⟨k + 1, W, m, by omega, by go_num, rfl, HS.out, HV.out, Nat.lt_of_lt_of_le HM.out (Nat.pow_le_pow_right (by decide) (by omega)), HZ0.out, HF.out⟩
        case measure => simp [intOf]; omega
      · rw [hb] at hbt
        clear hb
        by_cases hik : (i : Int) + (k : Int) < n
        · have HFK := Lib.hid (fun w => by have := flip_any W (i + k) w (by have := HS.out; have := HN.out; omega) (by have := HS.out; have := HN.out; omega); rwa [Int.natCast_add] at this : ∀ w : World, Calls Try.prog 25 #[.string W, .int .i64 ((i : Int) + (k : Int))] w fun e w' => e = .returned (.string (flB W (i + k))) ∧ Fr no w w')
          have hbs := burst_step m k hlk HM.out
          have HB := Lib.hid hbs
          have HW := Lib.hid (show val 0#16 (bytesOf (flB W (i + k))) = txn i (m ^^^ pw k) by
            rw [bytesOf_flB, val_flip _ _ (by rw [bytesOf_len]; have := HS.out; have := HN.out; omega), HV.out, txn_xor, pw, pw, txn_add])
          have HWS := Lib.hid (flB_size W (i + k))
          clear hbs
          generalize flB W (i + k) = W' at *
          go_wp2_with fail
          refine (HFK.out _).mono ?_
          rintro e w6 ⟨rfl, f6⟩
          have HF6 := Lib.hid (HF.out.noTrans f6)
          clear f6
          go_wp2_with fail
          go_roundw
          case rel => exact ⟨k + 1, W', m ^^^ pw k, by omega, by go_num, rfl, HWS.out.trans HS.out, HW.out, HB.out.1, fun h => absurd h HB.out.2, HF6.out⟩
          case measure => simp [intOf]; omega
        · go_wp2_with fail
          go_roundw
          case rel => exact ⟨k + 1, W, m, by omega, by go_num, rfl, HS.out, HV.out, Nat.lt_of_lt_of_le HM.out (Nat.pow_le_pow_right (by decide) (by omega)), HZ0.out, HF.out⟩
          case measure => simp [intOf]; omega
    · obtain ⟨b, hb⟩ : ∃ b, b = (W.toList == P.toList) := ⟨_, rfl⟩
      obtain ⟨e0, he0⟩ : ∃ e0 : Int, e0 = if val 0#16 (bytesOf W) = 0#16 then 0 else 10 := ⟨_, rfl⟩
      have hE : (e0 == 0) = b := by
        by_cases hm0 : m = 0#16
        · rw [hb, HZ0.out hm0, he0, HZ0.out hm0, if_pos HV0.out]
          simp
        · have hv1 : val 0#16 (bytesOf W) ≠ 0#16 := by
            rw [HV.out]
            intro h
            exact hm0 (txn_inj (h.trans (txn_zero i).symm))
          have hne : W ≠ P := by
            rintro rfl
            exact hv1 HV0.out
          rw [hb, str_ne hne, he0, if_neg hv1]
          rfl
      have HC := Lib.hid (fun w => check_any' W w (by have := HS.out; have := HN.out; omega) (by have := HS.out; have := HN.out; omega) e0 he0)
      have hb' := hb.symm
      clear he0 hb
      generalize chkV W = cv at *
      go_wp2_with fail
      refine (HC.out _).mono ?_
      rintro e w6 ⟨rfl, f6⟩
      have HF6 := Lib.hid (HF.out.noTrans f6)
      clear f6
      go_wp2_with fail
      have HMap := Lib.hid (World.ownsMap_made w6 Try.prog 3 (plainElem (H := Unit) Try.prog 4))
      have HF7 := Lib.hid (HF6.out.alloc (.map #[] 0))
      have HBm := Lib.hid HF6.out.size
      generalize w6.heap.size = Bm at *
      generalize w6.alloc (.map #[] 0) = w7 at *
      clear hE hb' hmm HF6 HF HC
      go_loopw [22, 123] (fun s j wr => ∃ (k : Nat) (M : ByteArray) (K : List Nat) (D : DataW Unit), k ≤ len ∧ j = .int .i64 k ∧ s = .string M ∧ M.size = P.size ∧ val 0#16 (bytesOf M) = sumP K ∧ K.Nodup ∧ (∀ x ∈ K, x < n) ∧ K.length ≤ k ∧ MapIs D K ∧ wr.ownsMap Try.prog 3 (plainElem Try.prog 4) Bm k D ∧ Fr no w wr) (fun _ j _ => len - (intOf j).toNat)
      case atStart => exact ⟨0, P, [], .map [], Nat.zero_le _, rfl, rfl, rfl, HV0.out, List.nodup_nil, (fun _ h => by cases h), Nat.le_refl _, MapIs.nil, HMap.out, HF7.out⟩
      case round =>
        obtain ⟨k, M, K, D, hk, rfl, rfl, hs, hv, hnd, hKn, hKl, hMI, hown, hf⟩ := hrel
        have HS2 := Lib.hid hs
        have HV2 := Lib.hid hv
        have HND := Lib.hid hnd
        have HKN := Lib.hid hKn
        have HKL := Lib.hid hKl
        have HMI := Lib.hid hMI
        have HOW := Lib.hid hown
        have HFF := Lib.hid hf
        clear hs hv hnd hKn hKl hMI hown hf
        by_cases hlk2 : k < len
        · obtain ⟨b0, off, hao, hc0⟩ := (HZ.out.kept HFF.out) k hlk2
          subst hao
          have hz2 : 0 ≤ zs.getD k 0 ∧ zs.getD k 0 ≤ 65535 := by
            have := HZL.out
            rw [List.getD_eq_getElem?_getD, List.getElem?_eq_getElem (show k < zs.length by omega)]
            exact HZB.out _ (List.getElem_mem _)
          generalize zs.getD k 0 = z at *
          obtain ⟨z0, z1⟩ := hz2
          obtain ⟨x, hx⟩ : ∃ x : Nat, (x : Int) = z % (n : Int) := ⟨(z % (n : Int)).toNat, by have := HN.out; have := Int.emod_nonneg z (show (n : Int) ≠ 0 by omega); omega⟩
          have hxn : (x : Int) < n := by rw [hx]; exact Int.emod_lt_of_pos _ (by have := HN.out; omega)
          have HXN := Lib.hid hxn
          have hxt : z.tmod (n : Int) = (x : Int) := by rw [hx]; exact Int.tmod_eq_emod_of_nonneg z0
          have hxt2 : (wrap64 z).tmod (n : Int) = (x : Int) := by rw [show wrap64 z = z by unfold wrap64; omega]; exact hxt
          have hxm := hx.symm
          have hx1 : x < 1000000 := by have := HN.out; omega
          have hlook := look_bool HOW.out x hx1 _ (HMI.out.at_ x)
          have hkey : keyOf Try.prog 3 (.int .i64 (x : Int)) = some (.int .i64 (x : Int)) := Maps.keyOf_int_mk Try.underlying3 (by simp [Lit.wf, IntKind.min, IntKind.max, IntKind.signed, IntKind.bits]; omega)
          have HK := Lib.hid hkey
          have HL15 := Lib.hid (show k < maxLen by unfold maxLen; omega)
          clear hx hxn hx1 hkey
          by_cases hxK : x ∈ K
          · rw [decide_eq_true hxK] at hlook
            clear hxK
            go_wp2_with fail
            go_roundw
            case rel => exact ⟨k + 1, M, K, D, by omega, by go_num, rfl, HS2.out, HV2.out, HND.out, HKN.out, by have := HKL.out; omega, HMI.out, HOW.out.mono (by omega), HFF.out⟩
            case measure => simp [intOf]; omega
          · rw [decide_eq_false hxK] at hlook
            have HX := Lib.hid hxK
            have HFM := Lib.hid (fun w => flip_any M x w (by have := HS2.out; have := HN.out; have := HXN.out; omega) (by have := HS2.out; have := HN.out; omega))
            have HVM := Lib.hid (show val 0#16 (bytesOf (flB M x)) = sumP (K ++ [x]) by
              rw [bytesOf_flB, val_flip _ _ (by rw [bytesOf_len]; have := HS2.out; have := HN.out; have := HXN.out; omega), HV2.out, sumP_snoc])
            have HSM := Lib.hid (flB_size M x)
            clear hxK
            generalize flB M x = M' at *
            go_wp2_with (at_mapUpdate; refine wpList_mapUpdate_own (H := Unit) _ ?a1 (.tmp 135) (.tmp 136) (.const (.bool true)) 49 ?a2 3 4 (Maps.int_keyed Try.underlying3) Try.underlying49 (plainElem Try.prog 4) Bm k D ?a3 HOW.out HL15.out (.int .i64 (x : Int)) (.bool true) (.int .i64 (x : Int)) ?a4 ?a5 HK.out (.lit (.bool true)) [] ?hval ?rest; (case a1 => rfl); (case a2 => rfl); (case a3 => rfl); (case a4 => rfl); (case a5 => rfl); (case hval => simp [plainElem, Try.underlying4]); intro w8 hown1 hgrow1)
            have HO8 := Lib.hid hown1
            have HF8 := Lib.hid (Fr.grown HFF.out hgrow1 (fun j hj => .inr (by have := HBm.out; obtain rfl := Option.some.inj hj; exact this)))
            clear hown1 hgrow1
            refine (HFM.out _).mono ?_
            rintro e w9 ⟨rfl, f9⟩
            have HO9 := Lib.hid (HO8.out.kept (f9.grownBy none (fun _ _ h => h.elim)) (by simp))
            have HF9 := Lib.hid (HF8.out.noTrans f9)
            clear f9
            go_wp2_with fail
            go_roundw
            case rel => exact ⟨k + 1, M', K ++ [x], _, by omega, by go_num, rfl, HSM.out.trans HS2.out, HVM.out, (by
              rw [List.nodup_append]
              exact ⟨HND.out, by simp, fun a ha b hb => by simp at hb; subst hb; intro h; subst h; exact HX.out ha⟩), (by
              intro y hy
              rcases List.mem_append.1 hy with h | h
              · exact HKN.out y h
              · simp at h; subst h; have := HXN.out; omega), (by have := HKL.out; simp; omega), HMI.out.add x HX.out, HO9.out, HF9.out⟩
            case measure => simp [intOf]; omega
        · obtain ⟨e1, he1⟩ : ∃ e1 : Int, e1 = if val 0#16 (bytesOf M) = 0#16 then 0 else 10 := ⟨_, rfl⟩
          have HCM := Lib.hid (fun w => check_any' M w (by have := HS2.out; have := HN.out; omega) (by have := HS2.out; have := HN.out; omega) e1 he1)
          obtain ⟨c, hc⟩ : ∃ c, c = Maps.size D := ⟨_, rfl⟩
          have hcK : c = K.length := by rw [hc, HMI.out.size]
          have hfin : e1 = 10 ∨ (c ≠ 2 ∧ c % 2 = 0) := by
            by_cases hv : val 0#16 (bytesOf M) = 0#16
            · right
              rw [HV2.out] at hv
              refine ⟨fun h2 => ?_, ?_⟩
              · exact sum_two K (by omega) HND.out (fun x hx => by have := HKN.out x hx; have := HN.out; omega) hv
              · rcases Nat.mod_two_eq_zero_or_one c with h | h
                · exact h
                · exact absurd hv (sum_odd K (by omega))
            · left; rw [he1, if_neg hv]
          have HFIN := Lib.hid hfin
          have hc15 : (c : Int) ≤ 15 := by have := HKL.out; omega
          clear he1 hcK hfin
          generalize chkV M = cw at *
          go_wp2_with fail
          refine (HCM.out _).mono ?_
          rintro e w8 ⟨rfl, f8⟩
          have HO8 := Lib.hid (HOW.out.kept (f8.grownBy none (fun _ _ h => h.elim)) (by simp))
          have HF8 := Lib.hid (HFF.out.noTrans f8)
          have hlen := fun ty => HO8.out.len Try.underlying49 ty
          rw [← hc] at hlen
          clear f8 hc
          rcases HFIN.out with h10 | ⟨h2, h0⟩
          · subst h10
            go_wp2_with fail
            all_goals
              go_ret
              exact ⟨rfl, HF8.out⟩
          · have h2' : ((c : Int) == 2) = false := by rw [beq_eq_false_iff_ne]; omega
            have h0' : (c : Int) % 2 = 0 := by omega
            have h0t : Int.tmod (c : Int) 2 = 0 := by rw [Int.tmod_eq_emod_of_nonneg (by omega)]; exact h0'
            go_wp2_with fail
            all_goals
              go_ret
              exact ⟨rfl, HF8.out⟩

set_option maxHeartbeats 4000000 in
set_option maxRecDepth 20000 in
theorem finds_big (data : ByteArray) (f b : Int) (ao : Option Addr) (len cap : Nat) (w : World) (hd : data.size > 300 ∨ len > 15) :
    Calls Try.prog 9 #[.string data, .agg #[.int .u16 f, .int .u16 b], .slice ao len cap] w fun e w' => e = .returned (.bool true) ∧ Fr no w w' := by
  by_cases h : data.size > 300
  · have h' : (300 : Int) < data.size := by omega
    clear h hd
    go_enter Try.func9, Try.ntmps9
    go_wp2_with fail
    refine (awake_any _).mono ?_
    rintro e w1 ⟨rfl, f1⟩
    have HF1 := Lib.hid (((Fr.refl no w).alloc (.cells #[.int .u16 f, .int .u16 b] 44 (0, 0))).noTrans f1)
    clear f1
    go_wp2_with fail
    go_ret
    exact ⟨rfl, HF1.out⟩
  · have h' : ¬ (300 : Int) < data.size := by omega
    have h2 : (15 : Int) < len := by omega
    clear h hd
    go_enter Try.func9, Try.ntmps9
    go_wp2_with fail
    refine (awake_any _).mono ?_
    rintro e w1 ⟨rfl, f1⟩
    have HF1 := Lib.hid (((Fr.refl no w).alloc (.cells #[.int .u16 f, .int .u16 b] 44 (0, 0))).noTrans f1)
    clear f1
    go_wp2_with fail
    go_ret
    exact ⟨rfl, HF1.out⟩
theorem finds_law (data : ByteArray) (f b : Int) (ao : Option Addr) (len cap : Nat) (zs : List Int) (w : World) (f0 : 0 ≤ f) (f1 : f ≤ 65535) (b0 : 0 ≤ b) (b1 : b ≤ 65535)
    (hz : IntsIn w .u16 ao len zs) (hzb : ∀ x ∈ zs, 0 ≤ x ∧ x ≤ 65535) (hzl : len ≤ zs.length) :
    Calls Try.prog 9 #[.string data, .agg #[.int .u16 f, .int .u16 b], .slice ao len cap] w fun e w' => e = .returned (.bool true) ∧ Below w.heap.size w w' := by
  refine Calls.mono (R := fun e w' => e = .returned (.bool true) ∧ Fr no w w') ?_ (fun e w' h => ⟨h.1, h.2.belowNone (Nat.le_refl _)⟩)
  by_cases hd : data.size > 300 ∨ len > 15
  · exact finds_big data f b ao len cap w hd
  · obtain ⟨g, rfl⟩ := Int.eq_ofNat_of_zero_le f0
    obtain ⟨bw, rfl⟩ := word_of b b0 b1
    exact finds_in data _ g bw ao len cap zs w (by omega) (by omega) (by omega) rfl hz hzb hzl
end Go.Proofs.Ythkklnphchajdaa
