/- Decibels, and that of the document. -/
import Derived.Test.YtkbdjpdpcbeciaaDoorLev
import Derived.Deep.RegionHeld3
namespace Go.Proofs.YtkbdjpdpcbeciaaDoor
open Go.RowKit

theorem lvl_step_all : ((List.range 108).all fun n => decide (lvl n ≤ lvl (n + 1))) = true := by kernel_rfl
theorem lvl_step (n : Nat) (h : n < 108) : lvl n ≤ lvl (n + 1) := by
  have := lvl_step_all
  rw [List.all_eq_true] at this
  exact of_decide_eq_true (this n (List.mem_range.2 h))
theorem lvl_mono (a b : Nat) (h : a ≤ b) (hb : b ≤ 108) : lvl a ≤ lvl b := by
  induction b with
  | zero => rw [Nat.le_zero.1 h]; exact Nat.le_refl _
  | succ b ih =>
    by_cases e : a = b + 1
    · rw [e]; exact Nat.le_refl _
    · exact Nat.le_trans (ih (by omega) (by omega)) (lvl_step b (by omega))
theorem lvl_zero : lvl 0 = 1 := by decide
/-- d is the greatest number of decibels whose power is at most p. -/
structure DbS (p : Int) (d : Nat) : Prop where
  le : d ≤ 108
  low : (lvl d : Nat) ≤ p
  high : d < 108 → p < (lvl (d + 1) : Nat)
theorem DbS.unique {p : Int} {d e : Nat} (h : DbS p d) (k : DbS p e) : d = e := by
  rcases Nat.lt_trichotomy d e with hl | hl | hl
  · have := lvl_mono (d + 1) e (by omega) k.le
    have := h.high (by have := k.le; omega)
    have := k.low
    omega
  · exact hl
  · have := lvl_mono (e + 1) d (by omega) h.le
    have := k.high (by have := h.le; omega)
    have := h.low
    omega
open Classical in
noncomputable def db (p : Int) : Nat := if h : ∃ d, DbS p d then h.choose else 0
theorem DbS.db {p : Int} {d : Nat} (h : DbS p d) : db p = d := by
  have hx : ∃ d, DbS p d := ⟨d, h⟩
  rw [YtkbdjpdpcbeciaaDoor.db, dif_pos hx]
  exact hx.choose_spec.unique h
noncomputable def dbV (p : Int) : Int := if inR p 1 MX = true then (db p : Nat) else 0
def dbE (p : Int) : Int := if inR p 1 MX = true then 0 else 2

set_option maxHeartbeats 1000000 in
theorem above_any (B i : Nat) (p : Int) (w : World) (hi : i ≤ 108) (hc : w.cell? ⟨B, 0, none⟩ = some (.int .i64 p)) (hd : Dec w) :
    Calls Tryd.prog 35 #[.int .i64 i, .pointer (some ⟨B, 0, none⟩)] w fun e w' => e = .returned (.bool (decide (p < (lvl i : Nat)))) ∧ w' = w.drew := by
  have HD := Lib.hid hd
  clear hd
  go_enter Tryd.func35, Tryd.ntmps35
  go_wp2_with fail
  go_region_held3 (fun w' => w'.cell? ⟨B, 0, none⟩ = some (.int .i64 p)) (go_keep) (first | (go_at_call 33; refine (level_any i hi _ (HD.out.kept ((Fr.refl no w).drew) (fun h => h))).mono ?_; rintro e w' ⟨rfl, rfl⟩))
  go_wp2_with fail
  go_ret
  exact ⟨rfl, rfl⟩
theorem Fr.drewN {S : Nat → Prop} {a w : World} (h : Fr S a w) (n : Nat) : Fr S a (w.drewN n) := ⟨h.os, h.tape, h.output, h.size, h.block⟩
set_option maxHeartbeats 2000000 in
theorem search_any (B : Nat) (p : Int) (w : World) (hc : w.cell? ⟨B, 0, none⟩ = some (.int .i64 p)) (hd : Dec w) :
    Calls Tryd.prog 34 #[.int .i64 109, .func (.func 35) #[] #[.pointer (some ⟨B, 0, none⟩)]] w fun e w' => (∃ a : Nat, e = .returned (.int .i64 a) ∧ a ≤ 109 ∧ (a = 0 ∨ (lvl (a - 1) : Nat) ≤ p) ∧ (a = 109 ∨ p < (lvl a : Nat))) ∧ ∃ n, w' = w.drewN n := by
  have HC := Lib.hid hc
  have HD := Lib.hid hd
  clear hc hd
  go_enter Tryd.func34, Tryd.ntmps34
  go_wp2_with fail
  go_loopw [5, 6, 7] (fun i j _ wr => ∃ a b : Nat, i = .int .i64 a ∧ j = .int .i64 b ∧ a ≤ b ∧ b ≤ 109 ∧ (a = 0 ∨ (lvl (a - 1) : Nat) ≤ p) ∧ (b = 109 ∨ p < (lvl b : Nat)) ∧ ∃ n, wr = w.drewN n) (fun i j _ _ => (intOf j - intOf i).toNat)
  case atStart => exact ⟨0, 109, rfl, rfl, by decide, by decide, .inl rfl, .inl rfl, 0, rfl⟩
  case round =>
    obtain ⟨a, b, rfl, rfl, hab, hb, hlo, hhi, n, rfl⟩ := hrel
    have HLO := Lib.hid hlo
    have HHI := Lib.hid hhi
    clear hlo hhi
    by_cases hlt : a < b
    · obtain ⟨m, hm⟩ : ∃ m, m = (a + b) / 2 := ⟨_, rfl⟩
      have hm1 : ((a : Int) + (b : Int)) / 2 = (m : Int) := by omega
      have HM := Lib.hid (show a ≤ m ∧ m < b by omega)
      have HA := Lib.hid (above_any B m p (w.drewN n) (by omega) (by simpa using HC.out) (HD.out.kept ((Fr.refl no w).drewN n) (fun h => h)))
      clear hm
      have hbI : (b : Int) ≤ 109 := by omega
      go_wp2_with fail
      refine HA.out.mono ?_
      rintro e w' ⟨rfl, rfl⟩
      by_cases hp : p < (lvl m : Nat)
      · have hp2 := decide_eq_true hp
        rw [hp2]
        go_wp2_with fail
        go_roundw
        case rel => exact ⟨a, m, rfl, rfl, HM.out.1, by have := HM.out.2; omega, HLO.out, .inr hp, n + 1, rfl⟩
        case measure => simp [intOf]; have := HM.out; omega
      · have hp2 := decide_eq_false hp
        rw [hp2]
        go_wp2_with fail
        go_roundw
        case rel => exact ⟨m + 1, b, by go_num, rfl, HM.out.2, hb, .inr (by show (lvl (m + 1 - 1) : Int) ≤ p; rw [Nat.add_sub_cancel]; omega), HHI.out, n + 1, rfl⟩
        case measure => simp [intOf]; have := HM.out; omega
    · obtain rfl : a = b := by omega
      go_wp2_with fail
      go_ret
      exact ⟨⟨a, rfl, hb, HLO.out, HHI.out⟩, n, rfl⟩
set_option maxHeartbeats 1000000 in
theorem decibels_any (p : Int) (w : World) (hd : Dec w) :
    Calls Tryd.prog 14 #[.int .i64 p] w fun e w' => e = .returned (.tuple #[.int .i64 (dbV p), .int .i64 (dbE p)]) ∧ Fr no w w' := by
  have hc : (w.alloc (.cells #[.int .i64 p] 3 (0, 0))).cell? ⟨w.heap.size, 0, none⟩ = some (.int .i64 p) := by
    simp only [World.cell?, heap_alloc_new w _]
    rfl
  have HF := Lib.hid ((Fr.refl no w).alloc (.cells #[.int .i64 p] 3 (0, 0)))
  have HW := within_any p 1 68719476736 (w.alloc (.cells #[.int .i64 p] 3 (0, 0)))
  have HS := Lib.hid (search_any w.heap.size p _ hc (hd.kept HF.out (fun h => h)))
  have hmf : ∀ (fn : Fn) (first cap : Array Value) (w : World), (Instr.makeFunc fn first cap).run Tryd.prog w = .ok (.func fn first cap) w := fun _ _ _ _ => rfl
  cases h : inR p 1 68719476736
  · rw [h] at HW
    have HW := Lib.hid HW
    have HV := Lib.hid (show dbV p = 0 by simp [dbV, MX, h])
    have HE := Lib.hid (show dbE p = 2 by simp [dbE, MX, h])
    clear h hd
    go_enter Tryd.func14, Tryd.ntmps14
    go_wp2_with fail
    refine HW.out.mono ?_
    rintro e w' ⟨rfl, rfl⟩
    go_wp2_with fail
    go_ret2
    rw [HV.out, HE.out]
    exact ⟨rfl, HF.out⟩
  · rw [h] at HW
    have HW := Lib.hid HW
    obtain ⟨h0, h1⟩ := inR_t.1 h
    have HV := Lib.hid (show dbV p = (db p : Nat) by simp [dbV, MX, h])
    have HE := Lib.hid (show dbE p = 0 by simp [dbE, MX, h])
    clear h hd
    go_enter Tryd.func14, Tryd.ntmps14
    go_wp2_with fail
    refine HW.out.mono ?_
    rintro e w' ⟨rfl, rfl⟩
    go_wp2_with fail
    refine HS.out.mono ?_
    rintro e w' ⟨⟨a, rfl, ha, hlo, hhi⟩, n, rfl⟩
    have ha1 : 1 ≤ a := by
      rcases Nat.eq_zero_or_pos a with h | h
      · subst h
        rcases hhi with h | h
        · omega
        · rw [lvl_zero] at h; omega
      · exact h
    have hdb : DbS p (a - 1) := ⟨by omega, by rcases hlo with h | h; omega; exact h, fun h => by rcases hhi with h2 | h2; omega; rwa [Nat.sub_add_cancel ha1]⟩
    have HDB := Lib.hid hdb.db
    have HA := Lib.hid (show (a : Int) - 1 = ((a - 1 : Nat) : Int) by omega)
    have ha2 : (a : Int) ≤ 109 := by omega
    clear hlo hhi hdb ha ha1
    go_wp2_with fail
    go_ret2
    rw [HV.out, HE.out, HDB.out, ← HA.out]
    exact ⟨rfl, HF.out.drewN n⟩
set_option maxHeartbeats 1000000 in
theorem decibelsR_bad (p : Int) (w : World) (h : inR p 1 68719476736 = false) :
    Calls Tryd.prog 15 #[.int .i64 p] w fun e w' => e = .returned (.tuple #[.int .i64 (dbV p), .int .i64 (dbE p)]) ∧ Fr no w w' := by
  have HV := Lib.hid (show dbV p = 0 by simp [dbV, MX, h])
  have HE := Lib.hid (show dbE p = 2 by simp [dbE, MX, h])
  by_cases h0 : p < 1
  · clear h
    go_enter Tryd.func15, Tryd.ntmps15
    go_wp2_with fail
    go_ret2
    rw [HV.out, HE.out]
    exact ⟨rfl, Fr.refl _ _⟩
  · have h1 : 68719476736 < p := by simp [inR] at h; omega
    clear h
    go_enter Tryd.func15, Tryd.ntmps15
    go_wp2_with fail
    go_ret2
    rw [HV.out, HE.out]
    exact ⟨rfl, Fr.refl _ _⟩
set_option maxHeartbeats 2000000 in
theorem decibelsR_good (p : Int) (w : World) (h0 : 1 ≤ p) (h1 : p ≤ 68719476736) :
    Calls Tryd.prog 15 #[.int .i64 p] w fun e w' => e = .returned (.tuple #[.int .i64 (db p : Nat), .int .i64 0]) ∧ Fr no w w' := by
  go_enter Tryd.func15, Tryd.ntmps15
  go_wp2_with fail
  go_loopw [4] (fun i wr => ∃ k : Nat, k ≤ 108 ∧ i = .int .i64 k ∧ (lvl k : Nat) ≤ p ∧ Fr no w wr) (fun i _ => (108 - intOf i).toNat)
  case atStart => exact ⟨0, by decide, rfl, by rw [lvl_zero]; exact h0, Fr.refl _ _⟩
  case round =>
    obtain ⟨k, hk, rfl, hlo, hf⟩ := hrel
    have HF := Lib.hid hf
    have HLO := Lib.hid hlo
    clear hf hlo
    by_cases hlt : k < 108
    · have HL := levelR_any ((k : Int) + 1) wr
      rw [show lvV ((k : Int) + 1) = (lvl (k + 1) : Nat) by rw [lvV, if_pos (inR_t.2 ⟨by omega, by omega⟩)]; rfl, show lvE ((k : Int) + 1) = 0 by rw [lvE, if_pos (inR_t.2 ⟨by omega, by omega⟩)]] at HL
      have HL := Lib.hid HL
      have hkI : (k : Int) ≤ 107 := by omega
      have HK := Lib.hid hlt
      clear hlt hk
      by_cases hp : p < (lvl (k + 1) : Nat)
      · have HDB := Lib.hid (DbS.db (p := p) (d := k) ⟨by have := HK.out; omega, HLO.out, fun _ => hp⟩)
        obtain ⟨L, hL⟩ : ∃ L : Int, L = (lvl (k + 1) : Nat) := ⟨_, rfl⟩
        rw [← hL] at HL hp
        clear hL
        go_wp2_with fail
        refine HL.out.mono ?_
        rintro e w1 ⟨rfl, f1⟩
        have HF1 := Lib.hid (HF.out.noTrans f1)
        clear f1
        go_wp2_with fail
        go_ret2
        rw [HDB.out]
        exact ⟨rfl, HF1.out⟩
      · have HP := Lib.hid (show ((lvl (k + 1) : Nat) : Int) ≤ p by omega)
        obtain ⟨L, hL⟩ : ∃ L : Int, L = (lvl (k + 1) : Nat) := ⟨_, rfl⟩
        rw [← hL] at HL hp
        clear hL
        go_wp2_with fail
        refine HL.out.mono ?_
        rintro e w1 ⟨rfl, f1⟩
        have HF1 := Lib.hid (HF.out.noTrans f1)
        clear f1
        go_wp2_with fail
        go_roundw
        case rel => exact ⟨k + 1, by have := HK.out; omega, by go_num, HP.out, HF1.out⟩
        case measure => simp [intOf]; omega
    · obtain rfl : k = 108 := by omega
      have HDB := Lib.hid (DbS.db (p := p) (d := 108) ⟨Nat.le_refl _, HLO.out, fun h => absurd h (by decide)⟩)
      go_wp2_with fail
      go_ret2
      rw [HDB.out]
      exact ⟨rfl, HF.out⟩
theorem decibelsR_any (p : Int) (w : World) :
    Calls Tryd.prog 15 #[.int .i64 p] w fun e w' => e = .returned (.tuple #[.int .i64 (dbV p), .int .i64 (dbE p)]) ∧ Fr no w w' := by
  cases h : inR p 1 68719476736
  · exact decibelsR_bad p w h
  · obtain ⟨h0, h1⟩ := inR_t.1 h
    rw [show dbV p = (db p : Nat) by simp [dbV, MX, h], show dbE p = 0 by simp [dbE, MX, h]]
    exact decibelsR_good p w h0 h1
end Go.Proofs.YtkbdjpdpcbeciaaDoor
