/- Small functions of lists. -/
import Derived.Test.YtpaoacdgmfaolaaLis
import Derived.BigQuiet
namespace Go.Proofs.Ytpaoacdgmfaolaa
set_option linter.unusedVariables false
open Go.RowKit


/-- Has a list a number from k on? -/
theorem has_take0 (zs : List Int) (x : Int) : hasZ (zs.take 0) x = false := by simp [hasZ]
theorem has_yes (zs : List Int) (x : Int) (k : Nat) (hk : k < zs.length) (h : zs.getD k 0 = x) : hasZ zs x = true := by
  rw [hasZ_t, ← h, List.getD_eq_getElem?_getD, List.getElem?_eq_getElem hk]
  exact List.getElem_mem hk
set_option maxHeartbeats 2000000 in
theorem index_any (ao : Option Addr) (len cap : Nat) (zs : List Int) (x : Int) (w : World) (hz : IntsIn w ao len zs) (hl : len ≤ 100) :
    Calls Try.prog 52 #[.slice ao len cap, .int .i64 x] w fun e w' => (∃ n : Int, e = .returned (.int .i64 n) ∧ decide (0 ≤ n) = hasZ zs x) ∧ w' = w := by
  have HZL := Lib.hid hz.1
  have HL := Lib.hid hl
  have HZ := Lib.hid hz
  clear hz hl
  obtain ⟨w9, hw9⟩ : ∃ w9, w9 = w := ⟨_, rfl⟩
  go_enter Try.func52, Try.ntmps52
  go_wp2_with fail
  go_loopw [5, 8] (fun _ i wr => ∃ k : Nat, k ≤ len ∧ i = .int .i64 k ∧ Hid (hasZ (zs.take k) x = false) ∧ wr = w9) (fun _ i _ => len - (intOf i).toNat)
  case atStart => exact ⟨0, Nat.zero_le _, rfl, Lib.hid (has_take0 zs x), hw9.symm⟩
  case round =>
    obtain ⟨k, hk, rfl, I, rfl⟩ := hrel
    subst hw9
    by_cases hlt : k < len
    · obtain ⟨b, off, rfl, e0⟩ := HZ.out.2 k hlt
      have hkI : (k : Int) ≤ 99 := by have := HL.out; omega
      have HS := Lib.hid (hasZ_snoc zs k (by have := HZL.out; omega) x)
      have HY := Lib.hid (fun h => has_yes zs x k (by have := HZL.out; omega) h)
      generalize zs.getD k 0 = z at *
      by_cases hx : x = z
      · have HV := Lib.hid (HY.out hx.symm)
        have h0 : (0 : Int) ≤ (k : Int) := by omega
        subst hx
        go_wp2_with fail
        go_ret
        exact ⟨⟨_, rfl, by rw [HV.out]; simp⟩, rfl⟩
      · have hd : (x == z) = false := by simpa using hx
        have HJ := Lib.hid (show hasZ (zs.take (k + 1)) x = false by rw [HS.out, I.out]; simpa using fun h => hx h.symm)
        go_wp2_with fail
        go_roundw
        case rel => exact ⟨k + 1, by omega, by go_num, HJ, by simp⟩
        case measure => simp [intOf]; omega
    · have HV := Lib.hid (show hasZ zs x = false by rw [← I.out, List.take_of_length_le (by have := HZL.out; omega)])
      go_wp2_with fail
      go_ret
      exact ⟨⟨_, rfl, by rw [HV.out]; rfl⟩, rfl⟩
theorem contains_any (ao : Option Addr) (len cap : Nat) (zs : List Int) (x : Int) (w : World) (hz : IntsIn w ao len zs) (hl : len ≤ 100) :
    Calls Try.prog 31 #[.slice ao len cap, .int .i64 x] w fun e w' => e = .returned (.bool (hasZ zs x)) ∧ w' = w := by
  have HI := Lib.hid (index_any ao len cap zs x w hz hl)
  clear hz hl
  go_enter Try.func31, Try.ntmps31
  go_wp2_with fail
  refine HI.out.mono ?_
  rintro e w1 ⟨⟨n, rfl, hn⟩, rfl⟩
  have HN := Lib.hid hn
  clear hn
  go_wp2_with fail
  go_ret
  rw [← HN.out]
  exact ⟨rfl, rfl⟩
set_option maxHeartbeats 2000000 in
theorem hasR_any (ao : Option Addr) (len cap : Nat) (zs : List Int) (x : Int) (w : World) (hz : IntsIn w ao len zs) (hl : len ≤ 100) :
    Calls Try.prog 50 #[.slice ao len cap, .int .i64 x] w fun e w' => e = .returned (.bool (hasZ zs x)) ∧ w' = w := by
  have HZL := Lib.hid hz.1
  have HL := Lib.hid hl
  have HZ := Lib.hid hz
  clear hz hl
  obtain ⟨w9, hw9⟩ : ∃ w9, w9 = w := ⟨_, rfl⟩
  go_enter Try.func50, Try.ntmps50
  go_wp2_with fail
  go_loopw [5] (fun i wr => ∃ k : Nat, k ≤ len ∧ i = .int .i64 k ∧ Hid (hasZ (zs.take k) x = false) ∧ wr = w9) (fun i _ => len - (intOf i).toNat)
  case atStart => exact ⟨0, Nat.zero_le _, rfl, Lib.hid (has_take0 zs x), hw9.symm⟩
  case round =>
    obtain ⟨k, hk, rfl, I, rfl⟩ := hrel
    subst hw9
    by_cases hlt : k < len
    · obtain ⟨b, off, rfl, e0⟩ := HZ.out.2 k hlt
      have hkI : (k : Int) ≤ 99 := by have := HL.out; omega
      have HS := Lib.hid (hasZ_snoc zs k (by have := HZL.out; omega) x)
      have HY := Lib.hid (fun h => has_yes zs x k (by have := HZL.out; omega) h)
      generalize zs.getD k 0 = z at *
      by_cases hx : z = x
      · have HV := Lib.hid (HY.out hx)
        subst hx
        go_wp2_with fail
        go_ret
        rw [HV.out]
        exact ⟨rfl, rfl⟩
      · have hd : (z == x) = false := by simpa using hx
        have HJ := Lib.hid (show hasZ (zs.take (k + 1)) x = false by rw [HS.out, I.out]; simpa using hx)
        go_wp2_with fail
        go_roundw
        case rel => exact ⟨k + 1, by omega, by go_num, HJ, by simp⟩
        case measure => simp [intOf]; omega
    · have HV := Lib.hid (show hasZ zs x = false by rw [← I.out, List.take_of_length_le (by have := HZL.out; omega)])
      go_wp2_with fail
      go_ret
      rw [HV.out]
      exact ⟨rfl, rfl⟩
def eqZ (xs ys : List Int) : Bool := decide (xs = ys)
theorem eq_take (xs ys : List Int) (k : Nat) (h : xs.length = ys.length) (hk : k < xs.length) : (xs.take k = ys.take k ∧ xs.getD k 0 = ys.getD k 0) ↔ xs.take (k + 1) = ys.take (k + 1) := by
  rw [take_snoc xs k hk, take_snoc ys k (by omega)]
  constructor
  · rintro ⟨h1, h2⟩; rw [h1, h2]
  · intro h1
    have := List.append_inj h1 (by simp [h])
    exact ⟨this.1, by simpa using this.2⟩
set_option maxHeartbeats 2000000 in
theorem equal_any (ao : Option Addr) (al ac : Nat) (xs : List Int) (bo : Option Addr) (bl bc : Nat) (ys : List Int) (w : World) (hx : IntsIn w ao al xs) (hy : IntsIn w bo bl ys) (hl : al ≤ 100) :
    Calls Try.prog 30 #[.slice ao al ac, .slice bo bl bc] w fun e w' => e = .returned (.bool (eqZ xs ys)) ∧ Fr no w w' := by
  have HXL := Lib.hid hx.1
  have HYL := Lib.hid hy.1
  have HL := Lib.hid hl
  have HX := Lib.hid hx
  have HY := Lib.hid hy
  clear hx hy hl
  by_cases hlen : al = bl
  · subst hlen
    go_enter Try.func30, Try.ntmps30
    go_wp2_with fail
    go_loopw [5, 13] (fun _ i wr => ∃ k : Nat, k ≤ al ∧ i = .int .i64 k ∧ Hid (xs.take k = ys.take k) ∧ Hid (Fr no w wr)) (fun _ i _ => al - (intOf i).toNat)
    case atStart => exact ⟨0, Nat.zero_le _, rfl, Lib.hid rfl, Lib.hid (Fr.refl _ _)⟩
    case round =>
      obtain ⟨k, hk, rfl, I, F⟩ := hrel
      by_cases hlt : k < al
      · obtain ⟨b, off, rfl, e0⟩ := HX.out.2 k hlt
        obtain ⟨b', off', rfl, e1⟩ := HY.out.2 k hlt
        have e2 := F.out.keepc e0
        have e3 := F.out.keepc e1
        have hkI : (k : Int) ≤ 99 := by have := HL.out; omega
        have HS := Lib.hid (eq_take xs ys k (by have := HXL.out; have := HYL.out; omega) (by have := HXL.out; omega))
        have HNE := Lib.hid (show xs.take (k + 1) ≠ ys.take (k + 1) → eqZ xs ys = false from fun h => decide_eq_false (fun e => h (by rw [e])))
        clear e0 e1
        generalize xs.getD k 0 = x at *
        generalize ys.getD k 0 = y at *
        by_cases hxy : x = y
        · have HJ := Lib.hid (HS.out.1 ⟨I.out, hxy⟩)
          subst hxy
          go_wp2_with fail
          go_quiet (fail)
          go_wp2_with fail
          go_roundw
          case rel => exact ⟨k + 1, by omega, by go_num, HJ, Lib.hid (F.out.drewN _)⟩
          case measure => simp [intOf]; omega
        · have HV := Lib.hid (HNE.out (fun h => hxy (HS.out.2 h).2))
          have hd : (x == y) = false := by simpa using hxy
          have hd2 : decide (x = y) = false := by simpa using hxy
          go_wp2_with fail
          go_quiet (fail)
          go_wp2_with fail
          go_ret
          rw [HV.out]
          exact ⟨rfl, F.out.drewN _⟩
      · have HV := Lib.hid (show eqZ xs ys = true from decide_eq_true (by
          have := I.out
          rwa [List.take_of_length_le (by have := HXL.out; omega), List.take_of_length_le (by have := HYL.out; omega)] at this))
        go_wp2_with fail
        go_ret
        rw [HV.out]
        exact ⟨rfl, F.out⟩
  · have HV := Lib.hid (show eqZ xs ys = false from decide_eq_false (fun e => hlen (by have := HXL.out; have := HYL.out; rw [e] at *; omega)))
    have hd : (al == bl) = false := by simpa using hlen
    have hd1 : ¬ ((al : Int) = (bl : Int)) := by omega
    have hd2 : ((al : Int) == (bl : Int)) = false := by simpa using hd1
    go_enter Try.func30, Try.ntmps30
    go_wp2_with fail
    go_ret
    rw [HV.out]
    exact ⟨rfl, Fr.refl _ _⟩

end Go.Proofs.Ytpaoacdgmfaolaa
