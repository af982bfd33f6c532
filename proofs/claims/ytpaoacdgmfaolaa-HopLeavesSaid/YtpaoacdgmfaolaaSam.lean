/- The document: Same. -/
import Derived.Test.YtpaoacdgmfaolaaLsm
import Derived.Test.YtpaoacdgmfaolaaNxt
namespace Go.Proofs.Ytpaoacdgmfaolaa
set_option linter.unusedVariables false
open Go.RowKit


def eqH (a b : Hv) : Bool := decide (a.v = b.v) && (decide (a.f = b.f) && (decide (a.u = b.u) && eqZ a.chs b.chs))
theorem eqH_refl (a : Hv) : eqH a a = true := by simp [eqH, eqZ]
theorem eqZ_len {xs ys : List Int} (h : xs.length ≠ ys.length) : eqZ xs ys = false := decide_eq_false (fun e => h (by rw [e]))
set_option maxRecDepth 20000 in
set_option maxHeartbeats 8000000 in
theorem same_any (v f u : Int) (ca : Option Addr) (cl ck : Nat) (zs : List Int) (v2 f2 u2 : Int) (xa : Option Addr) (xl xc : Nat) (xs : List Int) (w : World) (hz : IntsIn w ca cl zs) (hx : IntsIn w xa xl xs) (hl : cl ≤ 100) :
    Calls Try.prog 24 #[.agg #[.int .i64 v, .int .i64 f, .int .i64 u, .slice ca cl ck], .agg #[.int .i64 v2, .int .i64 f2, .int .i64 u2, .slice xa xl xc]] w fun e w' => e = .returned (.bool (eqH ⟨v, f, u, zs⟩ ⟨v2, f2, u2, xs⟩)) ∧ Fr no w w' := by
  obtain ⟨W, hW⟩ : ∃ W, W = (w.alloc (.cells #[.int .i64 v, .int .i64 f, .int .i64 u, .slice ca cl ck] 24 (0, 0))).alloc (.cells #[.int .i64 v2, .int .i64 f2, .int .i64 u2, .slice xa xl xc] 24 (0, 0)) := ⟨_, rfl⟩
  have hF : Fr no w W := by rw [hW]; exact ((Fr.refl no w).alloc _).alloc _
  have hA : W.heap[w.heap.size]? = some (.cells #[.int .i64 v, .int .i64 f, .int .i64 u, .slice ca cl ck] 24 (0, 0)) := by rw [hW]; exact alloc_keeps (heap_alloc_new w _) _
  have hB : W.heap[w.heap.size + 1]? = some (.cells #[.int .i64 v2, .int .i64 f2, .int .i64 u2, .slice xa xl xc] 24 (0, 0)) := by rw [hW]; simpa using heap_alloc_new (w.alloc (.cells #[.int .i64 v, .int .i64 f, .int .i64 u, .slice ca cl ck] 24 (0, 0))) (.cells #[.int .i64 v2, .int .i64 f2, .int .i64 u2, .slice xa xl xc] 24 (0, 0))
  obtain ⟨a0, a1, a2, a3⟩ := four_cells hA
  obtain ⟨b0, b1, b2, b3⟩ := four_cells hB
  have HF := Lib.hid hF
  have HW := Lib.hid hW
  have HA := Lib.hid hA
  have HB := Lib.hid hB
  have HZ := Lib.hid (hz.kept hF)
  have HX := Lib.hid (hx.kept hF)
  have HZL := Lib.hid hz.1
  have HXL := Lib.hid hx.1
  have HL := Lib.hid hl
  have HR := Lib.hid (show eqH ⟨v, f, u, zs⟩ ⟨v2, f2, u2, xs⟩ = (decide (v = v2) && (decide (f = f2) && (decide (u = u2) && eqZ zs xs))) from rfl)
  have HNL := Lib.hid (show cl ≠ xl → eqZ zs xs = false from fun h => eqZ_len (by have := HZL.out; have := HXL.out; omega))
  clear hz hx hF hA hB hW hl
  by_cases h1 : v = v2
  · by_cases h2 : f = f2
    · by_cases h3 : u = u2
      · by_cases h4 : cl = xl
        · subst h1 h2 h3 h4
          have HR := Lib.hid (show eqH ⟨v, f, u, zs⟩ ⟨v, f, u, xs⟩ = eqZ zs xs by rw [HR.out]; simp)
          clear HNL
          go_enter Try.func24, Try.ntmps24
          go_wp2_with fail
          rw [← HW.out]
          go_wp2_with fail
          clear a0 a1 a2 a3 b0 b1 b2 b3
          go_loopw [5] (fun i wr => ∃ k : Nat, k ≤ cl ∧ i = .int .i64 k ∧ Hid (zs.take k = xs.take k) ∧ Hid (Fr no W wr)) (fun i _ => cl - (intOf i).toNat)
          case atStart => exact ⟨0, Nat.zero_le _, rfl, Lib.hid rfl, Lib.hid (Fr.refl _ _)⟩
          case round =>
            obtain ⟨k, hk, rfl, I, F⟩ := hrel
            obtain ⟨a0, a1, a2, a3⟩ := four_cells (F.out.blk HA.out (fun h => h))
            obtain ⟨b0, b1, b2, b3⟩ := four_cells (F.out.blk HB.out (fun h => h))
            by_cases hlt : k < cl
            · obtain ⟨b, off, rfl, e0⟩ := HZ.out.2 k hlt
              obtain ⟨b', off', rfl, e1⟩ := HX.out.2 k hlt
              have e2 := F.out.keepc e0
              have e3 := F.out.keepc e1
              have hkI : (k : Int) ≤ 99 := by have := HL.out; omega
              have HS := Lib.hid (eq_take zs xs k (by have := HZL.out; have := HXL.out; omega) (by have := HZL.out; omega))
              have HNE := Lib.hid (show zs.take (k + 1) ≠ xs.take (k + 1) → eqZ zs xs = false from fun h => decide_eq_false (fun e => h (by rw [e])))
              clear e0 e1
              generalize zs.getD k 0 = x at *
              generalize xs.getD k 0 = y at *
              by_cases hxy : x = y
              · have HJ := Lib.hid (HS.out.1 ⟨I.out, hxy⟩)
                subst hxy
                go_wp2_with fail
                go_quiet (fail)
                go_wp2_with fail
                go_roundw
                case rel => exact ⟨k + 1, by omega, by go_num, HJ, Lib.hid (F.out.drewN _)⟩
                case measure => simp [intOf]; omega
              · have HV := Lib.hid (HNE.out (fun h => hxy (HS.out.2 h).2))
                have hd : (x == y) = false := by simpa using hxy
                have hd2 : decide (x = y) = false := by simpa using hxy
                have FF := Lib.hid (HF.out.noTrans F.out)
                go_wp2_with fail
                go_quiet (fail)
                go_wp2_with fail
                go_ret
                rw [HR.out, HV.out]
                exact ⟨rfl, FF.out.drewN _⟩
            · have HV := Lib.hid (show eqZ zs xs = true from decide_eq_true (by
                have := I.out
                rwa [List.take_of_length_le (by have := HZL.out; omega), List.take_of_length_le (by have := HXL.out; omega)] at this))
              have FF := Lib.hid (HF.out.noTrans F.out)
              go_wp2_with fail
              go_ret
              rw [HR.out, HV.out]
              exact ⟨rfl, FF.out⟩
        · have HV := Lib.hid (show eqH ⟨v, f, u, zs⟩ ⟨v2, f2, u2, xs⟩ = false by rw [HR.out, HNL.out h4]; simp)
          subst h1 h2 h3
          have hd : (cl == xl) = false := by simpa using h4
          have hd1 : ¬ ((cl : Int) = (xl : Int)) := by omega
          have hd2 : ((cl : Int) == (xl : Int)) = false := by simpa using hd1
          go_enter Try.func24, Try.ntmps24
          go_wp2_with fail
          rw [← HW.out]
          go_wp2_with fail
          go_ret
          rw [HV.out]
          exact ⟨rfl, HF.out⟩
      · have HV := Lib.hid (show eqH ⟨v, f, u, zs⟩ ⟨v2, f2, u2, xs⟩ = false by rw [HR.out, decide_eq_false h3]; simp)
        subst h1 h2
        have hd : (u == u2) = false := by simpa using h3
        have hd2 : decide (u = u2) = false := by simpa using h3
        go_enter Try.func24, Try.ntmps24
        go_wp2_with fail
        rw [← HW.out]
        go_wp2_with fail
        go_ret
        rw [HV.out]
        exact ⟨rfl, HF.out⟩
    · have HV := Lib.hid (show eqH ⟨v, f, u, zs⟩ ⟨v2, f2, u2, xs⟩ = false by rw [HR.out, decide_eq_false h2]; simp)
      subst h1
      have hd : (f == f2) = false := by simpa using h2
      have hd2 : decide (f = f2) = false := by simpa using h2
      go_enter Try.func24, Try.ntmps24
      go_wp2_with fail
      rw [← HW.out]
      go_wp2_with fail
      go_ret
      rw [HV.out]
      exact ⟨rfl, HF.out⟩
  · have HV := Lib.hid (show eqH ⟨v, f, u, zs⟩ ⟨v2, f2, u2, xs⟩ = false by rw [HR.out, decide_eq_false h1]; simp)
    have hd : (v == v2) = false := by simpa using h1
    have hd2 : decide (v = v2) = false := by simpa using h1
    go_enter Try.func24, Try.ntmps24
    go_wp2_with fail
    rw [← HW.out]
    go_wp2_with fail
    go_ret
    rw [HV.out]
    exact ⟨rfl, HF.out⟩

end Go.Proofs.Ytpaoacdgmfaolaa
