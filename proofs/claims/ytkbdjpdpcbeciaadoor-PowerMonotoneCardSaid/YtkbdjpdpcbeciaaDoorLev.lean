/- The power of decibels: level, Level, and that of the document. -/
import Derived.Test.YtkbdjpdpcbeciaaDoorRng
import Derived.Deep.WholeRow
import Derived.StillTailTactics
import Derived.BigQuiet
namespace Go.Proofs.YtkbdjpdpcbeciaaDoor
open Go.RowKit

def decL : List Nat := [1000, 1259, 1585, 1995, 2512, 3162, 3981, 5012, 6310, 7943]
def dec (i : Nat) : Nat := decL.getD i 0
/-- The table of the package. -/
structure Dec (w : World) : Prop where
  cell : ∀ i, i < 10 → w.cell? ⟨0, i, none⟩ = some (.int .i64 (dec i : Nat))
theorem Dec.size {w : World} (h : Dec w) : 0 < w.heap.size := World.block_lt_of_cell? w _ (h.cell 0 (by decide))
theorem Dec.kept {w w' : World} {S : Nat → Prop} (h : Dec w) (hf : Fr S w w') (h0 : ¬ S 0) : Dec w' :=
  ⟨fun i hi => (hf.cell (p := ⟨0, i, none⟩) h.size h0).trans (h.cell i hi)⟩
theorem dec_le (i : Nat) : dec i ≤ 7943 := by
  unfold dec
  rw [List.getD_eq_getElem?_getD]
  by_cases h : i < 10
  · have : ∀ j : Fin 10, (decL[j.val]?).getD 0 ≤ 7943 := by decide
    exact this ⟨i, h⟩
  · rw [List.getElem?_eq_none (by simpa [decL] using h)]; decide
theorem w64 (x : Int) (h1 : -9223372036854775808 ≤ x) (h2 : x ≤ 9223372036854775807) : wrap64 x = x := by unfold wrap64; omega
/-- The power of n decibels. -/
def lvl (n : Nat) : Nat := dec (n % 10) * 10 ^ (n / 10) / 1000
theorem p10 (k : Nat) (h : k ≤ 10) : 10 ^ k ≤ 10000000000 := Nat.pow_le_pow_right (by decide) h
theorem dec_pow (d k : Nat) (hd : d ≤ 7943) (h : k ≤ 10) : d * 10 ^ k ≤ 79430000000000 := Nat.mul_le_mul hd (p10 k h)
theorem level_loop (d k : Nat) : d * 10 ^ (k + 1) = d * 10 ^ k * 10 := by rw [Nat.pow_succ, Nat.mul_assoc]
set_option maxHeartbeats 1000000 in
theorem level_any (n : Nat) (hn : n ≤ 108) (w : World) (hd : Dec w) : Calls Tryd.prog 33 #[.int .i64 n] w fun e w' => e = .returned (.int .i64 (lvl n : Nat)) ∧ w' = w := by
  obtain ⟨r, hr⟩ : ∃ r, r = n % 10 := ⟨_, rfl⟩
  obtain ⟨q, hq⟩ : ∃ q, q = n / 10 := ⟨_, rfl⟩
  have HV := Lib.hid (show lvl n = dec r * 10 ^ q / 1000 by rw [lvl, hr, hq])
  have hc := hd.cell r (by omega)
  have hr' : (n : Int) % 10 = (r : Int) := by omega
  have hq' : (n : Int) / 10 = (q : Int) := by omega
  have hr1 : (r : Int) < 10 := by omega
  have hr0 : (0 : Int) ≤ r := by omega
  have HQ := Lib.hid (show q ≤ 10 by omega)
  have HD := Lib.hid (dec_le r)
  have hq10 : (q : Int) ≤ 10 := by omega
  have hwq : wrap64 (q : Int) = (q : Int) := w64 _ (by omega) (by omega)
  clear hr hq hn hd
  generalize dec r = d at *
  go_enter Tryd.func33, Tryd.ntmps33
  go_wp2_with fail
  go_loopw [3, 10] (fun x i wr => ∃ k : Nat, k ≤ q ∧ i = .int .i64 k ∧ x = .int .i64 (d * 10 ^ k : Nat) ∧ wr = w) (fun x i _ => q - (intOf i).toNat)
  case atStart => exact ⟨0, Nat.zero_le _, rfl, by simp, rfl⟩
  case round =>
    obtain ⟨k, hk, rfl, rfl, rfl⟩ := hrel
    obtain ⟨X, hX⟩ : ∃ X, X = d * 10 ^ k := ⟨_, rfl⟩
    rw [← hX]
    by_cases hlt : k < q
    · have hb := dec_pow d (k + 1) HD.out (by have := HQ.out; omega)
      rw [level_loop, ← hX] at hb
      have hw : IntKind.i64.wrap ((X : Int) * (10 : Int)) = (X : Int) * (10 : Int) := IntWalk.i64_in _ (by omega)
      have HX := Lib.hid (show ((d * 10 ^ (k + 1) : Nat) : Int) = (X : Int) * (10 : Int) by rw [level_loop, ← hX]; omega)
      clear hX hb
      go_wp2_with fail
      go_roundw
      case rel => exact ⟨k + 1, by omega, by go_num, by rw [HX.out], trivial⟩
      case measure => simp [intOf]; omega
    · obtain rfl : k = q := by omega
      have hb := dec_pow d k HD.out HQ.out
      rw [← hX] at hb
      have HW := Lib.hid (show wrap64 ((X : Int) / (1000 : Int)) = (X : Int) / (1000 : Int) from w64 _ (by omega) (by omega))
      have HX := Lib.hid (show ((lvl n : Nat) : Int) = (X : Int) / (1000 : Int) by rw [HV.out, ← hX]; omega)
      clear hX hb
      go_wp2_with fail
      go_ret
      rw [HX.out]
      refine ⟨?_, rfl⟩
      exact congrArg (fun z => Ending.returned (.int .i64 z)) HW.out
/-- What Level returns. -/
def lvV (n : Int) : Int := if inR n 0 108 = true then (lvl n.toNat : Nat) else 0
def lvE (n : Int) : Int := if inR n 0 108 = true then 0 else 2
theorem levelP_any (n : Int) (w : World) (hd : Dec w) : Calls Tryd.prog 12 #[.int .i64 n] w fun e w' => e = .returned (.tuple #[.int .i64 (lvV n), .int .i64 (lvE n)]) ∧ w' = w := by
  have HI := within_any n 0 108 w
  cases h : inR n 0 108
  · rw [h] at HI
    have HI := Lib.hid HI
    have HV := Lib.hid (show lvV n = 0 by simp [lvV, h])
    have HE := Lib.hid (show lvE n = 2 by simp [lvE, h])
    clear h hd
    go_enter Tryd.func12, Tryd.ntmps12
    go_wp2_with fail
    refine HI.out.mono ?_
    rintro e w' ⟨rfl, rfl⟩
    go_wp2_with fail
    go_ret2
    rw [HV.out, HE.out]
    exact ⟨rfl, rfl⟩
  · rw [h] at HI
    obtain ⟨h0, h1⟩ := inR_t.1 h
    obtain ⟨m, rfl⟩ := Int.eq_ofNat_of_zero_le h0
    have HI := Lib.hid HI
    have HV := Lib.hid (show lvV (m : Int) = (lvl m : Nat) by simp [lvV, h])
    have HE := Lib.hid (show lvE (m : Int) = 0 by simp [lvE, h])
    have HL := Lib.hid (level_any m (by omega) w hd)
    clear h hd
    go_enter Tryd.func12, Tryd.ntmps12
    go_wp2_with fail
    refine HI.out.mono ?_
    rintro e w' ⟨rfl, rfl⟩
    go_wp2_with fail
    refine HL.out.mono ?_
    rintro e w' ⟨rfl, rfl⟩
    go_wp2_with fail
    go_ret2
    rw [HV.out, HE.out]
    exact ⟨rfl, rfl⟩
def no (_ : Nat) : Prop := False
theorem Fr.noTrans {a b c : World} (h : Fr no a b) (k : Fr no b c) : Fr no a c := h.trans k (fun _ _ h => h)
def decV : Array Value := #[.int .i64 1000, .int .i64 1259, .int .i64 1585, .int .i64 1995, .int .i64 2512, .int .i64 3162, .int .i64 3981, .int .i64 5012, .int .i64 6310, .int .i64 7943]
theorem decV_get (r : Nat) (h : r < 10) : decV[r]? = some (.int .i64 (dec r : Nat)) := by
  have : r = 0 ∨ r = 1 ∨ r = 2 ∨ r = 3 ∨ r = 4 ∨ r = 5 ∨ r = 6 ∨ r = 7 ∨ r = 8 ∨ r = 9 := by omega
  rcases this with rfl | rfl | rfl | rfl | rfl | rfl | rfl | rfl | rfl | rfl <;> rfl
theorem levelR_bad (n : Int) (w : World) (h : inR n 0 108 = false) : Calls Tryd.prog 13 #[.int .i64 n] w fun e w' => e = .returned (.tuple #[.int .i64 (lvV n), .int .i64 (lvE n)]) ∧ Fr no w w' := by
  have HV := Lib.hid (show lvV n = 0 by simp [lvV, h])
  have HE := Lib.hid (show lvE n = 2 by simp [lvE, h])
  by_cases h0 : n < 0
  · clear h
    go_enter Tryd.func13, Tryd.ntmps13
    go_wp2_with fail
    go_ret2
    rw [HV.out, HE.out]
    exact ⟨rfl, Fr.refl _ _⟩
  · have h1 : 108 < n := by simp [inR] at h; omega
    clear h
    go_enter Tryd.func13, Tryd.ntmps13
    go_wp2_with fail
    go_ret2
    rw [HV.out, HE.out]
    exact ⟨rfl, Fr.refl _ _⟩
theorem wpList_store_new {P : Program} {ops : Array Oper} {rest : List Oper} {op : Oper} {a : Act} {w : World} {Q : Exit → Act → World → Prop} (hgd : op.guard = none) (ty : TypeId) (x y : Operand) (ho : op.op = .store ty x y)
    (c cells : Array Value) (hx : a.eval x = .pointer (some ⟨w.heap.size, 0, none⟩)) (hy : a.eval y = .agg cells)
    (hi : (P.info? ty).map (·.size) = some cells.size) (hs : c.size = cells.size) (h1 : cells.all (·.oneCell') = true)
    (h : wpList P ops Q rest (a.put op.dst undef) (w.alloc (.cells cells ty (0, 0)))) : wpList P ops Q (op :: rest) a (w.alloc (.cells c ty (0, 0))) :=
  wpList_plain hgd fun K hK => by
    unfold Oper.wp execOp
    simp only [ho, hx, hy, run_storeAt_new w ty c cells hi hs h1, Result.andThen_ok, Sem.run_bind, Sem.run_pure]
    exact hK _ _ h
set_option maxHeartbeats 2000000 in
set_option maxRecDepth 20000 in
theorem levelR_good (n : Nat) (z : Int) (hz : z = n) (hn : n ≤ 108) (w : World) : Calls Tryd.prog 13 #[.int .i64 z] w fun e w' => e = .returned (.tuple #[.int .i64 (lvl n : Nat), .int .i64 0]) ∧ Fr no w w' := by
  obtain ⟨r, hr⟩ : ∃ r, r = n % 10 := ⟨_, rfl⟩
  obtain ⟨q, hq⟩ : ∃ q, q = n / 10 := ⟨_, rfl⟩
  have HV := Lib.hid (show lvl n = dec r * 10 ^ q / 1000 by rw [lvl, hr, hq])
  have hcell : (w.alloc (.cells decV 48 (0, 0))).cell? ⟨w.heap.size, r, none⟩ = some (.int .i64 (dec r : Nat)) := by
    simp only [World.cell?, heap_alloc_new w _]
    exact decV_get r (by omega)
  have hr' : z % 10 = (r : Int) := by omega
  have hq' : z / 10 = (q : Int) := by omega
  have hr1 : (r : Int) < 10 := by omega
  have hr0 : (0 : Int) ≤ r := by omega
  have hn1 : z ≤ 108 := by omega
  have hn0 : 0 ≤ z := by omega
  have HQ := Lib.hid (show q ≤ 10 by omega)
  have HD := Lib.hid (dec_le r)
  have hq10 : (q : Int) ≤ 10 := by omega
  have hwq : wrap64 (q : Int) = (q : Int) := w64 _ (by omega) (by omega)
  have hsz : (#[Value.int IntKind.i64 0, .int .i64 0, .int .i64 0, .int .i64 0, .int .i64 0, .int .i64 0, .int .i64 0, .int .i64 0, .int .i64 0, .int .i64 0] : Array Value).size = decV.size := rfl
  have hi2 : (Tryd.prog.info? 48).map (·.size) = some decV.size := by kernel_rfl
  have h1c : decV.all (·.oneCell') = true := by kernel_rfl
  have HF := Lib.hid ((Fr.refl no w).alloc (.cells decV 48 (0, 0)))
  clear hr hq hn hz
  generalize dec r = d at *
  go_enter Tryd.func13, Tryd.ntmps13
  go_wp2_with (refine wpList_store_new rfl 48 (.tmp 4) (.tmp 13) rfl _ decV ?hx ?hy hi2 hsz h1c ?_; (case hx => rfl); (case hy => rfl))
  clear hsz hi2 h1c
  go_loopw [5, 6] (fun x i wr => ∃ k : Nat, k ≤ q ∧ i = .int .i64 k ∧ x = .int .i64 (d * 10 ^ k : Nat) ∧ wr = w.alloc (.cells decV 48 (0, 0))) (fun _ i _ => q - (intOf i).toNat)
  case atStart => exact ⟨0, Nat.zero_le _, rfl, by simp, rfl⟩
  case round =>
    obtain ⟨k, hk, rfl, rfl, rfl⟩ := hrel
    obtain ⟨X, hX⟩ : ∃ X, X = d * 10 ^ k := ⟨_, rfl⟩
    rw [← hX]
    by_cases hlt : k < q
    · have hb := dec_pow d (k + 1) HD.out (by have := HQ.out; omega)
      rw [level_loop, ← hX] at hb
      have hw : IntKind.i64.wrap ((X : Int) * (10 : Int)) = (X : Int) * (10 : Int) := IntWalk.i64_in _ (by omega)
      have HX := Lib.hid (show ((d * 10 ^ (k + 1) : Nat) : Int) = (X : Int) * (10 : Int) by rw [level_loop, ← hX]; omega)
      clear hX hb
      go_wp2_with fail
      go_roundw
      case rel => exact ⟨k + 1, by omega, by go_num, by rw [HX.out], trivial⟩
      case measure => simp [intOf]; omega
    · obtain rfl : k = q := by omega
      have hb := dec_pow d k HD.out HQ.out
      rw [← hX] at hb
      have HW := Lib.hid (show wrap64 ((X : Int) / (1000 : Int)) = (X : Int) / (1000 : Int) from w64 _ (by omega) (by omega))
      have HX := Lib.hid (show ((lvl n : Nat) : Int) = (X : Int) / (1000 : Int) by rw [HV.out, ← hX]; omega)
      clear hX hb
      go_wp2_with fail
      go_ret2
      rw [HX.out]
      refine ⟨?_, HF.out⟩
      exact congrArg (fun z => Ending.returned (.tuple #[.int .i64 z, .int .i64 0])) HW.out
theorem levelR_any (n : Int) (w : World) : Calls Tryd.prog 13 #[.int .i64 n] w fun e w' => e = .returned (.tuple #[.int .i64 (lvV n), .int .i64 (lvE n)]) ∧ Fr no w w' := by
  cases h : inR n 0 108
  · exact levelR_bad n w h
  · obtain ⟨h0, h1⟩ := inR_t.1 h
    obtain ⟨m, rfl⟩ := Int.eq_ofNat_of_zero_le h0
    rw [show lvV (m : Int) = (lvl m : Nat) by simp [lvV, h], show lvE (m : Int) = 0 by simp [lvE, h]]
    exact levelR_good m m rfl (by omega) w
end Go.Proofs.YtkbdjpdpcbeciaaDoor
