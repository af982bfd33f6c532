/- 'eachBit' with the writer's push. -/
import Derived.Test.YtelpdihaonoedaaPush
namespace Go.Proofs.Ytelpdihaonoedaa
open Go.RowKit

/-- The lowest 'width' bits of n, the highest one first. -/
def ibits (width : Nat) (n : Int) : List Bool := (List.range width).map fun i => decide (n / 2 ^ (width - 1 - i) % 2 = 1)
theorem ibits_len (width : Nat) (n : Int) : (ibits width n).length = width := by simp [ibits]
theorem ibits_take (width : Nat) (n : Int) (k : Nat) (hk : k < width) : (ibits width n).take (k + 1) = (ibits width n).take k ++ [decide (n / 2 ^ (width - 1 - k) % 2 = 1)] := by
  rw [List.take_succ_eq_append_getElem (by rw [ibits_len]; exact hk)]
  simp [ibits]

theorem and_one (x : Int) (h1 : -9223372036854775808 ≤ x) (h2 : x ≤ 9223372036854775807) : (bits .and .i64 x 1 == 1) = decide (x % 2 = 1) := by
  have e : bits .and .i64 x 1 = x % 2 := by
    show IntKind.i64.wrap ((BitVec.ofInt 64 x &&& BitVec.ofInt 64 1).toNat : Int) = _
    have k : (BitVec.ofInt 64 x &&& BitVec.ofInt 64 1).toNat = (x % 2).toNat := by
      rw [BitVec.toNat_and]
      simp only [BitVec.toNat_ofInt]
      rw [show ((1 : Int) % ((2 ^ 64 : Nat) : Int)).toNat = 1 from by decide, Nat.and_one_is_mod]
      omega
    rw [k]
    have : x % 2 = 0 ∨ x % 2 = 1 := by omega
    rcases this with h | h <;> rw [h] <;> decide
  rw [e]; rfl

theorem shr_bounds (n : Int) (k : Nat) (h1 : -9223372036854775808 ≤ n) (h2 : n ≤ 9223372036854775807) : -9223372036854775808 ≤ n / 2 ^ k ∧ n / 2 ^ k ≤ 9223372036854775807 := by
  have hp : (0 : Int) < 2 ^ k := Int.pow_pos (by decide)
  have hp1 : (1 : Int) ≤ 2 ^ k := hp
  constructor
  · rw [Int.le_ediv_iff_mul_le hp]
    have : (-9223372036854775808 : Int) * 2 ^ k ≤ -9223372036854775808 * 1 := Int.mul_le_mul_of_nonpos_left (by decide) hp1
    omega
  · rcases Int.le_total 0 n with hn | hn
    · exact Int.le_trans (Int.ediv_le_self _ hn) h2
    · exact Int.le_trans (Int.ediv_nonpos_of_nonpos_of_neg hn hp |> fun h => h) (by decide)

set_option maxHeartbeats 1000000 in
theorem eachBit_any (base B : Nat) (v : Value) (bs : List Bool) (width : Nat) (n : Int) (w : World) (hw : width ≤ 63) (h1 : -9223372036854775808 ≤ n) (h2 : n ≤ 9223372036854775807)
    (hn : bs.length + width ≤ 524288) (hbase : base ≤ w.heap.size) (h : Wr base w B v bs) :
    Calls Try.prog 110 #[.int .i64 width, .int .i64 n, .func (.func 111) #[.pointer (some ⟨B, 0, none⟩)] #[]] w fun e w' => e = .returned (.tuple #[]) ∧ ∃ v', Wr base w' B v' (bs ++ ibits width n) ∧ Adv w w' B v v' := by
  go_enter Try.func110, Try.ntmps110
  go_wp2
  go_loopw [8] (fun i wr => ∃ k : Nat, k ≤ width ∧ i = .int .i64 k ∧ ∃ v', Wr base wr B v' (bs ++ (ibits width n).take k) ∧ Adv w wr B v v') (fun i _ => width - (intOf i).toNat)
  case atStart => exact ⟨0, Nat.zero_le _, rfl, v, by simpa using h, Adv.refl _ _ _⟩
  case round =>
    obtain ⟨k, hk, rfl, v1, hwr, hadv⟩ := hrel
    have HW := Lib.hid hwr
    have HA := Lib.hid hadv
    clear hwr hadv h
    by_cases hlt : k < width
    · have hsz := HA.out.fr.size
      have hb := shr_bounds n (width - 1 - k) h1 h2
      have HN := Lib.hid (and_one _ hb.1 hb.2)
      have HT := Lib.hid (ibits_take width n k hlt)
      have hlen : (bs ++ (ibits width n).take k).length = bs.length + k := by simp [ibits_len]; omega
      have HL := Lib.hid hlen
      clear hb hlen
      go_wp2_with fail
      refine (push_any base B v1 _ _ _ (by rw [HL.out]; omega) (by omega) HW.out).mono ?_
      rintro e w' ⟨rfl, v2, hw2, ha2⟩
      have HW2 := Lib.hid hw2
      have HA2 := Lib.hid ha2
      clear hw2 ha2
      go_wp2_with fail
      go_roundw
      case rel => 
        refine ⟨k + 1, by omega, by go_num, v2, ?_, HA.out.trans HA2.out⟩
        rw [HT.out, ← List.append_assoc, ← HN.out]
        exact HW2.out
      case measure => simp [intOf]; omega
    · go_wp2_with fail
      go_end0
      refine ⟨rfl, v1, ?_, HA.out⟩
      have := HW.out
      rwa [List.take_of_length_le (by rw [ibits_len]; omega)] at this
end Go.Proofs.Ytelpdihaonoedaa
