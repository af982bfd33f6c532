/- The document's Update and Sum. -/
import Derived.Test.YtelpdihaonoedaaUpd
namespace Go.Proofs.Ytelpdihaonoedaa
open Go.RowKit
set_option maxRecDepth 20000

set_option maxHeartbeats 2000000 in
theorem updateR_any (s : Wd) (d : ByteArray) (w : World) (hd : d.size ≤ 1000000) :
    Calls Try.prog 122 #[.int .u16 (s.toNat : Int), .string d] w fun e w' => e = .returned (.int .u16 ((updB s d).toNat : Int)) ∧ w' = w := by
  go_enter Try.func122, Try.ntmps122
  go_wp2_with fail
  go_loopw [0, 5, 6] (fun x i _ wr => ∃ k : Nat, k ≤ d.size ∧ i = .int .i64 k ∧ x = .int .u16 ((upd s ((bytesOf d).take k)).toNat : Int) ∧ wr = w) (fun _ i _ _ => d.size - (intOf i).toNat)
  case atStart => exact ⟨0, Nat.zero_le _, rfl, rfl, rfl⟩
  case round =>
    obtain ⟨k, hk, rfl, rfl, rfl⟩ := hrel
    by_cases hlk : k < d.size
    · have hc256 : (d[k]).toNat < 256 := (d[k]).toNat_lt
      obtain ⟨t, ht⟩ : ∃ t, t = upd s ((bytesOf d).take k) := ⟨_, rfl⟩
      rw [← ht]
      have HU := Lib.hid (show upd s ((bytesOf d).take (k + 1)) = txn 8 (t ^^^ BitVec.ofNat 16 (256 * (d[k]).toNat)) by rw [bytesOf_take d k hlk, upd_append, ht]; rfl)
      have HX := Lib.hid (show bits .xor .u16 (t.toNat : Int) (((d[k]).toNat : Int) * (256 : Int)) = ((t ^^^ BitVec.ofNat 16 (256 * (d[k]).toNat)).toNat : Int) by
        rw [← bits_xor, BitVec.toNat_ofNat]; congr 1; omega)
      clear ht
      obtain ⟨y, hy⟩ : ∃ y, y = t ^^^ BitVec.ofNat 16 (256 * (d[k]).toNat) := ⟨_, rfl⟩
      rw [← hy] at HX HU
      clear hy
      go_wp2_with fail
      rw [HX.out]
      go_loopw [0, 6] (fun x i wq => ∃ j : Nat, j ≤ 8 ∧ i = .int .i64 j ∧ x = .int .u16 ((txn j y).toNat : Int) ∧ wq = wr) (fun _ i _ => 8 - (intOf i).toNat)
      case atStart => exact ⟨0, by decide, rfl, rfl, rfl⟩
      case round =>
        obtain ⟨j, hj, rfl, rfl, rfl⟩ := hrel
        by_cases hlt : j < 8
        · go_wp2_with fail
          refine (times_any _ _).mono ?_
          rintro e w1 ⟨rfl, rfl⟩
          go_wp2_with fail
          go_roundw
          case rel => exact ⟨j + 1, by omega, by go_num, rfl, trivial⟩
          case measure => simp [intOf]; omega
        · obtain rfl : j = 8 := by omega
          rw [← HU.out]
          go_wp2_with fail
          go_roundw
          case rel => exact ⟨k + 1, by omega, by go_num, rfl, trivial⟩
          case measure => simp [intOf]; omega
    · have HU := Lib.hid (show upd s ((bytesOf d).take k) = updB s d by rw [List.take_of_length_le (by rw [bytesOf_len]; omega)]; rfl)
      go_wp2_with fail
      go_ret
      rw [HU.out]
      exact ⟨rfl, rfl⟩
theorem sumR_any (d : ByteArray) (w : World) (hd : d.size ≤ 1000000) :
    Calls Try.prog 83 #[.string d] w fun e w' => e = .returned (.int .u16 ((updB 0#16 d).toNat : Int)) ∧ w' = w := by
  go_enter Try.func83, Try.ntmps83
  go_wp2_with fail
  refine (updateR_any 0#16 d _ hd).mono ?_
  rintro e w1 ⟨rfl, rfl⟩
  go_wp2_with fail
  go_ret
  exact ⟨rfl, rfl⟩
end Go.Proofs.Ytelpdihaonoedaa
