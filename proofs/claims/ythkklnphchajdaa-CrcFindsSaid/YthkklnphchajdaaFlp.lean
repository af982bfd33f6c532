/- flip. -/
import Derived.Test.YthkklnphchajdaaFlip
import Derived.Test.YthkklnphchajdaaBytes
namespace Go.Proofs.Ythkklnphchajdaa
open Go.RowKit

def flB (d : ByteArray) (i : Nat) : ByteArray := strOf (flL (bytesOf d) i)
theorem bytesOf_flB (d : ByteArray) (i : Nat) : bytesOf (flB d i) = flL (bytesOf d) i := bytesOf_str _ (flL_lt _ _ (bytesOf_lt d))
theorem flB_size (d : ByteArray) (i : Nat) : (flB d i).size = d.size := by rw [← bytesOf_len, bytesOf_flB, flL_len, bytesOf_len]
set_option maxHeartbeats 2000000 in
theorem flip_any (d : ByteArray) (i : Nat) (w : World) (hi : i < 8 * d.size) (hd : d.size ≤ 1000) :
    Calls Try.prog 25 #[.string d, .int .i64 (i : Int)] w fun e w' => e = .returned (.string (flB d i)) ∧ Fr no w w' := by
  obtain ⟨q, hq⟩ : ∃ q, q = i / 8 := ⟨_, rfl⟩
  obtain ⟨r, hr⟩ : ∃ r, r = i % 8 := ⟨_, rfl⟩
  obtain ⟨j, hj⟩ : ∃ j, j = d.size - 1 - q := ⟨_, rfl⟩
  have hjl : j < d.size := by omega
  have hq' : Int.tdiv (i : Int) 8 = (q : Int) := by rw [Int.tdiv_eq_ediv_of_nonneg (by omega)]; omega
  have hq2 : (i : Int) / (8 : Int) = (q : Int) := by omega
  have hr' : (i : Int) % (8 : Int) = (r : Int) := by omega
  have hr2 : Int.tmod (i : Int) 8 = (r : Int) := by rw [Int.tmod_eq_emod_of_nonneg (by omega)]; omega
  have hj' : (d.size : Int) - (1 : Int) - (q : Int) = (j : Int) := by omega
  have hr8 : (r : Int) ≤ 7 := by omega
  have hqd : (q : Int) ≤ (d.size : Int) - 1 := by omega
  have HFL := Lib.hid (show flL (bytesOf d) i = (bytesOf d).set j ((d[j]).toNat ^^^ 2 ^ r) by rw [flL, bytesOf_len, ← hq, ← hr, ← hj, bytesOf_get d j hjl])
  have HX := Lib.hid (show bits .xor .u8 ((d[j]).toNat : Int) ((2 : Int) ^ r % (256 : Int)) = (((d[j]).toNat ^^^ 2 ^ r : Nat) : Int) by
    have h2 := pow_small r (by omega)
    rw [show (2 : Int) ^ r % (256 : Int) = ((2 ^ r : Nat) : Int) by rw [show (2 : Int) ^ r = ((2 ^ r : Nat) : Int) by rw [Int.natCast_pow]; rfl]; exact Int.emod_eq_of_lt (Int.natCast_nonneg _) (Int.ofNat_lt.2 h2)]
    exact xor_byte _ _ (d[j]).toNat_lt h2)
  have hb := Bts.new w d
  have hjb : j < (bytesOf d).length := by rw [bytesOf_len]; exact hjl
  have hcell := hb.cell j hjb
  have hfz := hb.frozen j hjb
  rw [bytesOf_get d j hjl] at hcell
  have hcv := conv_to w d
  have HB := Lib.hid hb
  have HF := Lib.hid (Fr.bytes w d)
  have hdI : (d.size : Int) ≤ 1000 := by omega
  have hjI : (j : Int) < d.size := by omega
  clear hq hr hj hi hd hb hjb
  generalize Lib.bytesWorld w 5 d = w2 at *
  generalize grownCap w d.size 0 5 = cap at *
  go_enter Try.func25, Try.ntmps25
  go_wp2_with fail
  clear hcv
  go_region
  go_wp2_with fail
  rw [HX.out]
  have hlt : ∀ x ∈ (bytesOf d).set j ((d[j]).toNat ^^^ 2 ^ r), x < 256 := by rw [← HFL.out]; exact flL_lt _ _ (bytesOf_lt d)
  have hcv := conv_back (cap := cap) (n := d.size) ((HB.out.set j ((d[j]).toNat ^^^ 2 ^ r)).drew) hlt (by simp [bytesOf_len])
  have HS := Lib.hid (show strOf ((bytesOf d).set j ((d[j]).toNat ^^^ 2 ^ r)) = flB d i by rw [← HFL.out]; rfl)
  clear hlt
  obtain ⟨y, hy⟩ : ∃ y : Nat, y = (d[j]).toNat ^^^ 2 ^ r := ⟨_, rfl⟩
  have HY := Lib.hid hy
  rw [← hy]
  rw [← hy] at hcv HS
  clear hy
  rw [hcv]
  go_wp2_with fail
  go_ret
  rw [HS.out]
  refine ⟨rfl, ?_⟩
  exact HF.out.trans (S := no) (S' := fun k => w.heap.size ≤ k) ((Fr.refl _ _).setCell (p := ⟨w.heap.size, j, none⟩) (.inl (Nat.le_refl _)) _).drew (fun k hk h => by have : w.heap.size ≤ k := h; omega)
end Go.Proofs.Ythkklnphchajdaa
