/- Syndrome, Protect, Check. -/
import Derived.Test.YtelpdihaonoedaaUpd
import Derived.Test.YtelpdihaonoedaaLoc
import Derived.Deep.RegionHeld3
namespace Go.Proofs.Ytelpdihaonoedaa
open Go.RowKit
set_option maxRecDepth 20000

def synL (l : List Nat) : Wd := upd 0#16 (l.take (l.length - 2)) ^^^ BitVec.ofNat 16 (256 * l.getD (l.length - 2) 0) ^^^ BitVec.ofNat 16 (l.getD (l.length - 1) 0)
theorem bytesOf_extract (d : ByteArray) (k : Nat) : bytesOf (d.extract 0 k) = (bytesOf d).take k := by
  simp [bytesOf, ByteArray.data_extract, List.map_take]
theorem bytesOf_get (d : ByteArray) (k : Nat) (hk : k < d.size) : (bytesOf d).getD k 0 = (d[k]).toNat := by
  rw [List.getD_eq_getElem?_getD, List.getElem?_eq_getElem (by rw [bytesOf_len]; exact hk)]
  simp [bytesOf]
  rfl
set_option maxHeartbeats 2000000 in
theorem syndrome_any (d : ByteArray) (w : World) (hd : d.size ≤ 1000000) :
    Calls Try.prog 84 #[.string d] w fun e w' => e = .returned (.tuple #[.int .u16 (if d.size < 2 then 0 else ((synL (bytesOf d)).toNat : Int)), .int .i64 (if d.size < 2 then 9 else 0)]) ∧ Fr no w w' := by
  by_cases h2 : d.size < 2
  · rw [if_pos h2, if_pos h2]
    have h2' : (d.size : Int) < 2 := by omega
    clear h2
    go_enter Try.func84, Try.ntmps84
    go_wp2_with fail
    go_ret2
    exact ⟨rfl, Fr.refl _ _⟩
  · rw [if_neg h2, if_neg h2]
    obtain ⟨n, hn⟩ : ∃ n : Nat, d.size = n + 2 := ⟨d.size - 2, by omega⟩
    have hn' : (d.size : Int) = (n : Int) + 2 := by omega
    clear h2
    go_enter Try.func84, Try.ntmps84
    go_wp2_with fail
    have a0 : (0 : Int) ≤ n := by omega
    have a1 : (n : Int) ≤ (n : Int) + 2 := by omega
    have a2 : (n : Int) < (n : Int) + 2 := by omega
    have a3 : (n : Int) + 1 < (n : Int) + 2 := by omega
    have a4 : (0 : Int) ≤ (n : Int) + 1 := by omega
    have a5 : ((n : Int) + 1).toNat = n + 1 := by omega
    have b0 : n < d.size := by omega
    have b1 : n + 1 < d.size := by omega
    have hw : IntKind.i64.wrap ((n : Int) + 1) = (n : Int) + 1 := IntWalk.i64_in _ (by omega)
    have j0 : ∀ w : World, (Instr.index 9 (.string d) (.int .i64 (n : Int))).run Try.prog w = .ok (.int .u8 ((d[n]).toNat : Int)) w := fun w => by go_simp
    have j1 : ∀ w : World, (Instr.index 9 (.string d) (.int .i64 ((n : Int) + 1))).run Try.prog w = .ok (.int .u8 ((d[n + 1]).toNat : Int)) w := fun w => by go_simp
    have HE := Lib.hid (bytesOf_extract d n)
    have HS := Lib.hid (show (synL (bytesOf d)) = upd 0#16 ((bytesOf d).take n) ^^^ BitVec.ofNat 16 (256 * (d[n]).toNat) ^^^ BitVec.ofNat 16 (d[n + 1]).toNat by
      rw [synL, bytesOf_len, show d.size - 2 = n by omega, show d.size - 1 = n + 1 by omega, bytesOf_get d n b0, bytesOf_get d (n + 1) b1])
    have HR := Lib.hid (show bits .xor .u16 (bits .xor .u16 ((updB 0#16 (d.extract 0 n)).toNat : Int) (IntKind.u16.wrap (IntKind.u16.wrap ((d[n]).toNat : Int) * (256 : Int)))) (IntKind.u16.wrap ((d[n + 1]).toNat : Int)) = ((synL (bytesOf d)).toNat : Int) by
      have c0 := (d[n]).toNat_lt
      have c1 := (d[n + 1]).toNat_lt
      rw [HS.out, ← HE.out, show upd 0#16 (bytesOf (d.extract 0 n)) = updB 0#16 (d.extract 0 n) from rfl, ← bits_xor, ← bits_xor]
      congr 2
      · rw [BitVec.toNat_ofNat, IntKind.wrap_u16, IntKind.wrap_u16]; omega)
    go_region_held3 (fun _ => True) (trivial) (first | (go_at_call 65; refine (sum_any (d.extract 0 n) _ (by simp only [ByteArray.size_extract]; omega)).mono ?_; rintro e w1 ⟨rfl, f1⟩))
    all_goals
      have HF := Lib.hid f1
      clear f1
      go_wp2_with fail
      go_ret2
      rw [← HR.out]
      exact ⟨rfl, (Fr.refl no w).drew.trans HF.out (fun _ _ h => h)⟩
def protB (d : ByteArray) : ByteArray := d ++ ⟨#[UInt8.ofNat ((updB 0#16 d).toNat / 256), UInt8.ofNat ((updB 0#16 d).toNat % 256)]⟩
theorem byte_cell (x : Nat) (h : x < 256) : (Value.int .u8 (x : Int)) = .int .u8 ((UInt8.ofNat x).toNat : Int) := by
  rw [UInt8.toNat_ofNat']
  congr 2
  exact (Nat.mod_eq_of_lt h).symm
theorem conv_two (w : World) (B x y : Nat) (hx : x < 256) (hy : y < 256) (h : w.heap[B]? = some (.cells #[.int .u8 (x : Int), .int .u8 (y : Int)] 5 (0, 0))) :
    (convert 41 9 (.slice (some ⟨B, 0, none⟩) 2 2)).run Try.prog w = .ok (.string ⟨#[UInt8.ofNat x, UInt8.ofNat y]⟩) w := by
  refine run_convert_bytes_back (P := Try.prog) w 41 9 5 ⟨B, 0, none⟩ 2 [UInt8.ofNat x, UInt8.ofNat y] Try.underlying41 Try.underlying5 Try.underlying9 ?_
  intro j hj
  have hadd : (⟨B, 0, none⟩ : Addr).add j = ⟨B, j, none⟩ := by unfold Addr.add; split <;> simp_all
  rw [hadd]
  rw [byte_cell x hx, byte_cell y hy] at h
  have hj' : j = 0 ∨ j = 1 := by simp at hj; omega
  rcases hj' with rfl | rfl <;> simp [World.cell?, h]
set_option maxHeartbeats 2000000 in
theorem protect_any (d : ByteArray) (w : World) (hd : d.size ≤ 1000000) :
    Calls Try.prog 29 #[.string d] w fun e w' => e = .returned (.string (protB d)) ∧ Fr no w w' := by
  obtain ⟨s, hs⟩ : ∃ s, s = (updB 0#16 d) := ⟨_, rfl⟩
  have hp : protB d = d ++ ⟨#[UInt8.ofNat (s.toNat / 256), UInt8.ofNat (s.toNat % 256)]⟩ := by rw [hs]; rfl
  have HS := sum_any d w hd
  rw [← hs] at HS
  have HS := Lib.hid HS
  have HP := Lib.hid hp
  clear hs hp
  go_enter Try.func29, Try.ntmps29
  go_wp2_with fail
  refine HS.out.mono ?_
  rintro e w1 ⟨rfl, f1⟩
  have hsl := s.isLt
  obtain ⟨x, hx⟩ : ∃ x, x = s.toNat / 256 := ⟨_, rfl⟩
  obtain ⟨y, hy⟩ : ∃ y, y = s.toNat % 256 := ⟨_, rfl⟩
  rw [← hx, ← hy] at HP
  have hx' : (s.toNat : Int) / 256 = (x : Int) := by omega
  have hy' : (s.toNat : Int) % 256 = (y : Int) := by omega
  have hxl : x < 256 := by omega
  have hyl : y < 256 := by omega
  have hcv := conv_two (w1.alloc (.cells #[.int .u8 (x : Int), .int .u8 (y : Int)] 5 (0, 0))) w1.heap.size x y hxl hyl (heap_alloc_new w1 _)
  have HF := Lib.hid (f1.alloc (.cells #[.int .u8 (x : Int), .int .u8 (y : Int)] 5 (0, 0)))
  clear hx hy hsl f1 hxl hyl
  go_wp2_with fail
  go_ret
  rw [HP.out]
  exact ⟨rfl, HF.out⟩

/-- What Check returns. -/
def chkV (d : ByteArray) : ByteArray := if d.size < 2 then ByteArray.empty else if synL (bytesOf d) = 0#16 then d.extract 0 (d.size - 2) else ByteArray.empty
def chkE (d : ByteArray) : Int := if d.size < 2 then 9 else if synL (bytesOf d) = 0#16 then 0 else 10
theorem check_any (d : ByteArray) (w : World) (hd : d.size ≤ 1000000) :
    Calls Try.prog 44 #[.string d] w fun e w' => e = .returned (.tuple #[.string (chkV d), .int .i64 (chkE d)]) ∧ Fr no w w' := by
  have HS := syndrome_any d w hd
  by_cases h2 : d.size < 2
  · rw [if_pos h2, if_pos h2] at HS
    have HS := Lib.hid HS
    have HV := Lib.hid (show chkV d = ⟨#[]⟩ by rw [chkV, if_pos h2]; rfl)
    have HE := Lib.hid (show chkE d = 9 by simp [chkE, h2])
    clear h2
    go_enter Try.func44, Try.ntmps44
    go_wp2_with fail
    refine HS.out.mono ?_
    rintro e w1 ⟨rfl, f1⟩
    have HF := Lib.hid f1
    clear f1
    go_wp2_with fail
    go_ret2
    rw [HV.out, HE.out]
    exact ⟨rfl, HF.out⟩
  · rw [if_neg h2, if_neg h2] at HS
    by_cases hz : synL (bytesOf d) = 0#16
    · rw [hz] at HS
      have HS := Lib.hid HS
      have HV := Lib.hid (show chkV d = d.extract 0 (d.size - 2) by simp [chkV, h2, hz])
      have HE := Lib.hid (show chkE d = 0 by simp [chkE, h2, hz])
      obtain ⟨n, hn⟩ : ∃ n : Nat, d.size = n + 2 := ⟨d.size - 2, by omega⟩
      rw [show d.size - 2 = n by omega] at HV
      have hn' : (d.size : Int) = (n : Int) + 2 := by omega
      have a0 : (0 : Int) ≤ n := by omega
      have a1 : (n : Int) ≤ (n : Int) + 2 := by omega
      clear hz h2
      go_enter Try.func44, Try.ntmps44
      go_wp2_with fail
      refine HS.out.mono ?_
      rintro e w1 ⟨rfl, f1⟩
      have HF := Lib.hid f1
      clear f1
      go_wp2_with fail
      go_ret2
      rw [HV.out, HE.out]
      exact ⟨rfl, HF.out⟩
    · have HV := Lib.hid (show chkV d = ⟨#[]⟩ by rw [chkV, if_neg h2, if_neg hz]; rfl)
      have HE := Lib.hid (show chkE d = 10 by simp [chkE, h2, hz])
      have hb := word_ne hz
      have HS := Lib.hid HS
      have hb0 : ¬ ((synL (bytesOf d)).toNat : Int) = 0 := fun h => hz (BitVec.eq_of_toNat_eq (by simp; omega))
      clear hz h2
      generalize synL (bytesOf d) = s at *
      go_enter Try.func44, Try.ntmps44
      go_wp2_with fail
      refine HS.out.mono ?_
      rintro e w1 ⟨rfl, f1⟩
      have HF := Lib.hid f1
      clear f1
      go_wp2_with fail
      go_ret2
      rw [HV.out, HE.out]
      exact ⟨rfl, HF.out⟩
end Go.Proofs.Ytelpdihaonoedaa
