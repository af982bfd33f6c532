/- Sum, and that of the document; slices of integers. -/
import Derived.Test.YtkbdjpdpcbeciaaDoorLawA
namespace Go.Proofs.YtkbdjpdpcbeciaaDoor
open Go.RowKit

/-- A slice of integers in memory. -/
def IntsIn (w : World) (ao : Option Addr) (len : Nat) (zs : List Int) : Prop :=
  zs.length = len ∧ ∀ i, i < len → ∃ b off, ao = some ⟨b, off, none⟩ ∧ w.cell? ⟨b, off + i, none⟩ = some (.int .i64 (zs.getD i 0))
theorem IntsIn.kept {w w' : World} {ao : Option Addr} {len : Nat} {zs : List Int} (h : IntsIn w ao len zs) (hf : Fr no w w') : IntsIn w' ao len zs := ⟨h.1, fun i hi => by
  obtain ⟨b, off, ha, hc⟩ := h.2 i hi
  exact ⟨b, off, ha, (hf.cell (p := ⟨b, off + i, none⟩) (World.block_lt_of_cell? w _ hc) (fun h => h)).trans hc⟩⟩
def allP (zs : List Int) : Bool := zs.all isP
def sumZ (zs : List Int) : Int := zs.foldl (· + ·) 0
/-- What Sum returns. -/
def smV (zs : List Int) : Int := if zs.length ≤ 64 ∧ allP zs = true then sumZ zs else 0
def smE (zs : List Int) : Int := if zs.length ≤ 64 then (if allP zs = true then 0 else 2) else 8
theorem sumZ_take (zs : List Int) (k : Nat) (hk : k < zs.length) : sumZ (zs.take (k + 1)) = sumZ (zs.take k) + zs.getD k 0 := by
  rw [List.take_succ_eq_append_getElem hk, sumZ, List.foldl_append, ← sumZ]
  simp [List.getD_eq_getElem?_getD, List.getElem?_eq_getElem hk]
theorem allP_take (zs : List Int) (k : Nat) (hk : k < zs.length) : allP (zs.take (k + 1)) = (allP (zs.take k) && isP (zs.getD k 0)) := by
  rw [List.take_succ_eq_append_getElem hk, allP, List.all_append, ← allP]
  simp [List.getD_eq_getElem?_getD, List.getElem?_eq_getElem hk]
theorem allP_of_take (zs : List Int) (k : Nat) (h : allP zs = true) : allP (zs.take k) = true := by
  rw [allP, List.all_eq_true] at h ⊢
  exact fun x hx => h x (List.mem_of_mem_take hx)
theorem sum_bound (zs : List Int) (h : allP zs = true) : 0 ≤ sumZ zs ∧ sumZ zs ≤ MX * zs.length := by
  have key : ∀ k, k ≤ zs.length → 0 ≤ sumZ (zs.take k) ∧ sumZ (zs.take k) ≤ MX * k := by
    intro k
    induction k with
    | zero => intro _; simp [sumZ]
    | succ k ih =>
      intro hk
      obtain ⟨i1, i2⟩ := ih (by omega)
      have hp : isP (zs.getD k 0) = true := by
        rw [allP, List.all_eq_true] at h
        rw [List.getD_eq_getElem?_getD, List.getElem?_eq_getElem (show k < zs.length by omega)]
        exact h _ (List.getElem_mem _)
      obtain ⟨p0, p1⟩ := isP_t.1 hp
      rw [sumZ_take zs k (by omega)]
      rw [MX] at *
      omega
  have := key zs.length (Nat.le_refl _)
  rwa [List.take_length] at this
set_option maxHeartbeats 2000000 in
theorem total_any (ao : Option Addr) (len cap : Nat) (zs : List Int) (w : World) (hz : IntsIn w ao len zs) (hl : len ≤ 64) (ha : allP zs = true) :
    Calls Tryd.prog 38 #[.slice ao len cap] w fun e w' => e = .returned (.int .i64 (sumZ zs)) ∧ w' = w := by
  have HZ := Lib.hid hz
  have HA := Lib.hid ha
  have HL := Lib.hid hl
  have hzl := hz.1
  clear hz ha hl
  go_enter Tryd.func38, Tryd.ntmps38
  go_wp2_with fail
  go_loopw [3, 5, 8] (fun s _ i wr => ∃ k : Nat, k ≤ len ∧ i = .int .i64 k ∧ s = .int .i64 (sumZ (zs.take k)) ∧ wr = w) (fun _ _ i _ => len - (intOf i).toNat)
  case atStart => exact ⟨0, Nat.zero_le _, rfl, rfl, rfl⟩
  case round =>
    obtain ⟨k, hk, rfl, rfl, rfl⟩ := hrel
    have hb := sum_bound (zs.take k) (allP_of_take zs k HA.out)
    have HB := Lib.hid hb
    clear hb
    by_cases hlt : k < len
    · obtain ⟨b, off, rfl, hc⟩ := HZ.out.2 k hlt
      have HS := Lib.hid (sumZ_take zs k (by omega))
      have hp : isP (zs.getD k 0) = true := by
        have h := HA.out
        rw [allP, List.all_eq_true] at h
        rw [List.getD_eq_getElem?_getD, List.getElem?_eq_getElem (show k < zs.length by omega)]
        exact h _ (List.getElem_mem _)
      obtain ⟨p0, p1⟩ := isP_t.1 hp
      have p1' : zs.getD k 0 ≤ 68719476736 := p1
      have hs0 := HB.out.1
      have hs1 : sumZ (zs.take k) ≤ 4398046511104 := by
        have h1 := HB.out.2
        have h2 : ((zs.take k).length : Int) ≤ 64 := by have := HL.out; simp; omega
        rw [MX] at h1
        omega
      clear hp p1
      generalize zs.getD k 0 = z at *
      generalize sumZ (zs.take k) = S at *
      have hkI : (k : Int) ≤ 63 := by have := HL.out; omega
      go_wp2_with fail
      go_roundw
      case rel => exact ⟨k + 1, by omega, by go_num, by rw [HS.out], trivial⟩
      case measure => simp [intOf]; omega
    · have HS := Lib.hid (show sumZ (zs.take k) = sumZ zs by rw [List.take_of_length_le (by omega)])
      rw [HS.out]
      go_wp2_with fail
      go_ret
      exact ⟨rfl, rfl⟩
end Go.Proofs.YtkbdjpdpcbeciaaDoor
