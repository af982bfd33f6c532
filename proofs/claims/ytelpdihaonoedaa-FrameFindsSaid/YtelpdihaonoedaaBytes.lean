/- Bytes in memory: []byte(s), string(b). -/
import Derived.Test.YtelpdihaonoedaaJoin
import Derived.Lib.ConvBytes
namespace Go.Proofs.Ytelpdihaonoedaa
open Go.RowKit
set_option maxRecDepth 20000

/-- The block B begins with the bytes l. -/
structure Bts (w : World) (B : Nat) (l : List Nat) : Prop where
  cell : ∀ j, j < l.length → w.cell? ⟨B, j, none⟩ = some (.int .u8 (l.getD j 0 : Nat))
  frozen : ∀ j, j < l.length → w.frozen? ⟨B, j, none⟩ = false
theorem Bts.kept {w w' : World} {B : Nat} {l : List Nat} {S : Nat → Prop} (h : Bts w B l) (hf : Fr S w w') (h1 : ¬ S B) : Bts w' B l :=
  ⟨fun j hj => (hf.cell (p := ⟨B, j, none⟩) (World.block_lt_of_cell? w _ (h.cell j hj)) h1).trans (h.cell j hj),
   fun j hj => (hf.frozen (p := ⟨B, j, none⟩) (World.block_lt_of_cell? w _ (h.cell j hj)) h1).trans (h.frozen j hj)⟩
theorem Bts.set {w : World} {B : Nat} {l : List Nat} (h : Bts w B l) (i x : Nat) : Bts (w.setCell ⟨B, i, none⟩ (.int .u8 (x : Int))) B (l.set i x) := by
  refine ⟨fun j hj => ?_, fun j hj => ?_⟩
  · rw [List.length_set] at hj
    by_cases e : i = j
    · subst e
      rw [World.cell?_setCell_same _ _ _ (h.cell i hj)]
      simp [List.getD_eq_getElem?_getD, hj]
    · rw [World.cell?_setCell_other _ _ _ _ (by intro he; exact e (by simpa using congrArg Addr.off he)), h.cell j hj]
      simp [List.getD_eq_getElem?_getD, List.getElem?_set_ne e]
  · rw [List.length_set] at hj
    have := h.frozen j hj
    simp [go_sem] at this ⊢
    exact this
theorem Bts.drew {w : World} {B : Nat} {l : List Nat} (h : Bts w B l) : Bts w.drew B l := h.kept ((Fr.refl no w).drew) (fun h => h)
theorem Bts.new (w : World) (s : ByteArray) : Bts (Lib.bytesWorld w 5 s) w.heap.size (bytesOf s) := by
  refine ⟨fun j hj => ?_, fun j hj => ?_⟩
  · rw [bytesOf_len] at hj
    rw [Lib.bytesWorld_cell w 5 s j hj]
    congr 2
    simp [bytesOf, List.getD_eq_getElem?_getD, hj]
  · rw [bytesOf_len] at hj
    have hs : s.size ≤ (Lib.bytesCells w 5 s).size := by simp [Lib.bytesCells]
    simp [World.frozen?, Lib.bytesWorld_at_new]
    omega
theorem Fr.bytes (w : World) (s : ByteArray) : Fr no w (Lib.bytesWorld w 5 s) :=
  ⟨rfl, rfl, rfl, by rw [Lib.bytesWorld_size]; omega, fun k hk _ => Lib.bytesWorld_at_old w 5 s k hk⟩
theorem bytesOf_str (l : List Nat) (h : ∀ x ∈ l, x < 256) : bytesOf (strOf l) = l := by
  simp only [bytesOf, strOf, List.map_map]
  conv => rhs; rw [← List.map_id l]
  apply List.map_congr_left
  intro x hx
  simp [Nat.mod_eq_of_lt (h x hx)]
theorem conv_back {w : World} {B cap n : Nat} {l : List Nat} (h : Bts w B l) (hl : ∀ x ∈ l, x < 256) (hn : n = l.length) :
    (convert 41 9 (.slice (some ⟨B, 0, none⟩) n cap)).run Try.prog w = .ok (.string (strOf l)) w := by
  subst hn
  have := run_convert_bytes_back (P := Try.prog) w 41 9 5 ⟨B, 0, none⟩ cap (l.map UInt8.ofNat) Try.underlying41 Try.underlying5 Try.underlying9 ?_
  · simpa [strOf] using this
  · intro j hj
    have hj' : j < l.length := by simpa using hj
    have hadd : (⟨B, 0, none⟩ : Addr).add j = ⟨B, j, none⟩ := by unfold Addr.add; split <;> simp_all
    rw [hadd, h.cell j hj']
    have := hl _ (List.getElem_mem hj')
    simp [List.getD_eq_getElem?_getD, List.getElem?_eq_getElem hj', Nat.mod_eq_of_lt this]
theorem conv_to (w : World) (s : ByteArray) : (convert 9 41 (.string s)).run Try.prog w = .ok (.slice (some ⟨w.heap.size, 0, none⟩) s.size (grownCap w s.size 0 5)) (Lib.bytesWorld w 5 s) :=
  Lib.run_convert_string_bytes w 9 41 5 s Try.underlying9 Try.underlying41 Try.underlying5
theorem xor_byte (x y : Nat) (hx : x < 256) (hy : y < 256) : bits .xor .u8 (x : Int) (y : Int) = ((x ^^^ y : Nat) : Int) := by
  show IntKind.u8.wrap ((BitVec.ofInt 8 (x : Int) ^^^ BitVec.ofInt 8 (y : Int)).toNat : Int) = _
  have hl : x ^^^ y < 256 := Nat.xor_lt_two_pow (n := 8) hx hy
  have : (BitVec.ofInt 8 (x : Int) ^^^ BitVec.ofInt 8 (y : Int)).toNat = x ^^^ y := by
    rw [BitVec.toNat_xor, BitVec.toNat_ofInt, BitVec.toNat_ofInt]
    congr 1 <;> omega
  rw [this, IntKind.wrap_u8]
  omega
end Go.Proofs.Ytelpdihaonoedaa
