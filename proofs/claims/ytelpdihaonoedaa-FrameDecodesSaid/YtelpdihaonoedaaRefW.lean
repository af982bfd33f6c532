/- The reference implementation's writer. -/
import Derived.Test.YtelpdihaonoedaaMth
import Derived.Deep.RegionLaw
namespace Go.Proofs.Ytelpdihaonoedaa
open Go.RowKit
set_option maxRecDepth 20000

def bitsV (bs : List Bool) : List Nat := bs.map Bool.toNat
theorem bitsV_len (bs : List Bool) : (bitsV bs).length = bs.length := by simp [bitsV]

/-- The reference's writer: a byte for each bit. -/
structure RwS (base : Nat) (w : World) (B : Nat) (v : Value) (st : WSt) : Prop where
  blk : w.heap[B]? = some (.cells #[v, .int .i64 st.e] 98 (0, 0))
  hB : base ≤ B
  own : w.ownsRow base 5 1 v st.bs.length (bytesV (bitsV st.bs))
  ne : v.ownBlock ≠ some B
  le : st.bs.length ≤ 524288

theorem two_cells {w : World} {B T : Nat} {a b : Value} (h : w.heap[B]? = some (.cells #[a, b] T (0, 0))) :
    w.cell? ⟨B, 0, none⟩ = some a ∧ w.cell? ⟨B, 1, none⟩ = some b ∧ w.frozen? ⟨B, 0, none⟩ = false ∧ w.frozen? ⟨B, 1, none⟩ = false := by
  simp [World.cell?, World.frozen?, h]

theorem ownsRow_kept {w w' : World} {base : Nat} {e : TypeId} {size : Nat} {v : Value} {n : Nat} {xs : List Value} {S : Nat → Prop} (h : w.ownsRow base e size v n xs) (hf : Fr S w w') (h2 : ∀ k, v.ownBlock = some k → ¬ S k) : w'.ownsRow base e size v n xs := by
  refine ⟨h.1, ?_⟩
  rcases h.2 with hn | ⟨g, cap, cur, rfl, hb, hg, rest⟩
  · exact .inl hn
  · exact .inr ⟨g, cap, cur, rfl, hb, hf.blk hg (h2 g rfl), rest⟩
theorem RwS.kept {base : Nat} {w w' : World} {B : Nat} {v : Value} {st : WSt} {S : Nat → Prop} (h : RwS base w B v st) (hf : Fr S w w') (h1 : ¬ S B) (h2 : ∀ k, v.ownBlock = some k → ¬ S k) : RwS base w' B v st :=
  ⟨hf.blk h.blk h1, h.hB, ownsRow_kept h.own hf h2, h.ne, h.le⟩
theorem RwS.alloc {base : Nat} {w : World} {B : Nat} {v : Value} {st : WSt} (h : RwS base w B v st) (o : Obj) : RwS base (w.alloc o) B v st :=
  h.kept ((Fr.refl (fun _ => False) w).alloc o) (fun h => h) (fun _ _ h => h)
theorem RwS.drewN {base : Nat} {w : World} {B : Nat} {v : Value} {st : WSt} (h : RwS base w B v st) (n : Nat) : RwS base (w.drewN n) B v st := ⟨h.blk, h.hB, h.own, h.ne, h.le⟩
theorem own_form {w : World} {base : Nat} {e : TypeId} {size : Nat} {v : Value} {n : Nat} {xs : List Value} (h : w.ownsRow base e size v n xs) : ∃ ao cap, v = .slice ao n cap := by
  rcases h.2 with ⟨hv, h0⟩ | ⟨g, cap, cur, hv, _⟩
  · exact ⟨none, 0, by rw [hv, h0]⟩
  · exact ⟨_, _, hv⟩
theorem Adv.belowR {base : Nat} {w w' : World} {B : Nat} {v v' : Value} {st : WSt} (h : Adv w w' B v v') (hw : RwS base w B v st) : Below base w w' := by
  refine h.fr.below (fun k hk => ?_) (Nat.le_of_lt (Nat.lt_of_le_of_lt hw.hB (lt_of_blk hw.blk)))
  rcases hk with hk | hk
  · rw [hk]; exact hw.hB
  · exact (hw.own.lt k hk).1

/-- What an append leaves. -/
theorem rws_end {base B : Nat} {v : Value} {bs : List Bool} {w w1 : World} {v' : Value} {b : Bool} (h : RwS base w B v ⟨bs, 0⟩) (hle : bs.length < 524288) (hg : w.grownBy w1 v.ownBlock)
    (hown : w1.ownsRow base 5 1 v' (bs.length + 1) (bytesV (bitsV bs) ++ [.int .u8 (b.toNat : Int)])) (hrow : ∀ k, v'.ownBlock = some k → v.ownBlock = some k ∨ w.heap.size ≤ k) :
    RwS base (w1.setCell ⟨B, 0, none⟩ v') B v' ⟨bs ++ [b], 0⟩ ∧ Adv w (w1.setCell ⟨B, 0, none⟩ v') B v v' := by
  have hBlt := lt_of_blk h.blk
  have hne : v'.ownBlock ≠ some B := fun e => by rcases hrow B e with e | e; exact h.ne e; omega
  have hb1 : w1.heap[B]? = some (.cells #[v, .int .i64 0] 98 (0, 0)) := (hg.block B hBlt (fun e => h.ne e.symm)).trans h.blk
  refine ⟨⟨?_, h.hB, ?_, hne, by simp; omega⟩, ⟨?_, hrow⟩⟩
  · rw [three_set hb1 0 v']; rfl
  · refine ownsRow_setCell_other ?_ (by simpa using hne) _
    simpa [bytesV, bitsV] using hown
  · exact ((Fr.refl (foot B v) w).grown hg (fun k e => .inl (.inr e))).setCell (.inl (.inl rfl)) _

theorem grown_past {wr w1 : World} {o : Obj} {row : Option Nat} (hgrow : (wr.alloc o).drew.grownBy w1 row) : wr.grownBy w1 row :=
  ⟨hgrow.os, hgrow.tape, hgrow.output, by have := hgrow.size; simp at this; omega, fun k hk hne => (hgrow.block k (by simp; omega) hne).trans (Below.heap_alloc wr _ k hk)⟩
theorem grown_past' {wr w1 : World} {o : Obj} {row : Option Nat} (hgrow : (wr.alloc o).grownBy w1 row) : wr.grownBy w1 row :=
  ⟨hgrow.os, hgrow.tape, hgrow.output, by have := hgrow.size; simp at this; omega, fun k hk hne => (hgrow.block k (by simp; omega) hne).trans (Below.heap_alloc wr _ k hk)⟩

theorem bit_u8 (x : Int) (h1 : -9223372036854775808 ≤ x) (h2 : x ≤ 9223372036854775807) : IntKind.u8.wrap (bits .and .i64 x 1) = ((decide (x % 2 = 1)).toNat : Int) := by
  have e : bits .and .i64 x 1 = x % 2 := by
    show IntKind.i64.wrap ((BitVec.ofInt 64 x &&& BitVec.ofInt 64 1).toNat : Int) = _
    have k : (BitVec.ofInt 64 x &&& BitVec.ofInt 64 1).toNat = (x % 2).toNat := by
      rw [BitVec.toNat_and]
      simp only [BitVec.toNat_ofInt]
      rw [show ((1 : Int) % ((2 ^ 64 : Nat) : Int)).toNat = 1 from by decide, Nat.and_one_is_mod]
      omega
    rw [k]
    have : x % 2 = 0 ∨ x % 2 = 1 := by omega
    rcases this with h | h <;> rw [h] <;> decide
  rw [e]
  have : x % 2 = 0 ∨ x % 2 = 1 := by omega
  rcases this with h | h <;> rw [h] <;> decide

set_option maxHeartbeats 1000000 in
theorem put_any (base B : Nat) (v : Value) (bs : List Bool) (width : Nat) (n : Int) (w : World) (hw : width ≤ 63) (h1 : -9223372036854775808 ≤ n) (h2 : n ≤ 9223372036854775807)
    (hn : bs.length + width ≤ 524288) (hbase : base ≤ w.heap.size) (h : RwS base w B v ⟨bs, 0⟩) :
    Calls Try.prog 81 #[.pointer (some ⟨B, 0, none⟩), .int .i64 width, .int .i64 n] w fun e w' => e = .returned (.tuple #[]) ∧ ∃ v', RwS base w' B v' ⟨bs ++ ibits width n, 0⟩ ∧ Adv w w' B v v' := by
  obtain ⟨i0, hi, hz0, hz1, hz2⟩ := info_parts Try.info5
  have HN := Lib.hid hn
  clear hn
  go_enter Try.func81, Try.ntmps81
  go_wp2
  go_loopw [6] (fun i wr => ∃ (k : Nat) (cs : List Bool) (v' : Value), k ≤ width ∧ i = .int .i64 ((width : Int) - 1 - k) ∧ Hid (cs = bs ++ (ibits width n).take k) ∧ RwS base wr B v' ⟨cs, 0⟩ ∧ Adv w wr B v v') (fun i _ => (intOf i + 1).toNat)
  case atStart => exact ⟨0, bs, v, Nat.zero_le _, by simp, by simp [Hid], h, Adv.refl _ _ _⟩
  case round =>
    obtain ⟨k, cs, v1, hk, rfl, HC, hwr, hadv⟩ := hrel
    have HW := Lib.hid hwr
    have HA := Lib.hid hadv
    clear hwr hadv h
    by_cases hlt : k < width
    · obtain ⟨c0, c1, f0, f1⟩ := two_cells HW.out.blk
      have hsz := HA.out.fr.size
      have hown := HW.out.own
      have hb := shr_bounds n (width - 1 - k) h1 h2
      have HBT := Lib.hid (bit_u8 _ hb.1 hb.2)
      have HT := Lib.hid (ibits_take width n k hlt)
      have hlen : cs.length = bs.length + k := by rw [HC.out]; simp [ibits_len]; omega
      have HCN := Lib.hid (show cs.length < 524288 by have := HN.out; omega)
      have hBlt := lt_of_blk HW.out.blk
      have hne := HW.out.ne
      clear hb hlen
      simp only at hown
      obtain ⟨x, hx⟩ : ∃ x : Int, IntKind.u8.wrap (bits .and .i64 (n / 2 ^ (width - 1 - k)) 1) = x := ⟨_, rfl⟩
      have HX := Lib.hid hx
      go_wp2_with fail
      go_region_law ((refine step_append_lies _ (by rfl) (.tmp 17) (.tmp 23) 41 (by rfl) base 5 i0 (.int .u8 0) 1 1 Try.underlying41 hi hz0 hz1 hz2 rfl (by decide) v1 _ _ (by simp [Act.eval]) ((hown.alloc _).drew) ⟨wr.heap.size, 0, none⟩ 1 1 [.int .u8 x] (by simp [Act.eval]) (by rfl) (World.news_of_block (cs := #[.int .u8 x]) (t := 5) (fr := (0, 0)) (heap_alloc_new wr _)) (by simp [Value.oneCell']) (by decide) (by have := HCN.out; unfold maxLen; omega) (by have := HCN.out; omega) (by simp; omega) (wr.heap.size + 1) (by simp) ?_; intro g cap w1 hown1 hgrow hat hlt2; have e0 : w1.frozen? ⟨B, 0, none⟩ = false := (hgrow.frozen_far _ (by simp; omega) (fun e => hne e.symm)).trans (((((Fr.refl (fun _ => False) wr).alloc _).drew).frozen (p := ⟨B, 0, none⟩) hBlt (fun h => h)).trans f0); have e1 : w1.cell? ⟨B, 0, none⟩ = some v1 := (hgrow.cell_far _ (by simp; omega) (fun e => hne e.symm)).trans (((((Fr.refl (fun _ => False) wr).alloc _).drew).cell (p := ⟨B, 0, none⟩) hBlt (fun h => h)).trans c0)))
      all_goals
        have hx2 := HX.out
        rw [HBT.out] at hx2
        subst hx2
        have hend := rws_end HW.out HCN.out (grown_past hgrow) hown1 (fun j hj => by
          have e : g = j := by simpa [Value.ownBlock] using hj
          subst e
          rcases hat with e | e
          · exact .inl e
          · exact .inr (by omega))
        have HE := Lib.hid hend
        clear hend hown1 hgrow hat hlt2 e0 e1 hown c0 c1 f0 f1 hx
        go_wp2_with fail
        go_roundw
        case rel => exact ⟨k + 1, _, _, by omega, by go_num, by rw [HT.out, ← List.append_assoc, ← HC.out]; exact Lib.hid rfl, HE.out.1, HA.out.trans HE.out.2⟩
        case measure => simp [intOf]; omega
    · go_wp2_with fail
      go_end0
      refine ⟨rfl, v1, ?_, HA.out⟩
      have := HW.out
      rwa [HC.out, List.take_of_length_le (by rw [ibits_len]; omega)] at this
end Go.Proofs.Ytelpdihaonoedaa
