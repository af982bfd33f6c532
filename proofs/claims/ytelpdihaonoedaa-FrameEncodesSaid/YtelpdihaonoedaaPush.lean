/- The writer's state in memory, and '(*Writer).push'. -/
import Derived.Test.YtelpdihaonoedaaRows
import Derived.Test.YtelpdihaonoedaaBase
import Derived.Lib.Hide
import Derived.Deep.AppendLies
namespace Go.Proofs.Ytelpdihaonoedaa
open Go.RowKit

def bytesV (l : List Nat) : List Value := l.map fun x : Nat => Value.int .u8 (x : Int)

/-- The writer at block B, which has written the bits bs; its bytes are the slice v. -/
structure Wr (base : Nat) (w : World) (B : Nat) (v : Value) (bs : List Bool) : Prop where
  blk : w.heap[B]? = some (.cells #[v, .int .i64 bs.length, .int .i64 0] 90 (0, 0))
  hB : base ≤ B
  own : ∃ l : List Nat, Packs l bs ∧ w.ownsRow base 5 1 v l.length (bytesV l)
  ne : v.ownBlock ≠ some B

def foot (B : Nat) (v : Value) : Nat → Prop := fun k => k = B ∨ v.ownBlock = some k

/-- The writer went on from w to w'. -/
structure Adv (w w' : World) (B : Nat) (v v' : Value) : Prop where
  fr : Fr (foot B v) w w'
  row : ∀ k, v'.ownBlock = some k → v.ownBlock = some k ∨ w.heap.size ≤ k

theorem Adv.refl (w : World) (B : Nat) (v : Value) : Adv w w B v v := ⟨Fr.refl _ _, fun _ h => .inl h⟩
theorem Adv.trans {a b c : World} {B : Nat} {v v' v'' : Value} (h : Adv a b B v v') (k : Adv b c B v' v'') : Adv a c B v v'' :=
  ⟨h.fr.trans k.fr (fun i hi hs => by
      rcases hs with hs | hs
      · exact .inl hs
      · rcases h.row i hs with hr | hr
        · exact .inr hr
        · omega),
   fun i hi => by
      rcases k.row i hi with hr | hr
      · exact h.row i hr
      · exact .inr (by have := h.fr.size; omega)⟩
theorem Adv.drew {w w' : World} {B : Nat} {v v' : Value} (h : Adv w w' B v v') : Adv w w'.drew B v v' := ⟨h.fr.drew, h.row⟩
theorem Adv.alloc {w w' : World} {B : Nat} {v v' : Value} (h : Adv w w' B v v') (o : Obj) : Adv w (w'.alloc o) B v v' := ⟨h.fr.alloc o, h.row⟩

theorem Wr.alloc {base : Nat} {w : World} {B : Nat} {v : Value} {bs : List Bool} (h : Wr base w B v bs) (o : Obj) : Wr base (w.alloc o) B v bs :=
  ⟨alloc_keeps h.blk o, h.hB, by obtain ⟨l, h1, h2⟩ := h.own; exact ⟨l, h1, h2.alloc o⟩, h.ne⟩
theorem Wr.drew {base : Nat} {w : World} {B : Nat} {v : Value} {bs : List Bool} (h : Wr base w B v bs) : Wr base w.drew B v bs := ⟨h.blk, h.hB, h.own, h.ne⟩
theorem Wr.kept {base : Nat} {w w' : World} {B : Nat} {v : Value} {bs : List Bool} {S : Nat → Prop} (h : Wr base w B v bs) (hf : Fr S w w') (h1 : ¬ S B) (h2 : ∀ k, v.ownBlock = some k → ¬ S k) : Wr base w' B v bs := by
  refine ⟨hf.blk h.blk h1, h.hB, ?_, h.ne⟩
  obtain ⟨l, p, o⟩ := h.own
  refine ⟨l, p, o.1, ?_⟩
  rcases o.2 with hn | ⟨g, cap, cur, rfl, hb, hg, rest⟩
  · exact .inl hn
  · exact .inr ⟨g, cap, cur, rfl, hb, hf.blk hg (h2 g rfl), rest⟩

theorem Try.info5 : (Try.prog.info? 5).map (fun i => (i.zero, i.size, i.bytes)) = some (some (.int .u8 0), 1, 1) := by kernel_rfl

theorem or_bits (x p : Nat) (hx : x < 256) (hp : p < 8) : bits .or .u8 (x : Int) ((128 : Int) / 2 ^ p) = ((x ||| 2 ^ (7 - p) : Nat) : Int) := by
  have e : (128 : Int) / 2 ^ p = ((2 ^ (7 - p) : Nat) : Int) := by
    have : p = 0 ∨ p = 1 ∨ p = 2 ∨ p = 3 ∨ p = 4 ∨ p = 5 ∨ p = 6 ∨ p = 7 := by omega
    rcases this with rfl | rfl | rfl | rfl | rfl | rfl | rfl | rfl <;> decide
  have h2 : 2 ^ (7 - p) < 256 := Nat.pow_lt_pow_right (n := 8) (a := 2) (by decide) (by omega)
  have h3 : x ||| 2 ^ (7 - p) < 256 := Nat.or_lt_two_pow (n := 8) hx h2
  rw [e]
  generalize 2 ^ (7 - p) = y at *
  show IntKind.u8.wrap ((BitVec.ofInt 8 (x : Int) ||| BitVec.ofInt 8 (y : Int)).toNat : Int) = _
  have k3 : (BitVec.ofInt 8 (x : Int) ||| BitVec.ofInt 8 (y : Int)).toNat = x ||| y := by
    simp [BitVec.toNat_or]
    rw [Nat.mod_eq_of_lt hx, Nat.mod_eq_of_lt h2]
  rw [k3]
  simp [IntKind.wrap, IntKind.signed, IntKind.bits]
  omega

set_option maxHeartbeats 1000000 in
/-- A bit 1 within a byte. -/
theorem push_set (B g : Nat) (n len cap : Nat) (x : Nat) (w : World) (hn : n < 524288) (hp : ((n : Int) % 8 == 0) = false) (hl : 1 ≤ len) (hl2 : len ≤ 65536) (hx : x < 256)
   (h0 : w.cell? ⟨B, 0, none⟩ = some (.slice (some ⟨g, 0, none⟩) len cap)) (h1 : w.cell? ⟨B, 1, none⟩ = some (.int .i64 n)) (f1 : w.frozen? ⟨B, 1, none⟩ = false) (hgB : g ≠ B)
   (hg : w.cell? ⟨g, len - 1, none⟩ = some (.int .u8 x)) (fg : w.frozen? ⟨g, len - 1, none⟩ = false) :
    Calls Try.prog 111 #[.pointer (some ⟨B, 0, none⟩), .bool true] w fun e w' => e = .returned (.tuple #[]) ∧ w' = ((w.setCell ⟨g, len - 1, none⟩ (.int .u8 ((x ||| 2 ^ (7 - n % 8) : Nat) : Int))).setCell ⟨B, 1, none⟩ (.int .i64 (n + 1))).drew := by
  have hb := Lib.hid (or_bits x (n % 8) hx (by omega))
  go_enter Try.func111, Try.ntmps111
  go_wp2
  go_region
  go_wp2
  go_end0
  rw [← hb.out]
  exact ⟨rfl, rfl⟩

set_option maxHeartbeats 1000000 in
/-- A bit 0 within a byte. -/
theorem push_clear (B : Nat) (n : Nat) (w : World) (hn : n < 524288) (hp : ((n : Int) % 8 == 0) = false)
   (h1 : w.cell? ⟨B, 1, none⟩ = some (.int .i64 n)) (f1 : w.frozen? ⟨B, 1, none⟩ = false) :
    Calls Try.prog 111 #[.pointer (some ⟨B, 0, none⟩), .bool false] w fun e w' => e = .returned (.tuple #[]) ∧ w' = w.setCell ⟨B, 1, none⟩ (.int .i64 (n + 1)) := by
  go_enter Try.func111, Try.ntmps111
  go_wp2
  go_end0
  exact ⟨rfl, rfl⟩

theorem bytesV_len (l : List Nat) : (bytesV l).length = l.length := by simp [bytesV]
theorem bytesV_get (l : List Nat) (j : Nat) (h : j < l.length) : (bytesV l)[j]? = some (Value.int .u8 ((l.getD j 0 : Nat) : Int)) := by
  simp [bytesV, List.getD_eq_getElem?_getD, h]
theorem bytesV_set (l : List Nat) (j x : Nat) : (bytesV l).set j (Value.int .u8 (x : Int)) = bytesV (l.set j x) := by simp [bytesV, List.map_set]

/-- What the two stores of a push leave. -/
theorem wr_end {base B : Nat} {v : Value} {bs : List Bool} {w w1 : World} {v' : Value} {l' : List Nat} {b : Bool} (h : Wr base w B v bs) (hg : w.grownBy w1 v.ownBlock) (hown : w1.ownsRow base 5 1 v' l'.length (bytesV l')) (hp : Packs l' (bs ++ [b]))
    (hrow : ∀ k, v'.ownBlock = some k → v.ownBlock = some k ∨ w.heap.size ≤ k) {n : Int} (hn : n = ((bs.length : Int) + 1)) : 
    Wr base ((w1.setCell ⟨B, 0, none⟩ v').setCell ⟨B, 1, none⟩ (.int .i64 n)) B v' (bs ++ [b]) ∧ Adv w ((w1.setCell ⟨B, 0, none⟩ v').setCell ⟨B, 1, none⟩ (.int .i64 n)) B v v' := by
  have hBlt := lt_of_blk h.blk
  have hne : v'.ownBlock ≠ some B := fun e => by rcases hrow B e with e | e; exact h.ne e; omega
  have hb1 : w1.heap[B]? = some (.cells #[v, .int .i64 bs.length, .int .i64 0] 90 (0, 0)) := (hg.block B hBlt (fun e => h.ne e.symm)).trans h.blk
  refine ⟨⟨?_, h.hB, ⟨l', hp, ?_⟩, hne⟩, ⟨?_, hrow⟩⟩
  · have := three_set (three_set hb1 0 v') 1 (.int .i64 n)
    rw [this]
    subst hn
    simp
  · exact ownsRow_setCell_other (ownsRow_setCell_other hown (by simpa using hne) _) (by simpa using hne) _
  · exact ((Fr.refl (foot B v) w).grown hg (fun k e => .inl (.inr e))).setCell (.inl (.inl rfl)) _ |>.setCell (.inl (.inl rfl)) _

set_option maxHeartbeats 1000000 in
/-- A bit 0 at the head of a byte. -/
theorem push_head_clear (base B : Nat) (v : Value) (bs : List Bool) (w : World) (hn : bs.length < 524288) (hp1 : bs.length % 8 = 0)
   (hbase : base ≤ w.heap.size) (h : Wr base w B v bs) :
    Calls Try.prog 111 #[.pointer (some ⟨B, 0, none⟩), .bool false] w fun e w' => e = .returned (.tuple #[]) ∧ ∃ v', Wr base w' B v' (bs ++ [false]) ∧ Adv w w' B v v' := by
  obtain ⟨i0, hi, hz0, hz1, hz2⟩ := info_parts Try.info5
  have H := Lib.hid h
  obtain ⟨h0, h1, _, f0, f1, _⟩ := three_cells h.blk
  obtain ⟨l, hpk, hown⟩ := h.own
  have HP := Lib.hid hpk
  have hln : l.length ≤ 65535 := by have := hpk.len; omega
  have hBlt := lt_of_blk h.blk
  have hne := h.ne
  have hp : ((bs.length : Int) % 8 == 0) = true := by simp; omega
  clear h hpk
  have HP1 := Lib.hid hp1
  clear hp1
  go_enter Try.func111, Try.ntmps111
  go_wp2_with (at_builtin; refine wpList_append_lies _ rfl (.tmp 16) (.tmp 17) 41 rfl base 5 i0 (.int .u8 0) 1 1 Try.underlying41 hi hz0 hz1 hz2 rfl (by decide) v l.length _ rfl (hown.alloc _) ⟨w.heap.size, 0, none⟩ 1 1 [.int .u8 0] rfl rfl ?c1 ?c2 ?c3 ?c4 ?c5 ?c6 (w.heap.size + 1) ?c7 ?_)
  case c1 => exact cell_one_new _ _ _
  case c2 => intro u hu; simp at hu; subst hu; rfl
  case c3 => decide
  case c4 => unfold maxLen; omega
  case c5 => omega
  case c6 => simp; omega
  case c7 => simp
  intro g cap w1 hown' hgrow hat hlt
  have g0 : w.grownBy w1 v.ownBlock := ⟨hgrow.os, hgrow.tape, hgrow.output, by have := hgrow.size; simp at this; omega, fun k hk hne => (hgrow.block k (by simp; omega) hne).trans (Below.heap_alloc w _ k hk)⟩
  have hBn : some B ≠ v.ownBlock := fun e => hne e.symm
  have c1 : w1.cell? ⟨B, 1, none⟩ = some (.int .i64 bs.length) := g0.cell h1 hBn
  have e0 : w1.frozen? ⟨B, 0, none⟩ = false := (World.frozen?_of_block (g0.block B hBlt hBn)).trans f0
  have e1 : w1.frozen? ⟨B, 1, none⟩ = false := (World.frozen?_of_block (g0.block B hBlt hBn)).trans f1
  have c0 : w1.cell? ⟨B, 0, none⟩ = some v := g0.cell h0 hBn
  have G0 := Lib.hid g0
  have HO := Lib.hid hown'
  clear hown hown' hgrow h0 h1 f0 f1 hlt g0
  go_wp2
  go_end0
  refine ⟨rfl, .slice (some ⟨g, 0, none⟩) (l.length + 1) cap, ?_⟩
  refine wr_end H.out G0.out (l' := l ++ [0]) (by simpa [bytesV] using HO.out) (by simpa using HP.out.whole false HP1.out) (fun k hk => ?_) rfl
  have e : g = k := by simpa [Value.ownBlock] using hk
  subst e
  rcases hat with e | e
  · exact .inl e
  · exact .inr (by omega)

set_option maxHeartbeats 1000000 in
/-- A bit 1 at the head of a byte. -/
theorem push_head_set (base B : Nat) (v : Value) (bs : List Bool) (w : World) (hn : bs.length < 524288) (hp1 : bs.length % 8 = 0)
   (hbase : base ≤ w.heap.size) (h : Wr base w B v bs) :
    Calls Try.prog 111 #[.pointer (some ⟨B, 0, none⟩), .bool true] w fun e w' => e = .returned (.tuple #[]) ∧ ∃ v', Wr base w' B v' (bs ++ [true]) ∧ Adv w w' B v v' := by
  obtain ⟨i0, hi, hz0, hz1, hz2⟩ := info_parts Try.info5
  have H := Lib.hid h
  obtain ⟨h0, h1, _, f0, f1, _⟩ := three_cells h.blk
  obtain ⟨l, hpk, hown⟩ := h.own
  have HP := Lib.hid hpk
  have hln : l.length ≤ 65535 := by have := hpk.len; omega
  have hBlt := lt_of_blk h.blk
  have hne := h.ne
  have hp : ((bs.length : Int) % 8 == 0) = true := by simp; omega
  clear h hpk
  have HP1 := Lib.hid hp1
  clear hp1
  go_enter Try.func111, Try.ntmps111
  go_wp2_with (at_builtin; refine wpList_append_lies _ rfl (.tmp 16) (.tmp 17) 41 rfl base 5 i0 (.int .u8 0) 1 1 Try.underlying41 hi hz0 hz1 hz2 rfl (by decide) v l.length _ rfl (hown.alloc _) ⟨w.heap.size, 0, none⟩ 1 1 [.int .u8 0] rfl rfl ?c1 ?c2 ?c3 ?c4 ?c5 ?c6 (w.heap.size + 1) ?c7 ?_)
  case c1 => exact cell_one_new _ _ _
  case c2 => intro u hu; simp at hu; subst hu; rfl
  case c3 => decide
  case c4 => unfold maxLen; omega
  case c5 => omega
  case c6 => simp; omega
  case c7 => simp
  intro g cap w1 hown' hgrow hat hlt
  have g0 : w.grownBy w1 v.ownBlock := ⟨hgrow.os, hgrow.tape, hgrow.output, by have := hgrow.size; simp at this; omega, fun k hk hne => (hgrow.block k (by simp; omega) hne).trans (Below.heap_alloc w _ k hk)⟩
  have hBn : some B ≠ v.ownBlock := fun e => hne e.symm
  have c1 : w1.cell? ⟨B, 1, none⟩ = some (.int .i64 bs.length) := g0.cell h1 hBn
  have e0 : w1.frozen? ⟨B, 0, none⟩ = false := (World.frozen?_of_block (g0.block B hBlt hBn)).trans f0
  have e1 : w1.frozen? ⟨B, 1, none⟩ = false := (World.frozen?_of_block (g0.block B hBlt hBn)).trans f1
  have c0 : w1.cell? ⟨B, 0, none⟩ = some v := g0.cell h0 hBn
  have hgB : g ≠ B := by rintro rfl; rcases hat with h | h; exact hne h; omega
  have hBg : B ≠ g := fun e => hgB e.symm
  have hg : w1.cell? ⟨g, l.length, none⟩ = some (.int .u8 0) := by
    rw [hown'.cellAt l.length (by omega)]; simp [bytesV]
  have hfg : w1.frozen? ⟨g, l.length, none⟩ = false := hown'.frozenAt l.length
  have G0 := Lib.hid g0
  have HO := Lib.hid hown'
  have HA := Lib.hid hat
  clear hown hown' hgrow h0 h1 f0 f1 hlt g0 hat
  go_wp2
  go_region
  go_wp2
  go_end0
  refine ⟨rfl, .slice (some ⟨g, 0, none⟩) (l.length + 1) cap, ?_⟩
  have hb : bits .or .u8 (0 : Int) (128 / 2 ^ (bs.length % 8)) = ((128 : Nat) : Int) := by rw [HP1.out]; decide
  rw [hb, set_comm w1 ⟨B, 0, none⟩ ⟨g, l.length, none⟩ _ _ hBg]
  have hst := HO.out.stored l.length (.int .u8 ((128 : Nat) : Int))
  have e2 : (bytesV l ++ [Value.int IntKind.u8 0]).set l.length (.int .u8 ((128 : Nat) : Int)) = bytesV (l ++ [128]) := by
    rw [List.set_append, if_neg (by simp [bytesV])]
    simp [bytesV]
  rw [e2] at hst
  have hg1 : w.grownBy (w1.setCell ⟨g, l.length, none⟩ (.int .u8 ((128 : Nat) : Int))) v.ownBlock := by
    refine ⟨G0.out.os, G0.out.tape, G0.out.output, Nat.le_trans G0.out.size hst.2.size, fun k hk hne' => (hst.2.block k (Nat.lt_of_lt_of_le hk G0.out.size) ?_).trans (G0.out.block k hk hne')⟩
    rintro e
    simp only [Option.some.injEq] at e
    subst e
    rcases HA.out with e | e
    · exact hne' e.symm
    · omega
  obtain ⟨r1, r2⟩ := wr_end H.out hg1 (l' := l ++ [128]) (by rw [List.length_append]; exact hst.1) (by simpa using HP.out.whole true HP1.out) (fun k hk => by
    have e : g = k := by simpa [Value.ownBlock] using hk
    subst e
    rcases HA.out with e | e
    · exact .inl e
    · exact .inr (by omega)) rfl
  exact ⟨r1.drew, r2.drew⟩

/-- '(*Writer).push': a bit more. -/
theorem push_any (base B : Nat) (v : Value) (bs : List Bool) (b : Bool) (w : World) (hn : bs.length < 524288) (hbase : base ≤ w.heap.size) (h : Wr base w B v bs) :
    Calls Try.prog 111 #[.pointer (some ⟨B, 0, none⟩), .bool b] w fun e w' => e = .returned (.tuple #[]) ∧ ∃ v', Wr base w' B v' (bs ++ [b]) ∧ Adv w w' B v v' := by
  by_cases hp1 : bs.length % 8 = 0
  · cases b
    · exact push_head_clear base B v bs w hn hp1 hbase h
    · exact push_head_set base B v bs w hn hp1 hbase h
  · have hp : ((bs.length : Int) % 8 == 0) = false := by simp; omega
    obtain ⟨h0, h1, _, f0, f1, _⟩ := three_cells h.blk
    obtain ⟨l, hpk, hown⟩ := h.own
    have hlen := hpk.len
    have hg0 : w.grownBy w v.ownBlock := World.grownBy.refl _ _
    have same : w.setCell ⟨B, 0, none⟩ v = w := by
      cases w with | mk heap tape drawn os output => 
      simp only [World.setCell, World.mk.injEq, and_true]
      refine Array.ext (by simp) fun i h1 h2 => ?_
      simp only [Array.getElem_modify]
      split
      · rename_i e
        have hb := h.blk
        simp only at hb
        rw [e] at hb
        obtain ⟨_, hb⟩ := Array.getElem?_eq_some_iff.1 hb
        rw [hb]
        simp
      · rfl
    cases b
    · refine (push_clear B bs.length w hn hp h1 f1).mono ?_
      rintro e w' ⟨rfl, rfl⟩
      refine ⟨rfl, v, ?_⟩
      have := wr_end (v' := v) (b := false) h hg0 hown (hpk.part hp1) (fun k hk => .inl hk) (n := (bs.length : Int) + 1) rfl
      rwa [same] at this
    · obtain ⟨g, cap, rfl, hb, hlt⟩ := hown.form (by omega)
      have hgB : g ≠ B := by rintro rfl; exact h.ne rfl
      have hcell : w.cell? ⟨g, l.length - 1, none⟩ = some (.int .u8 ((l.getD (l.length - 1) 0 : Nat) : Int)) := by
        rw [hown.cellAt (l.length - 1) (by omega)]; exact bytesV_get l _ (by omega)
      refine (push_set B g bs.length l.length cap (l.getD (l.length - 1) 0) w hn hp (by omega) (by omega) (hpk.byte _) h0 h1 f1 hgB hcell (hown.frozenAt _)).mono ?_
      rintro e w' ⟨rfl, rfl⟩
      have hst := hown.stored (l.length - 1) (.int .u8 ((l.getD (l.length - 1) 0 ||| 2 ^ (7 - bs.length % 8) : Nat) : Int))
      rw [bytesV_set] at hst
      refine ⟨rfl, .slice (some ⟨g, 0, none⟩) l.length cap, ?_⟩
      have hg1 : w.grownBy (w.setCell ⟨g, l.length - 1, none⟩ (.int .u8 ((l.getD (l.length - 1) 0 ||| 2 ^ (7 - bs.length % 8) : Nat) : Int))) (Value.slice (some ⟨g, 0, none⟩) l.length cap).ownBlock := hst.2
      have := wr_end (b := true) h hg1 (by simpa using hst.1) (hpk.set hp1) (fun k hk => .inl hk) (n := (bs.length : Int) + 1) rfl
      have hsame2 : (w.setCell ⟨g, l.length - 1, none⟩ (.int .u8 ((l.getD (l.length - 1) 0 ||| 2 ^ (7 - bs.length % 8) : Nat) : Int))).setCell ⟨B, 0, none⟩ (.slice (some ⟨g, 0, none⟩) l.length cap) = w.setCell ⟨g, l.length - 1, none⟩ (.int .u8 ((l.getD (l.length - 1) 0 ||| 2 ^ (7 - bs.length % 8) : Nat) : Int)) := by
        rw [set_comm _ _ _ _ _ (show g ≠ B from hgB), same]
      rw [hsame2] at this
      exact ⟨this.1.drew, this.2.drew⟩
end Go.Proofs.Ytelpdihaonoedaa
