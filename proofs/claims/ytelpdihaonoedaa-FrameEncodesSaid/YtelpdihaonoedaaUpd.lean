/- The tables of half bytes: remainders. -/
import Derived.Test.YtelpdihaonoedaaPow
import Derived.Test.YtelpdihaonoedaaRead3
import Derived.BigRegion
import Derived.Deep.MidRow
import Derived.Deep.WholeRow
namespace Go.Proofs.Ytelpdihaonoedaa
open Go.RowKit
set_option linter.unusedVariables false
set_option maxRecDepth 20000

def cellsV (l : List Wd) : List Value := l.map fun x => .int .u16 (x.toNat : Int)
structure Arr (w : World) (B T : Nat) (l : List Wd) : Prop where
  blk : w.heap[B]? = some (.cells (cellsV l).toArray T (0, 0))
theorem Arr.lt {w : World} {B T : Nat} {l : List Wd} (h : Arr w B T l) : B < w.heap.size := lt_of_blk h.blk
theorem cellsV_get (l : List Wd) (i : Nat) (hi : i < l.length) : (cellsV l)[i]? = some (.int .u16 ((l.getD i 0).toNat : Int)) := by
  simp [cellsV, List.getElem?_eq_getElem hi, List.getD_eq_getElem?_getD]
theorem Arr.cell {w : World} {B T : Nat} {l : List Wd} (h : Arr w B T l) (i : Nat) (hi : i < l.length) : w.cell? ⟨B, i, none⟩ = some (.int .u16 ((l.getD i 0).toNat : Int)) := by
  have := cellsV_get l i hi
  simp [World.cell?, h.blk, this]
theorem Arr.frozen {w : World} {B T : Nat} {l : List Wd} (h : Arr w B T l) (i : Nat) : w.frozen? ⟨B, i, none⟩ = false := by
  simp [World.frozen?, h.blk]
theorem Arr.set {w : World} {B T : Nat} {l : List Wd} (h : Arr w B T l) (i : Nat) (x : Wd) : Arr (w.setCell ⟨B, i, none⟩ (.int .u16 (x.toNat : Int))) B T (l.set i x) := by
  refine ⟨?_⟩
  rw [three_set h.blk i _]
  simp [cellsV, List.map_set]
theorem Arr.other {w : World} {B T C : Nat} {l : List Wd} (h : Arr w B T l) (hC : B ≠ C) (i : Nat) (u : Value) : Arr (w.setCell ⟨C, i, none⟩ u) B T l := ⟨other_set h.blk u hC⟩
theorem Arr.kept {w w' : World} {B T : Nat} {l : List Wd} {S : Nat → Prop} (h : Arr w B T l) (hf : Fr S w w') (h1 : ¬ S B) : Arr w' B T l := ⟨hf.blk h.blk h1⟩

theorem conv_shl (k : Nat) (hk : k < 16) : (k : Int) * 4096 = ((BitVec.ofNat 16 (4096 * k)).toNat : Int) := by
  rw [BitVec.toNat_ofNat]
  omega
set_option maxHeartbeats 1000000 in
theorem entry_any (B T k : Nat) (l : List Wd) (w : World) (hk : k < 16) (hl : l.length = 16) (h : Arr w B T l) :
    Calls Try.prog 133 #[.int .i64 (k : Int), .pointer (some ⟨B, 0, none⟩)] w fun e w' => e = .returned (.tuple #[]) ∧ w' = w.setCell ⟨B, k, none⟩ (.int .u16 ((tab k).toNat : Int)) := by
  have hfz := h.frozen k
  have hcell := h.cell k (by omega)
  obtain ⟨y, hx⟩ : ∃ y : Wd, y = BitVec.ofNat 16 (4096 * k) := ⟨_, rfl⟩
  have HC := Lib.hid (conv_shl k hk)
  have HX := Lib.hid (show tab k = txn 4 y by rw [hx]; rfl)
  rw [← hx] at HC
  clear hx
  go_enter Try.func133, Try.ntmps133
  go_wp2_with fail
  rw [HC.out]
  go_loopw [3, 7] (fun x i wr => ∃ j : Nat, j ≤ 4 ∧ i = .int .i64 j ∧ x = .int .u16 ((txn j y).toNat : Int) ∧ wr = w) (fun _ i _ => 4 - (intOf i).toNat)
  case atStart => exact ⟨0, by decide, rfl, rfl, rfl⟩
  case round =>
    obtain ⟨j, hj, rfl, rfl, rfl⟩ := hrel
    by_cases hlt : j < 4
    · clear hfz hcell
      go_wp2_with fail
      refine (shift_any _ _).mono ?_
      rintro e w1 ⟨rfl, rfl⟩
      go_wp2_with fail
      go_roundw
      case rel => exact ⟨j + 1, by omega, by go_num, rfl, trivial⟩
      case measure => simp [intOf]; omega
    · obtain rfl : j = 4 := by omega
      go_wp2_with fail
      trace_state
      go_end0
      rw [HX.out]
      exact ⟨rfl, rfl⟩

theorem second_new (w : World) (A B : Obj) : ((w.alloc A).alloc B).heap[w.heap.size + 1]? = some B := by
  have := heap_alloc_new (w.alloc A) B
  simpa using this
theorem Fr.setCells {S : Nat → Prop} {a w : World} (h : Fr S a w) {b : Nat} (hp : S b ∨ a.heap.size ≤ b) (o : Nat) (l : List Value) : Fr S a (w.setCells b o l) := by
  induction l generalizing o w with
  | nil => exact h
  | cons v r ih => exact ih (h.setCell (p := ⟨b, o, none⟩) hp v) (o + 1)
theorem Arr.range {w : World} {B T : Nat} {l : List Wd} (h : Arr w B T l) : w.rangeAt B 0 (cellsV l) := by
  intro j v hv
  have : (cellsV l).toArray[j]? = some v := by simpa using hv
  simp [World.cell?, h.blk, hv]
theorem Arr.there {w : World} {B T : Nat} {l : List Wd} (h : Arr w B T l) (n : Nat) (hn : n ≤ l.length) : w.there B 0 n := by
  intro j hj
  rw [Nat.zero_add]
  exact ⟨by rw [h.cell j (by omega)]; rfl, h.frozen j⟩
theorem cellsV_one (l : List Wd) : ∀ v ∈ cellsV l, v.oneCell' = true := by
  intro v hv
  simp only [cellsV, List.mem_map] at hv
  obtain ⟨x, _, rfl⟩ := hv
  rfl
def tabV : Array Value := #[.int .u16 0, .int .u16 4129, .int .u16 8258, .int .u16 12387, .int .u16 16516, .int .u16 20645, .int .u16 24774, .int .u16 28903, .int .u16 33032, .int .u16 37161, .int .u16 41290, .int .u16 45419, .int .u16 49548, .int .u16 53677, .int .u16 57806, .int .u16 61935]
def tabL : List Wd := [0#16, 4129#16, 8258#16, 12387#16, 16516#16, 20645#16, 24774#16, 28903#16, 33032#16, 37161#16, 41290#16, 45419#16, 49548#16, 53677#16, 57806#16, 61935#16]
theorem tabL_get : ∀ k : Fin 16, tabL.getD k.val 0#16 = tab k.val := by decide
theorem tabL_set (k : Nat) (hk : k < 16) : (tabL.take k ++ List.replicate (16 - k) 0#16).set k (tab k) = tabL.take (k + 1) ++ List.replicate (16 - (k + 1)) 0#16 := by
  have : ∀ k : Fin 16, (tabL.take k.val ++ List.replicate (16 - k.val) 0#16).set k.val (tab k.val) = tabL.take (k.val + 1) ++ List.replicate (16 - (k.val + 1)) 0#16 := by decide
  exact this ⟨k, hk⟩
def no (_ : Nat) : Prop := False
set_option maxHeartbeats 2000000 in
theorem table_any (w : World) :
    Calls Try.prog 129 #[] w fun e w' => e = .returned (.agg (cellsV tabL).toArray) ∧ Fr no w w' := by
  have hmf : ∀ (fn : Fn) (first cap : Array Value) (w : World), (Instr.makeFunc fn first cap).run Try.prog w = .ok (.func fn first cap) w := fun _ _ _ _ => rfl
  go_enter Try.func129, Try.ntmps129
  go_wp2_with fail
  go_loopw [3, 5] (fun _ i wr => ∃ k : Nat, k ≤ 16 ∧ i = .int .i64 k ∧ Arr wr (w.heap.size + 1) 123 (tabL.take k ++ List.replicate (16 - k) 0#16) ∧ Fr (only (w.heap.size + 1)) ((w.alloc (.cells (cellsV (List.replicate 16 0#16)).toArray 123 (0, 0))).alloc (.cells (cellsV (List.replicate 16 0#16)).toArray 123 (0, 0))) wr) (fun _ i _ => 16 - (intOf i).toNat)
  case atStart => exact ⟨0, Nat.zero_le _, rfl, ⟨second_new w _ _⟩, Fr.refl _ _⟩
  case round =>
    obtain ⟨k, hk, rfl, hv, hf⟩ := hrel
    have HS := Lib.hid hv
    have HF := Lib.hid hf
    clear hv hf
    by_cases hlt : k < 16
    · have HN := Lib.hid (tabL_set k hlt)
      have HE := Lib.hid (entry_any (w.heap.size + 1) 123 k _ wr hlt (by simp [tabL]; omega) HS.out)
      go_wp2_with fail
      refine HE.out.mono ?_
      rintro e w1 ⟨rfl, hw1⟩
      have HS1 := Lib.hid (show Arr w1 (w.heap.size + 1) 123 (tabL.take (k + 1) ++ List.replicate (16 - (k + 1)) 0#16) by rw [hw1, ← HN.out]; exact HS.out.set k _)
      have HF1 := Lib.hid (show Fr (only (w.heap.size + 1)) _ w1 by rw [hw1]; exact HF.out.setCell (p := ⟨w.heap.size + 1, k, none⟩) (.inl rfl) _)
      clear hw1
      go_wp2_with fail
      go_roundw
      case rel => exact ⟨k + 1, by omega, by go_num, HS1.out, HF1.out⟩
      case measure => simp [intOf]; omega
    · obtain rfl : k = 16 := by omega
      have h0 : Arr wr w.heap.size 123 (List.replicate 16 0#16) := ⟨HF.out.blk (k := w.heap.size) (alloc_keeps (heap_alloc_new w _) _) (by simp only [only]; omega)⟩
      have h1 : Arr wr (w.heap.size + 1) 123 tabL := HS.out
      have hu : Try.prog.underlying 123 = some (.array 16 40) := by kernel_rfl
      have hi : (Try.prog.info? 123).map (·.size) = some 16 := by kernel_rfl
      have hrg := h1.range
      have hth : wr.there w.heap.size 0 (cellsV tabL).toArray.size := h0.there 16 (by simp)
      have hi2 : (Try.prog.info? 123).map (·.size) = some (cellsV tabL).toArray.size := hi
      have h1c := all_oneCell_toArray (cellsV_one tabL)
      obtain ⟨w2, hw2⟩ : ∃ w2, w2 = wr.setCells w.heap.size 0 (cellsV tabL).toArray.toList := ⟨_, rfl⟩
      have HL2 := Lib.hid (run_loadVar_mid (P := Try.prog) w2 w.heap.size 0 123 (cellsV tabL) _ (by rw [hw2]; exact World.rangeAt_setCells_same _ _ _ _ hth) hu rfl hi)
      have HF2 := Lib.hid (show Fr no w w2 by
        rw [hw2]
        refine Fr.setCells ?_ (.inr (Nat.le_refl _)) _ _
        exact (((Fr.refl no w).alloc _).alloc _).trans (HF.out.mono (S' := fun k => w.heap.size ≤ k) (fun k _ hk => by rw [show k = _ from hk]; omega)) (fun k hk h => by have : w.heap.size ≤ k := h; omega))
      clear h0 h1
      generalize hG : (cellsV tabL).toArray = G at *
      have hx2 : ∀ a b : Value, (Value.agg (cellsV tabL).toArray : Value) = .agg G := fun _ _ => by rw [hG]
      clear hx2
      go_wp2_with (refine wpList_load_mid rfl 123 (.tmp 1) rfl (w.heap.size + 1) 0 ?hx (cellsV tabL) _ hrg hu rfl hi ?_; (case hx => rfl); rw [hG]; refine wpList_store_mid rfl 123 (.tmp 0) (.tmp 12) rfl w.heap.size 0 G ?hx ?hy hth hi2 h1c ?_; (case hx => rfl); (case hy => rfl); rw [← hw2])
      refine bodyPost_ret (v := .agg (cellsV tabL).toArray) ?_ rfl ⟨rfl, HF2.out⟩
      have hl2 := HL2.out
      rw [hG]
      clear hrg hth hi2 h1c hw2 hu hi hG HF2 HL2 HF HS
      simp [results, Try.results129, Act.put, asAddr, hl2]
theorem half_bound (s : Wd) (h : Nat) (hh : h < 16) : ((s >>> 12) ^^^ BitVec.ofNat 16 h).toNat < 16 := by
  rw [BitVec.toNat_xor, BitVec.toNat_ofNat, BitVec.toNat_ushiftRight, Nat.shiftRight_eq_div_pow]
  have := s.isLt
  exact Nat.xor_lt_two_pow (n := 4) (by omega) (by omega)
theorem Arr.alloc {w : World} {B T : Nat} {l : List Wd} (h : Arr w B T l) (o : Obj) : Arr (w.alloc o) B T l := h.kept ((Fr.refl no w).alloc o) (fun h => h)
set_option maxHeartbeats 1000000 in
theorem div_any (S T h : Nat) (s : Wd) (w : World) (hh : h < 16) (hs : w.cell? ⟨S, 0, none⟩ = some (.int .u16 (s.toNat : Int))) (hf : w.frozen? ⟨S, 0, none⟩ = false) (ht : Arr w T 123 tabL) (hne : T ≠ S) :
    Calls Try.prog 130 #[.int .u8 (h : Int), .pointer (some ⟨S, 0, none⟩), .pointer (some ⟨T, 0, none⟩)] w fun e w' => e = .returned (.tuple #[]) ∧ w' = (w.setCell ⟨S, 0, none⟩ (.int .u16 ((half s h).toNat : Int))).drew := by
  obtain ⟨q, hq⟩ : ∃ q : Nat, q = ((s >>> 12) ^^^ BitVec.ofNat 16 h).toNat := ⟨_, rfl⟩
  have hq16 : q < 16 := by rw [hq]; exact half_bound s h hh
  have hx : bits .xor .u16 ((s.toNat : Int) / 4096) (h : Int) = (q : Int) := by
    rw [hq, ← bits_xor, ← shr_toNat s 12]
    congr 1
    rw [BitVec.toNat_ofNat]
    omega
  have hc := ht.cell q (by rw [show tabL.length = 16 from rfl]; exact hq16)
  rw [show tabL.getD q 0 = tab q from tabL_get ⟨q, hq16⟩] at hc
  have HH := Lib.hid (show half s h = (s <<< 4) ^^^ tab q by rw [half, ← hq])
  have HX := Lib.hid (bits_xor (s <<< 4) (tab q))
  have HW := Lib.hid (show IntKind.u16.wrap ((s.toNat : Int) * 16) = ((s <<< 4).toNat : Int) by rw [IntKind.wrap_u16, ← shl_toNat s 4]; rfl)
  clear hq
  go_enter Try.func130, Try.ntmps130
  go_wp2_with fail
  go_region
  go_wp2_with fail
  go_end0
  rw [HW.out, HX.out, HH.out]
  exact ⟨rfl, rfl⟩

theorem div_blk (S T h : Nat) (s : Wd) (w : World) (hh : h < 16) (hs : w.heap[S]? = some (.cells #[.int .u16 (s.toNat : Int)] 40 (0, 0))) (ht : Arr w T 123 tabL) (hne : T ≠ S) :
    Calls Try.prog 130 #[.int .u8 (h : Int), .pointer (some ⟨S, 0, none⟩), .pointer (some ⟨T, 0, none⟩)] w fun e w' => e = .returned (.tuple #[]) ∧ w'.heap[S]? = some (.cells #[.int .u16 ((half s h).toNat : Int)] 40 (0, 0)) ∧ Fr (only S) w w' := by
  refine (div_any S T h s w hh (by simp [World.cell?, hs]) (by simp [World.frozen?, hs]) ht hne).mono ?_
  rintro e w' ⟨rfl, rfl⟩
  exact ⟨rfl, three_set hs 0 _, ((Fr.refl (only S) w).setCell (p := ⟨S, 0, none⟩) (.inl rfl) _).drew⟩
def bytesOf (s : ByteArray) : List Nat := s.data.toList.map UInt8.toNat
theorem bytesOf_len (s : ByteArray) : (bytesOf s).length = s.size := by simp [bytesOf]
theorem bytesOf_take (d : ByteArray) (k : Nat) (hk : k < d.size) : (bytesOf d).take (k + 1) = (bytesOf d).take k ++ [(d[k]).toNat] := by
  rw [List.take_succ_eq_append_getElem (by rw [bytesOf_len]; exact hk)]
  congr 2
  simp [bytesOf]
  rfl
theorem wpList_store_new {P : Program} {ops : Array Oper} {rest : List Oper} {op : Oper} {a : Act} {w : World} {Q : Exit → Act → World → Prop} (hgd : op.guard = none) (ty : TypeId) (x y : Operand) (ho : op.op = .store ty x y)
    (c cells : Array Value) (hx : a.eval x = .pointer (some ⟨w.heap.size, 0, none⟩)) (hy : a.eval y = .agg cells)
    (hi : (P.info? ty).map (·.size) = some cells.size) (hs : c.size = cells.size) (h1 : cells.all (·.oneCell') = true)
    (h : wpList P ops Q rest (a.put op.dst undef) (w.alloc (.cells cells ty (0, 0)))) : wpList P ops Q (op :: rest) a (w.alloc (.cells c ty (0, 0))) :=
  wpList_plain hgd fun K hK => by
    unfold Oper.wp execOp
    simp only [ho, hx, hy, run_storeAt_new w ty c cells hi hs h1, Result.andThen_ok, Sem.run_bind, Sem.run_pure]
    exact hK _ _ h
def updB (s : Wd) (d : ByteArray) : Wd := upd s (bytesOf d)
theorem first_of_two (w : World) (A B : Obj) : ((w.alloc A).alloc B).heap[w.heap.size]? = some A := alloc_keeps (heap_alloc_new w A) B
set_option maxHeartbeats 2000000 in
theorem update_any (s : Wd) (d : ByteArray) (w : World) (hd : d.size ≤ 1000000) :
    Calls Try.prog 106 #[.int .u16 (s.toNat : Int), .string d] w fun e w' => e = .returned (.int .u16 ((updB s d).toNat : Int)) ∧ Fr no w w' := by
  have hmf : ∀ (fn : Fn) (first cap : Array Value) (w : World), (Instr.makeFunc fn first cap).run Try.prog w = .ok (.func fn first cap) w := fun _ _ _ _ => rfl
  go_enter Try.func106, Try.ntmps106
  go_wp2_with fail
  refine (table_any _).mono ?_
  rintro e w1 ⟨rfl, f1⟩
  have hi2 : (Try.prog.info? 123).map (·.size) = some (cellsV tabL).toArray.size := by kernel_rfl
  have h1c := all_oneCell_toArray (cellsV_one tabL)
  have hsz : (#[Value.int IntKind.u16 0, .int .u16 0, .int .u16 0, .int .u16 0, .int .u16 0, .int .u16 0, .int .u16 0, .int .u16 0, .int .u16 0, .int .u16 0, .int .u16 0, .int .u16 0, .int .u16 0, .int .u16 0, .int .u16 0, .int .u16 0] : Array Value).size = (cellsV tabL).toArray.size := rfl
  have HF1 := Lib.hid f1
  clear f1
  generalize hG : (cellsV tabL).toArray = G at *
  go_wp2_with (refine wpList_store_new rfl 123 (.tmp 5) (.tmp 8) rfl _ G ?hx ?hy hi2 hsz h1c ?_; (case hx => rfl); (case hy => rfl))
  clear hi2 h1c hsz
  have hT := Arr.mk (l := tabL) (w := w1.alloc (.cells G 123 (0, 0))) (B := w1.heap.size) (T := 123) (by rw [hG]; exact heap_alloc_new w1 _)
  have hlt : w.heap.size + 1 ≤ w1.heap.size := by simpa using HF1.out.size
  have hS := (HF1.out.blk (k := w.heap.size) (heap_alloc_new w _) (fun h => h))
  have hS2 := alloc_keeps hS (.cells G 123 (0, 0))
  have hF := ((Fr.refl no w).alloc (.cells #[.int .u16 (s.toNat : Int)] 40 (0, 0))).trans HF1.out (fun _ _ h => h.elim)
  have hF2 := hF.alloc (.cells G 123 (0, 0))
  generalize hw3 : w1.alloc (.cells G 123 (0, 0)) = w3 at *
  have HT := Lib.hid hT
  have HS := Lib.hid hS2
  have HF := Lib.hid hF2
  have hne : w1.heap.size ≠ w.heap.size := by omega
  clear hT hS hS2 hF hF2 hw3 hG HF1
  go_loopw [7, 12, 13, 14, 15, 16, 17, 18, 19, 20, 21, 22, 23, 24, 25, 26] (fun _ i _ _ _ _ _ _ _ _ _ _ _ _ _ _ wr => ∃ k : Nat, k ≤ d.size ∧ i = .int .i64 k ∧ wr.heap[w.heap.size]? = some (.cells #[.int .u16 ((upd s ((bytesOf d).take k)).toNat : Int)] 40 (0, 0)) ∧ Fr (only w.heap.size) w3 wr) (fun _ i _ _ _ _ _ _ _ _ _ _ _ _ _ _ _ => d.size - (intOf i).toNat)
  case atStart => exact ⟨0, Nat.zero_le _, rfl, HS.out, Fr.refl _ _⟩
  case round =>
    obtain ⟨k, hk, rfl, hc, hf⟩ := hrel
    have HC := Lib.hid hc
    have HR := Lib.hid hf
    clear hc hf
    by_cases hlk : k < d.size
    · have hc256 : (d[k]).toNat < 256 := (d[k]).toNat_lt
      have HA := Lib.hid (show ((d[k]).toNat : Int) % (16 : Int) = (((d[k]).toNat % 16 : Nat) : Int) by omega)
      have HD := Lib.hid (show ((d[k]).toNat : Int) / (16 : Int) = (((d[k]).toNat / 16 : Nat) : Int) by omega)
      have HU := Lib.hid (show upd s ((bytesOf d).take (k + 1)) = half (half (upd s ((bytesOf d).take k)) ((d[k]).toNat / 16)) ((d[k]).toNat % 16) by rw [bytesOf_take d k hlk, upd_append, half_half _ _ hc256]; rfl)
      go_wp2_with fail
      rw [HD.out]
      refine (div_blk w.heap.size w1.heap.size ((d[k]).toNat / 16) _ wr (by omega) HC.out (HT.out.kept HR.out hne) hne).mono ?_
      rintro e w4 ⟨rfl, hc4, f4⟩
      have HC4 := Lib.hid hc4
      have HR4 := Lib.hid (HR.out.onlyTrans f4)
      clear hc4 f4
      go_wp2_with fail
      rw [HA.out]
      refine (div_blk w.heap.size w1.heap.size ((d[k]).toNat % 16) _ w4 (by omega) HC4.out (HT.out.kept HR4.out hne) hne).mono ?_
      rintro e w5 ⟨rfl, hc5, f5⟩
      rw [← HU.out] at hc5
      have HC5 := Lib.hid hc5
      have HR5 := Lib.hid (HR4.out.onlyTrans f5)
      clear hc5 f5
      go_wp2_with fail
      go_roundw
      case rel => exact ⟨k + 1, by omega, by go_num, HC5.out, HR5.out⟩
      case measure => simp [intOf]; omega
    · have hcell : wr.cell? ⟨w.heap.size, 0, none⟩ = some (.int .u16 ((updB s d).toNat : Int)) := by
        have := HC.out
        rw [List.take_of_length_le (by rw [bytesOf_len]; omega)] at this
        simp [World.cell?, this, updB]
      have HF' := Lib.hid (HF.out.trans (S := no) (a := w) (b := w3) (c := wr) (S' := fun k => w.heap.size ≤ k) (HR.out.mono (fun k _ h => by rw [show k = _ from h]; exact Nat.le_refl _)) (fun i hi h => by have : w.heap.size ≤ i := h; omega))
      go_wp2_with fail
      go_ret
      exact ⟨rfl, HF'.out⟩
theorem sum_any (d : ByteArray) (w : World) (hd : d.size ≤ 1000000) :
    Calls Try.prog 65 #[.string d] w fun e w' => e = .returned (.int .u16 ((updB 0#16 d).toNat : Int)) ∧ Fr no w w' := by
  go_enter Try.func65, Try.ntmps65
  go_wp2_with fail
  refine (update_any 0#16 d _ hd).mono ?_
  rintro e w1 ⟨rfl, f1⟩
  have HF := Lib.hid f1
  clear f1
  go_wp2_with fail
  go_ret
  exact ⟨rfl, HF.out⟩
end Go.Proofs.Ytelpdihaonoedaa
