/- The walls that a path crosses, yielded one by one. -/
import Derived.RangeFuncNested
import Derived.RangeFuncBound
import Derived.RangeFuncCalls
import Derived.RangeFuncLeaves
import Derived.Shelf.Abstract
import Derived.Shelf.RegionOpen
import Derived.OwnWalkIn
import Derived.TacticsInMore
import Derived.LoopNIn
import Derived.LoopIn
import Derived.Test.YtdenlinehjigaaaChR
import Derived.Test.YtdenlinehjigaaaCrR
namespace Go.Proofs.Ytdenlinehjigaaa
open Go.RowKit Go.Shelf
attribute [local go_sem] Oper.semAt_some

/-- What the loop's body leaves alone: all blocks below D but R. -/
def out (R D : Nat) : Nat → Prop := fun k => k = R ∨ D ≤ k
def crW (ax ay bx by_ : Int) (v : Wl) : Bool := crB ax ay bx by_ v.ax v.ay v.bx v.by_
def enc (v : Wl) : Array Value := #[.agg #[.int .i64 v.ax, .int .i64 v.ay, .int .i64 v.bx, .int .i64 v.by_, .int .i64 v.f]]
theorem filter_take {α : Type} (g : α → Bool) (d : α) (l : List α) (k : Nat) (hk : k < l.length) : (l.take (k + 1)).filter g = (l.take k).filter g ++ (if g (l.getD k d) then [l.getD k d] else []) := by
  rw [List.take_succ_eq_append_getElem hk, List.filter_append]
  congr 1
  simp [List.getD_eq_getElem?_getD, List.getElem?_eq_getElem hk, List.filter_cons]
theorem near_of {x : Int} (h0 : 0 ≤ x) (h1 : x ≤ 10000) : nr x := by unfold nr; omega
theorem wl_near {v : Wl} (h : wlOk v = true) : nr v.ax ∧ nr v.ay ∧ nr v.bx ∧ nr v.by_ := by
  obtain ⟨h1, h2, _⟩ := wlB_t.1 h
  obtain ⟨⟨a, b⟩, c, d⟩ := ptB_t.1 h1
  obtain ⟨⟨e, f⟩, g, i⟩ := ptB_t.1 h2
  exact ⟨near_of a b, near_of c d, near_of e f, near_of g i⟩
theorem Fr.growNo {w w' : World} (h : Fr no w w') : w.grownBy w' none := h.grownBy none (fun _ _ h => h.elim)
theorem abides_no {β : Type} {B : Nat} {J : β → World → Prop} (hJ : AbidesFrom B J) {s : β} {A C : World} (h : J s A) (hf : Fr no A C) : J s C := hJ s A C none h hf.growNo (fun _ e => by cases e)
set_option maxRecDepth 100000 in
set_option maxHeartbeats 4000000 in
theorem crossed1_in (n : Nat) (hn : 1 ≤ n) (l B0 B1 B2 R D : Nat) (ao : Option Addr) (len cap : Nat) (ws : List Wl) (ax ay bx by_ : Int) (h1 : nr ax) (h2 : nr ay) (h3 : nr bx) (h4 : nr by_) (hok : ws.all wlOk = true) (hl : len ≤ 40)
    (hb0 : ¬ out R D B0) (hb1 : ¬ out R D B1) (hb2 : ¬ out R D B2) (hbw : ∀ b off, ao = some ⟨b, off, none⟩ → 0 < len → ¬ out R D b) (J Jx : List Wl → World → Prop) (W : World) (hJ : AbidesFrom W.heap.size J) (hD : D ≤ W.heap.size)
    (hY : ∀ pre x W1, J pre W1 → pre.length < len → YieldAt Fence.wide (n - 1) Try.prog l (enc x) W1 fun e W' =>
      (e = .returned (.bool true) ∧ J (pre ++ [x]) W' ∧ Fr (out R D) W1 W') ∨ (e = .returned (.bool false) ∧ Jx (pre ++ [x]) W'))
    (hc0 : W.cell? ⟨B0, 0, none⟩ = some (.slice ao len cap)) (hc1 : W.cell? ⟨B1, 0, none⟩ = some (.int .i64 ax)) (hc2 : W.cell? ⟨B1, 1, none⟩ = some (.int .i64 ay)) (hc3 : W.cell? ⟨B2, 0, none⟩ = some (.int .i64 bx)) (hc4 : W.cell? ⟨B2, 1, none⟩ = some (.int .i64 by_))
    (hw : WlsIn W ao len ws) (h0 : J [] W) :
    CallsIn Fence.wide n Try.prog 153 #[.func (.yield l) #[] #[], .pointer (some ⟨B0, 0, none⟩), .pointer (some ⟨B1, 0, none⟩), .pointer (some ⟨B2, 0, none⟩)] W fun e W' => (∃ v, e = .returned v) ∧
      ((∃ xs, xs = ws.filter (crW ax ay bx by_) ∧ J xs W') ∨ (∃ pre, True ∧ Jx pre W')) := by
  have HW := Lib.hid hw
  have HL := Lib.hid hl
  have HY := Lib.hid hY
  have HJ := Lib.hid hJ
  have HB := Lib.hid hbw
  have HOK := Lib.hid hok
  have KC := Lib.hid (fun (cx cy dx dy f : Int) (w : World) (h5 : nr cx) (h6 : nr cy) (h7 : nr dx) (h8 : nr dy) => crosses_any ax ay bx by_ cx cy dx dy f w h1 h2 h3 h4 h5 h6 h7 h8)
  have HN := Lib.hid (And.intro hb0 (And.intro hb1 hb2))
  have HD := Lib.hid hD
  have H0 := Lib.hid h0
  clear hw hl hY hJ hbw hok h1 h2 h3 h4 hb0 hb1 hb2 hD h0
  refine callsIn_of_wp Try.func153 rfl trivial ?_ rfl
  simp only [Try.ntmps153, List.size_toArray, List.length_cons, List.length_nil, Nat.reduceAdd, Nat.reduceSub, Array.replicate_succ, Array.replicate_zero, List.push_toArray, List.append_toArray, List.nil_append, List.cons_append]
  gi_wp2
  gi_loopw [6, 9] (fun _ i wr => ∃ k : Nat, k ≤ len ∧ i = .int .i64 k ∧ J ((ws.take k).filter (crW ax ay bx by_)) wr ∧ Fr (out R D) W wr) (fun _ i _ => len - (intOf i).toNat)
  case atStart => exact ⟨0, Nat.zero_le _, rfl, by simpa using H0.out, Fr.refl _ _⟩
  case round =>
    obtain ⟨k, hk, rfl, hJs, hnx⟩ := hrel
    have HJs := Lib.hid hJs
    have HF := Lib.hid hnx
    clear hJs hnx
    by_cases hlt : k < len
    · obtain ⟨b, off, rfl, e0, e1, e2, e3, e4⟩ := HW.out.2 k hlt
      have hnb := HB.out b off rfl (by omega)
      replace e0 := HF.out.keepc0 e0 hnb
      replace e1 := HF.out.keepc0 e1 hnb
      replace e2 := HF.out.keepc0 e2 hnb
      replace e3 := HF.out.keepc0 e3 hnb
      replace e4 := HF.out.keepc0 e4 hnb
      have d1 := HF.out.keepc0 hc1 HN.out.2.1
      have d2 := HF.out.keepc0 hc2 HN.out.2.1
      have d3 := HF.out.keepc0 hc3 HN.out.2.2
      have d4 := HF.out.keepc0 hc4 HN.out.2.2
      clear hnb
      have HT := Lib.hid (filter_take (crW ax ay bx by_) ⟨0, 0, 0, 0, 0⟩ ws k (by have := HW.out.1; omega))
      have hkI : (k : Int) ≤ 39 := by have := HL.out; omega
      have HO := all_get wlOk ⟨0, 0, 0, 0, 0⟩ ws k (by have := HW.out.1; omega) HOK.out
      have HLt : ((ws.take k).filter (crW ax ay bx by_)).length < len := Nat.lt_of_le_of_lt (List.length_filter_le _ _) (by have := HW.out.1; simp; omega)
      have HLT := Lib.hid HLt
      clear HLt
      rw [show ws.getD k ⟨0, 0, 0, 0, 0⟩ = wlAt ws k from rfl] at HT HO
      obtain ⟨n1, n2, n3, n4⟩ := wl_near HO
      clear HO
      have HC := fun w => KC.out (wlAt ws k).ax (wlAt ws k).ay (wlAt ws k).bx (wlAt ws k).by_ (wlAt ws k).f w n1 n2 n3 n4
      clear n1 n2 n3 n4
      generalize hv : wlAt ws k = v at *
      obtain ⟨cx, cy, dx, dy, f⟩ := v
      simp only at HC e0 e1 e2 e3 e4
      clear hv
      have g1 := ((Fr.refl no wr).alloc (.cells #[.int .i64 cx, .int .i64 cy, .int .i64 dx, .int .i64 dy, .int .i64 f] 101 (0, 0))).keepc d1
      have g2 := ((Fr.refl no wr).alloc (.cells #[.int .i64 cx, .int .i64 cy, .int .i64 dx, .int .i64 dy, .int .i64 f] 101 (0, 0))).keepc d2
      have g3 := ((Fr.refl no wr).alloc (.cells #[.int .i64 cx, .int .i64 cy, .int .i64 dx, .int .i64 dy, .int .i64 f] 101 (0, 0))).keepc d3
      have g4 := ((Fr.refl no wr).alloc (.cells #[.int .i64 cx, .int .i64 cy, .int .i64 dx, .int .i64 dy, .int .i64 f] 101 (0, 0))).keepc d4
      clear d1 d2 d3 d4
      cases hcr : crB ax ay bx by_ cx cy dx dy
      · rw [hcr] at HC
        have HC := Lib.hid HC
        rw [show crW ax ay bx by_ ⟨cx, cy, dx, dy, f⟩ = crB ax ay bx by_ cx cy dx dy from rfl, hcr] at HT
        clear hcr
        gi_wp2_with fail
        refine ⟨trivial, ?_⟩
        refine (callsIn_wide.2 (HC.out _)).mono ?_
        rintro e w3 ⟨rfl, f3⟩
        have HF3 := Lib.hid f3
        clear f3
        gi_wp2_with fail
        refine ⟨fun _ h => (by cases h), ?_⟩
        gi_wp2
        go_roundw
        case rel => exact ⟨k + 1, by omega, by go_num, by rw [HT.out]; simpa using abides_no HJ.out (abides_no HJ.out HJs.out ((Fr.refl no wr).alloc _)) HF3.out, HF.out.trans (((Fr.refl no wr).alloc _).noTrans HF3.out) (fun _ _ h => h.elim)⟩
        case measure => simp [intOf]; omega
      · rw [hcr] at HC
        have HC := Lib.hid HC
        rw [show crW ax ay bx by_ ⟨cx, cy, dx, dy, f⟩ = crB ax ay bx by_ cx cy dx dy from rfl, hcr] at HT
        clear hcr
        gi_wp2_with fail
        refine ⟨trivial, ?_⟩
        refine (callsIn_wide.2 (HC.out _)).mono ?_
        rintro e w3 ⟨rfl, f3⟩
        have hb3 := f3.blk (heap_alloc_new wr _) (fun h => h)
        obtain ⟨m0, m1, m2, m3, m4⟩ := five_cells hb3
        have HJ3 := Lib.hid (abides_no HJ.out (abides_no HJ.out HJs.out ((Fr.refl no wr).alloc _)) f3)
        have HF3 := Lib.hid f3
        obtain ⟨fn, tmps, assign, body, hy, hR⟩ := HY.out ((ws.take k).filter (crW ax ay bx by_)) ⟨cx, cy, dx, dy, f⟩ w3 HJ3.out HLT.out
        simp only [enc] at hy
        have HR := Lib.hid hR
        clear f3 hb3 hR
        gi_wp2_with fail
        refine HR.out.mono ?_
        rintro e W4 (⟨rfl, hJ4, hk4⟩ | ⟨rfl, hJx4⟩)
        · have HJ4 := Lib.hid hJ4
          have HF4 := Lib.hid hk4
          clear hJ4 hk4
          gi_wp2
          go_roundw
          case rel => exact ⟨k + 1, by omega, by go_num, by rw [HT.out]; simpa using HJ4.out, (HF.out.trans (((Fr.refl no wr).alloc _).noTrans HF3.out) (fun _ _ h => h.elim)).trans HF4.out (fun _ _ h => h)⟩
          case measure => simp [intOf]; omega
        · have HX := Lib.hid hJx4
          clear hJx4
          gi_wp2
          refine bodyPost_ret (results_none rfl _ _ _) rfl ?_
          exact ⟨⟨_, rfl⟩, .inr ⟨_, trivial, HX.out⟩⟩
    · obtain rfl : k = len := by omega
      have HA := Lib.hid (show (ws.take k).filter (crW ax ay bx by_) = ws.filter (crW ax ay bx by_) by rw [List.take_of_length_le (by have := HW.out.1; omega)])
      gi_wp2
      go_end0
      exact ⟨⟨_, rfl⟩, .inl ⟨_, HA.out, HJs.out⟩⟩
/-- The walls that the path crosses, yielded one by one. -/
theorem crossed_stops (n : Nat) (hn : 1 ≤ n) (B0 B1 B2 R D : Nat) (ao : Option Addr) (len cap : Nat) (ws : List Wl) (ax ay bx by_ : Int) (h1 : nr ax) (h2 : nr ay) (h3 : nr bx) (h4 : nr by_) (hok : ws.all wlOk = true) (hl : len ≤ 40)
    (hb0 : ¬ out R D B0) (hb1 : ¬ out R D B1) (hb2 : ¬ out R D B2) (hbw : ∀ b off, ao = some ⟨b, off, none⟩ → 0 < len → ¬ out R D b) (w : World) (hD : D ≤ w.heap.size)
    (hc0 : w.cell? ⟨B0, 0, none⟩ = some (.slice ao len cap)) (hc1 : w.cell? ⟨B1, 0, none⟩ = some (.int .i64 ax)) (hc2 : w.cell? ⟨B1, 1, none⟩ = some (.int .i64 ay)) (hc3 : w.cell? ⟨B2, 0, none⟩ = some (.int .i64 bx)) (hc4 : w.cell? ⟨B2, 1, none⟩ = some (.int .i64 by_))
    (hw : WlsIn w ao len ws) :
    SeqStopsK Fence.wide n Try.prog 153 #[.pointer (some ⟨B0, 0, none⟩), .pointer (some ⟨B1, 0, none⟩), .pointer (some ⟨B2, 0, none⟩)] enc (Fr (out R D)) (fun xs => xs = ws.filter (crW ax ay bx by_)) (fun _ => True) len w := fun l J Jx W hW hJ _ hY h0 => by
  have hf : Fr no w W := ⟨hW.os, hW.tape, hW.output, hW.size, fun k hk _ => hW.block k hk⟩
  exact crossed1_in n hn l B0 B1 B2 R D ao len cap ws ax ay bx by_ h1 h2 h3 h4 hok hl hb0 hb1 hb2 hbw J Jx W hJ (Nat.le_trans hD hW.size) hY (hf.keepc hc0) (hf.keepc hc1) (hf.keepc hc2) (hf.keepc hc3) (hf.keepc hc4) (hw.kept hf) h0
theorem crossed_any (ao : Option Addr) (len cap : Nat) (ax ay bx by_ : Int) (w : World) :
    Calls Try.prog 129 #[.slice ao len cap, .agg #[.int .i64 ax, .int .i64 ay], .agg #[.int .i64 bx, .int .i64 by_]] w fun e w' =>
      e = .returned (.func (.func 153) #[] #[.pointer (some ⟨w.heap.size, 0, none⟩), .pointer (some ⟨w.heap.size + 1, 0, none⟩), .pointer (some ⟨w.heap.size + 1 + 1, 0, none⟩)]) ∧ w' = ((w.alloc (.cells #[.slice ao len cap] 24 (0, 0))).alloc (.cells #[.int .i64 ax, .int .i64 ay] 42 (0, 0))).alloc (.cells #[.int .i64 bx, .int .i64 by_] 42 (0, 0)) := by
  go_enter Try.func129, Try.ntmps129
  go_wp2_with fail
  go_ret
  exact ⟨rfl, rfl⟩
end Go.Proofs.Ytdenlinehjigaaa
