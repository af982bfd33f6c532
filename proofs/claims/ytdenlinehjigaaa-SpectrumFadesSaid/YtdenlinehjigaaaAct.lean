/- Active transmitters, yielded one by one. -/
import Derived.Test.YtdenlinehjigaaaUnf
import Derived.Test.YtdenlinehjigaaaIte
namespace Go.Proofs.Ytdenlinehjigaaa
open Go.RowKit Go.Shelf
set_option linter.unusedVariables false

attribute [local go_sem] Oper.semAt_some
/-- A transmitter that is handed over: its times are right, and its channels lie in memory. -/
abbrev ActT (w : World) (R D : Nat) := { x : Src × Option Addr × Nat // srB x.1 = true ∧ x.1.chs.length ≤ 40 ∧ IntsIn w x.2.1 x.1.chs.length x.1.chs ∧ ∀ b off, x.2.1 = some ⟨b, off, none⟩ → 0 < x.1.chs.length → ¬ out R D b }
def encA {w : World} {R D : Nat} (x : ActT w R D) : Array Value := #[.agg #[.int .i64 x.1.1.x, .int .i64 x.1.1.y, .int .i64 x.1.1.pw, .slice x.1.2.1 x.1.1.chs.length x.1.2.2, .int .i64 x.1.1.per, .int .i64 x.1.1.fr, .int .i64 x.1.1.to]]
def meS (a b : Int) (s : Src) : Bool := meB s.per s.fr s.to a b
/-- Where a list of transmitters lies, the loop's body leaves all alone. -/
structure SrAway (w : World) (R D : Nat) (ao : Option Addr) (len : Nat) (ss : List Src) : Prop where
  a : ∀ b off, ao = some ⟨b, off, none⟩ → 0 < len → ¬ out R D b
  c : ∀ i, i < len → ∀ b off ca cl ck, ao = some ⟨b, off, none⟩ → w.cell? ⟨b, off + i * 7 + 3, none⟩ = some (.slice ca cl ck) → ∀ b' off', ca = some ⟨b', off', none⟩ → 0 < cl → ¬ out R D b'
set_option maxRecDepth 100000 in
set_option maxHeartbeats 8000000 in
theorem active1_in (n : Nat) (hn : 1 ≤ n) (l BX BF BT R D : Nat) (ao : Option Addr) (len cap : Nat) (hd : Value) (ss : List Src) (p q : Int) (w : World) (hpq : Iv p q) (hok : ss.all srB = true) (hl : len ≤ 40) (hch : ∀ i, i < len → (srAt ss i).chs.length ≤ 40)
    (hb0 : ¬ out R D BX) (hb1 : ¬ out R D BF) (hb2 : ¬ out R D BT) (haw : SrAway w R D ao len ss) (J Jx : List (ActT w R D) → World → Prop) (W : World) (hwW : Fr no w W) (hJ : AbidesFrom W.heap.size J) (hD : D ≤ W.heap.size)
    (hY : ∀ pre x W1, J pre W1 → pre.length < len → YieldAt Fence.wide (n - 1) Try.prog l (encA x) W1 fun e W' =>
      (e = .returned (.bool true) ∧ J (pre ++ [x]) W' ∧ Fr (out R D) W1 W') ∨ (e = .returned (.bool false) ∧ Jx (pre ++ [x]) W'))
    (hc0 : W.cell? ⟨BX, 0, none⟩ = some (.slice ao len cap)) (hc1 : W.cell? ⟨BF, 0, none⟩ = some (.int .i64 p)) (hc2 : W.cell? ⟨BT, 0, none⟩ = some (.int .i64 q))
    (hw : SrcsIn w ao len ss) (h0 : J [] W) :
    CallsIn Fence.wide n Try.prog 142 #[.func (.yield l) #[] #[], .pointer (some ⟨BX, 0, none⟩), .pointer (some ⟨BF, 0, none⟩), .pointer (some ⟨BT, 0, none⟩)] W fun e W' => (∃ v, e = .returned v) ∧
      ((∃ xs : List (ActT w R D), xs.map (fun x => x.1.1) = ss.filter (meS p q) ∧ J xs W') ∨ (∃ pre, True ∧ Jx pre W')) := by
  have HW := Lib.hid hw
  have HWW := Lib.hid hwW
  have HL := Lib.hid hl
  have HY := Lib.hid hY
  have HJ := Lib.hid hJ
  have HB := Lib.hid haw
  have HOK := Lib.hid hok
  have HCH := Lib.hid hch
  have HN := Lib.hid (And.intro hb0 (And.intro hb1 hb2))
  have HD := Lib.hid hD
  have H0 := Lib.hid h0
  have HP := Lib.hid hpq
  clear hw hl hY hJ haw hok hb0 hb1 hb2 hD h0 hch hpq hwW
  refine callsIn_of_wp Try.func142 rfl trivial ?_ rfl
  simp only [Try.ntmps142, List.size_toArray, List.length_cons, List.length_nil, Nat.reduceAdd, Nat.reduceSub, Array.replicate_succ, Array.replicate_zero, List.push_toArray, List.append_toArray, List.nil_append, List.cons_append]
  gi_wp2
  gi_loopw [6, 10] (fun _ i wr => ∃ (k : Nat) (xs : List (ActT w R D)), k ≤ len ∧ i = .int .i64 k ∧ xs.map (fun x => x.1.1) = (ss.take k).filter (meS p q) ∧ J xs wr ∧ Fr (out R D) W wr) (fun _ i _ => len - (intOf i).toNat)
  case atStart => exact ⟨0, [], Nat.zero_le _, rfl, by simp, H0.out, Fr.refl _ _⟩
  case round =>
    obtain ⟨k, xs, hk, rfl, hxs, hJs, hnx⟩ := hrel
    have HJs := Lib.hid hJs
    have HF := Lib.hid hnx
    have HXS := Lib.hid hxs
    clear hJs hnx hxs
    by_cases hlt : k < len
    · obtain ⟨b, off, ca, ck, rfl, hI, e0, e1, e2, e3, e4, e5, e6⟩ := HW.out.2 k hlt
      have hnb := HB.out.a b off rfl (by omega)
      have HCA := Lib.hid (HB.out.c k hlt b off ca _ ck rfl e3)
      have HI := Lib.hid hI
      clear hI
      replace e0 := HF.out.keepc0 (HWW.out.keepc e0) hnb
      replace e1 := HF.out.keepc0 (HWW.out.keepc e1) hnb
      replace e2 := HF.out.keepc0 (HWW.out.keepc e2) hnb
      replace e3 := HF.out.keepc0 (HWW.out.keepc e3) hnb
      replace e4 := HF.out.keepc0 (HWW.out.keepc e4) hnb
      replace e5 := HF.out.keepc0 (HWW.out.keepc e5) hnb
      replace e6 := HF.out.keepc0 (HWW.out.keepc e6) hnb
      have d0 := HF.out.keepc0 hc0 HN.out.1
      have d1 := HF.out.keepc0 hc1 HN.out.2.1
      have d2 := HF.out.keepc0 hc2 HN.out.2.2
      clear hnb
      have HT := Lib.hid (filter_take (meS p q) ⟨0, 0, 0, [], 0, 0, 0⟩ ss k (by have := HW.out.1; omega))
      have hkI : (k : Int) ≤ 39 := by have := HL.out; omega
      have HO := all_get srB ⟨0, 0, 0, [], 0, 0, 0⟩ ss k (by have := HW.out.1; omega) HOK.out
      have HLt : xs.length < len := by
        have h1 : xs.length = ((ss.take k).filter (meS p q)).length := by rw [← HXS.out]; simp
        rw [h1]
        exact Nat.lt_of_le_of_lt (List.length_filter_le _ _) (by have := HW.out.1; simp; omega)
      have HLT := Lib.hid HLt
      clear HLt
      rw [show ss.getD k ⟨0, 0, 0, [], 0, 0, 0⟩ = srAt ss k from rfl] at HT HO
      have HO := Lib.hid HO
      have HC40 := Lib.hid (HCH.out k hlt)
      generalize srAt ss k = s at *
      have HCx := Lib.hid (fun w => meets_any s.x s.y s.pw ca s.chs.length ck s.per s.fr s.to p q w (srB_t HO.out).1 HP.out)
      obtain ⟨ax, hax⟩ : ∃ ax : ActT w R D, ax = ⟨(s, ca, ck), HO.out, HC40.out, HI.out, HCA.out⟩ := ⟨_, rfl⟩
      have HAX := Lib.hid (show encA ax = #[.agg #[.int .i64 s.x, .int .i64 s.y, .int .i64 s.pw, .slice ca s.chs.length ck, .int .i64 s.per, .int .i64 s.fr, .int .i64 s.to]] by rw [hax]; rfl)
      have HAS := Lib.hid (show ax.1.1 = s by rw [hax])
      have HQ := Lib.hid (show meS p q s = meB s.per s.fr s.to p q from rfl)
      clear hax
      obtain ⟨x, y, pw, chs, per, fr, to⟩ := s
      dsimp only at e0 e1 e2 e3 e4 e5 e6
      have hlt0 := World.block_lt_of_cell? wr _ e0
      have hlt1 := World.block_lt_of_cell? wr _ d1
      have hlt2 := World.block_lt_of_cell? wr _ d2
      have g1 := ((Fr.refl no wr).alloc (.cells #[.int .i64 x, .int .i64 y, .int .i64 pw, .slice ca chs.length ck, .int .i64 per, .int .i64 fr, .int .i64 to] 49 (0, 0))).keepc d1
      have g2 := ((Fr.refl no wr).alloc (.cells #[.int .i64 x, .int .i64 y, .int .i64 pw, .slice ca chs.length ck, .int .i64 per, .int .i64 fr, .int .i64 to] 49 (0, 0))).keepc d2
      have HC := HCx.out
      dsimp only at HC
      rw [HQ.out] at HT
      clear HQ
      dsimp only at HT
      cases hcr : meB per fr to p q
      · rw [hcr] at HC HT
        have HC := Lib.hid HC
        clear hcr
        gi_wp2_with fail
        refine ⟨trivial, ?_⟩
        refine (callsIn_wide.2 (HC.out _)).mono ?_
        rintro e w3 ⟨rfl, f3⟩
        have HF3 := Lib.hid f3
        clear f3
        gi_wp2_with fail
        refine ⟨fun _ h => (by cases h), ?_⟩
        gi_wp2
        go_roundw
        case rel => exact ⟨k + 1, xs, by omega, by go_num, by rw [HT.out, ← HXS.out]; simp, abides_no HJ.out (abides_no HJ.out HJs.out ((Fr.refl no wr).alloc _)) HF3.out, HF.out.trans (((Fr.refl no wr).alloc _).noTrans HF3.out) (fun _ _ h => h.elim)⟩
        case measure => simp [intOf]; omega
      · rw [hcr] at HC HT
        have HC := Lib.hid HC
        clear hcr
        gi_wp2_with fail
        refine ⟨trivial, ?_⟩
        refine (callsIn_wide.2 (HC.out _)).mono ?_
        rintro e w3 ⟨rfl, f3⟩
        have hb3 := f3.blk (heap_alloc_new wr _) (fun h => h)
        obtain ⟨m0, m1, m2, m3, m4, m5, m6⟩ := seven_cells hb3
        have HJ3 := Lib.hid (abides_no HJ.out (abides_no HJ.out HJs.out ((Fr.refl no wr).alloc _)) f3)
        have HF3 := Lib.hid f3
        obtain ⟨fn, tmps, assign, body, hy, hR⟩ := HY.out xs ax w3 HJ3.out HLT.out
        rw [HAX.out] at hy
        have HR := Lib.hid hR
        clear f3 hb3 hR
        gi_wp2_with fail
        refine HR.out.mono ?_
        rintro e W4 (⟨rfl, hJ4, hk4⟩ | ⟨rfl, hJx4⟩)
        · have HJ4 := Lib.hid hJ4
          have HF4 := Lib.hid hk4
          clear hJ4 hk4
          gi_wp2
          go_roundw
          case rel => exact ⟨k + 1, xs ++ [ax], by omega, by go_num, by rw [HT.out, List.map_append, HXS.out]; simp [HAS.out], HJ4.out, (HF.out.trans (((Fr.refl no wr).alloc _).noTrans HF3.out) (fun _ _ h => h.elim)).trans HF4.out (fun _ _ h => h)⟩
          case measure => simp [intOf]; omega
        · have HX := Lib.hid hJx4
          clear hJx4
          gi_wp2
          refine bodyPost_ret (results_none rfl _ _ _) rfl ?_
          exact ⟨⟨_, rfl⟩, .inr ⟨_, trivial, HX.out⟩⟩
    · obtain rfl : k = len := by omega
      have HA := Lib.hid (show (ss.take k).filter (meS p q) = ss.filter (meS p q) by rw [List.take_of_length_le (by have := HW.out.1; omega)])
      gi_wp2
      go_end0
      exact ⟨⟨_, rfl⟩, .inl ⟨_, HXS.out.trans HA.out, HJs.out⟩⟩
/-- The transmitters that are on, yielded one by one. -/
theorem active_stops (n : Nat) (hn : 1 ≤ n) (BX BF BT R D : Nat) (ao : Option Addr) (len cap : Nat) (hd : Value) (ss : List Src) (p q : Int) (hpq : Iv p q) (hok : ss.all srB = true) (hl : len ≤ 40) (hch : ∀ i, i < len → (srAt ss i).chs.length ≤ 40)
    (hb0 : ¬ out R D BX) (hb1 : ¬ out R D BF) (hb2 : ¬ out R D BT) (w : World) (haw : SrAway w R D ao len ss) (hD : D ≤ w.heap.size)
    (hc0 : w.cell? ⟨BX, 0, none⟩ = some (.slice ao len cap)) (hc1 : w.cell? ⟨BF, 0, none⟩ = some (.int .i64 p)) (hc2 : w.cell? ⟨BT, 0, none⟩ = some (.int .i64 q))
    (hw : SrcsIn w ao len ss) :
    SeqStopsK Fence.wide n Try.prog 142 #[.pointer (some ⟨BX, 0, none⟩), .pointer (some ⟨BF, 0, none⟩), .pointer (some ⟨BT, 0, none⟩)] (encA (w := w) (R := R) (D := D)) (Fr (out R D)) (fun xs => xs.map (fun x => x.1.1) = ss.filter (meS p q)) (fun _ => True) len w := fun l J Jx W hW hJ _ hY h0 => by
  have hf : Fr no w W := ⟨hW.os, hW.tape, hW.output, hW.size, fun k hk _ => hW.block k hk⟩
  exact active1_in n hn l BX BF BT R D ao len cap hd ss p q w hpq hok hl hch hb0 hb1 hb2 haw J Jx W hf hJ (Nat.le_trans hD hW.size) hY (hf.keepc hc0) (hf.keepc hc1) (hf.keepc hc2) hw h0
theorem active_any (a0 : Option Addr) (l0 k0 : Nat) (a1 : Option Addr) (l1 k1 : Nat) (p q : Int) (w : World) :
    Calls Try.prog 104 #[.agg #[.slice a0 l0 k0, .slice a1 l1 k1], .int .i64 p, .int .i64 q] w fun e w' =>
      e = .returned (.func (.func 142) #[] #[.pointer (some ⟨w.heap.size, 0, none⟩), .pointer (some ⟨w.heap.size + 1, 0, none⟩), .pointer (some ⟨w.heap.size + 1 + 1, 0, none⟩)]) ∧ w' = ((w.alloc (.cells #[.slice a0 l0 k0, .slice a1 l1 k1] 47 (0, 0))).alloc (.cells #[.int .i64 p] 3 (0, 0))).alloc (.cells #[.int .i64 q] 3 (0, 0)) := by
  go_enter Try.func104, Try.ntmps104
  go_wp2_with fail
  go_ret
  exact ⟨rfl, rfl⟩
end Go.Proofs.Ytdenlinehjigaaa
