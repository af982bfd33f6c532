/- The clear channels. -/
import Derived.Test.YtdenlinehjigaaaAct
import Derived.Deep.Onto
namespace Go.Proofs.Ytdenlinehjigaaa
open Go.RowKit Go.Shelf
set_option linter.unusedVariables false

attribute [local go_sem] Oper.semAt_some
theorem own_geN {w : World} {B n : Nat} {v : Value} {xs : List Value} (h : w.ownsRow B 3 1 v n xs) (k : Nat) (hk : v.ownBlock = some k) : B ≤ k := by
  rcases h.2 with ⟨rfl, _⟩ | ⟨g, cap', cur, rfl, hB, _⟩
  · simp [Value.ownBlock] at hk
  · simp only [Value.ownBlock, Option.some.injEq] at hk
    omega
theorem info3N : (Try.prog.info? 3).map (fun i => (i.zero, i.size, i.bytes)) = some (some (.int .i64 0), 1, 8) := by kernel_rfl
theorem cell_new1 (w : World) (v : Value) (T : Nat) : (w.alloc (.cells #[v] T (0, 0))).cell? ⟨w.heap.size, 0, none⟩ = some v := by simp only [World.cell?, heap_alloc_new w _]; rfl
def valsI (l : List Int) : List Value := l.map fun n => Value.int .i64 n
/-- A list of integers of the call's own. -/
def OwnI (base : Nat) (w : World) (v : Value) (l : List Int) : Prop := w.ownsRow base 3 1 v l.length (valsI l)
theorem OwnI.kept {base : Nat} {w w' : World} {v : Value} {l : List Int} (h : OwnI base w v l) (hf : Fr no w w') : OwnI base w' v l := World.ownsRow.kept h hf.growNo (Classical.em _)
/-- Sixteen flags. -/
def flA (f : Nat → Bool) : Array Value := ((List.range 16).map fun c => Value.bool (f c)).toArray
theorem flA_size (f : Nat → Bool) : (flA f).size = 16 := by simp [flA]
theorem flA_get (f : Nat → Bool) (c : Nat) (h : c < 16) : (flA f)[c]? = some (.bool (f c)) := by simp [flA, h]
theorem flA_set (f : Nat → Bool) (c : Nat) (h : c < 16) : (flA f).setIfInBounds c (.bool true) = flA (fun d => d == c || f d) := by
  refine Array.ext_getElem? fun i => ?_
  rw [Array.getElem?_setIfInBounds]
  by_cases hc : c = i
  · subst hc
    rw [if_pos rfl, if_pos (by rw [flA_size]; exact h), flA_get _ c h]
    simp
  · rw [if_neg hc]
    by_cases h16 : i < 16
    · rw [flA_get f i h16, flA_get _ i h16]
      have : (i == c) = false := by simpa using fun h => hc h.symm
      simp [this]
    · simp [flA, h16]
theorem flA_no : flA (fun _ => false) = #[.bool false, .bool false, .bool false, .bool false, .bool false, .bool false, .bool false, .bool false, .bool false, .bool false, .bool false, .bool false, .bool false, .bool false, .bool false, .bool false] := by kernel_rfl
theorem fl_cell {w : World} {R : Nat} {f : Nat → Bool} (h : w.heap[R]? = some (.cells (flA f) 131 (0, 0))) (c : Nat) (hc : c < 16) : w.cell? ⟨R, c, none⟩ = some (.bool (f c)) ∧ w.frozen? ⟨R, c, none⟩ = false := by
  have := flA_get f c hc
  simp [World.cell?, World.frozen?, h, this]
/-- Does a transmitter have the channel c? -/
def hasC (s : Src) (c : Nat) : Bool := s.chs.any (fun n => n == (c : Int))
def disC (l : List Src) (c : Nat) : Bool := l.any (fun s => hasC s c)
def clL (f : Nat → Bool) (k : Nat) : List Int := ((List.range k).filter (fun c => !f c)).map fun (n : Nat) => (n : Int)
theorem clL_succ (f : Nat → Bool) (k : Nat) : clL f (k + 1) = clL f k ++ (if f k then [] else [(k : Int)]) := by
  unfold clL
  rw [List.range_succ, List.filter_append, List.map_append]
  cases h : f k <;> simp [h]
theorem clL_len (f : Nat → Bool) (k : Nat) : (clL f k).length ≤ k := by
  unfold clL
  have := List.length_filter_le (fun c => !f c) (List.range k)
  simpa using this
/-- What is on in an interval. -/
def actL (ss : List Src) (p q : Int) : List Src := ss.filter (meS p q)
def clrL (B : Bool) (ss : List Src) (p q : Int) : List Int := if B && ivB p q then clL (disC (actL ss p q)) 16 else []
theorem chsF_in {l : Int} {cs : List Int} (h : chsF l cs = true) : ∀ c ∈ cs, inR c 0 15 = true := by
  induction cs generalizing l with
  | nil => intro c hc; cases hc
  | cons a cs ih =>
    simp only [chsF, Bool.and_eq_true] at h
    intro c hc
    rcases List.mem_cons.1 hc with rfl | hc
    · exact h.1.2
    · exact ih h.2 c hc
theorem chs_in {cs : List Int} (h : chsB cs = true) (k : Nat) (hk : k < cs.length) : inR (cs.getD k 0) 0 15 = true := by
  refine chsF_in h _ ?_
  rw [List.getD_eq_getElem?_getD, List.getElem?_eq_getElem hk]
  exact List.getElem_mem hk
theorem take_any (cs : List Int) (k : Nat) (hk : k < cs.length) (d : Nat) : (cs.take (k + 1)).any (fun n => n == (d : Int)) = ((cs.take k).any (fun n => n == (d : Int)) || (cs.getD k 0 == (d : Int))) := by
  rw [List.take_succ_eq_append_getElem hk, List.any_append]
  simp [List.getD_eq_getElem?_getD, List.getElem?_eq_getElem hk]
theorem sr_away {y WL : World} {a0 : Option Addr} {l0 : Nat} {a1 : Option Addr} {l1 : Nat} {ss : List Src} {fs : List Fd} (h : SpIn y a0 l0 a1 l1 ss fs) (hf : Fr no y WL) {R D : Nat} (hR : y.heap.size ≤ R) (hD : R < D) : SrAway WL R D a0 l0 ss := by
  have near : ∀ b : Nat, b < y.heap.size → ¬ out R D b := fun b hb => by simp only [out]; omega
  refine ⟨fun b off ha hl => ?_, fun i hi b off ca cl ck ha hc b' off' hca hcl => ?_⟩
  · obtain ⟨b2, off2, _, _, h1, _, h2, _⟩ := h.s.2 0 hl
    rw [ha] at h1
    cases h1
    exact near _ (World.block_lt_of_cell? y _ h2)
  · obtain ⟨b2, off2, ca2, ck2, h1, hI, h3, h4, h5, h6, _⟩ := h.s.2 i hi
    rw [ha] at h1
    cases h1
    have h7 := hf.keepc h6
    rw [h7] at hc
    simp only [Option.some.injEq, Value.slice.injEq] at hc
    obtain ⟨rfl, rfl, rfl⟩ := hc
    obtain ⟨b3, off3, h8, h9⟩ := hI.2 0 hcl
    rw [hca] at h8
    cases h8
    exact near _ (World.block_lt_of_cell? y _ h9)
theorem ownFrom_fl {α : Type} {B k : Nat} {g : List α → Array Value} {T : Nat} : OwnFrom B (fun (pre : List α) W => W.heap[k]? = some (.cells (g pre) T (0, 0))) := fun _ X Y row hs hg hr => by
  refine (hg.block k (Array.getElem?_eq_some_iff.1 hs).1 (fun e => ?_)).trans hs
  obtain ⟨_, o, ho, hc⟩ := hr k e.symm
  rw [hs] at ho
  cases ho
  cases hc
def LstRes (w w' : World) (l : List Int) (e : Ending) : Prop := ∃ v, e = .returned v ∧ OwnI w.heap.size w' v l ∧ Fr no w w'
set_option maxHeartbeats 4000000 in
theorem clear_0 (a0 : Option Addr) (l0 k0 : Nat) (a1 : Option Addr) (l1 k1 : Nat) (ss : List Src) (fs : List Fd) (p q : Int) (w : World) (hsp : SpIn w a0 l0 a1 l1 ss fs) (h0 : ((ckS l0 l1 ss fs) && ivB p q) = false) :
    Calls Try.prog 44 #[.agg #[.slice a0 l0 k0, .slice a1 l1 k1], .int .i64 p, .int .i64 q] w fun e w' => LstRes w w' [] e := by
  obtain ⟨W, hW⟩ : ∃ W, W = w.alloc (.cells #[.slice a0 l0 k0, .slice a1 l1 k1] 47 (0, 0)) := ⟨_, rfl⟩
  have hF : Fr no w W := by rw [hW]; exact (Fr.refl no w).alloc _
  have h1 : W.heap[w.heap.size]? = some (.cells #[.slice a0 l0 k0, .slice a1 l1 k1] 47 (0, 0)) := by rw [hW]; exact heap_alloc_new w _
  obtain ⟨c0, c1⟩ := two_cells h1
  have HSP := Lib.hid (hsp.kept hF)
  have HF := Lib.hid hF
  have HW := Lib.hid hW
  have H1 := Lib.hid h1
  have HC := checkS_any a0 l0 k0 a1 l1 k1 ss fs W HSP.out.s HSP.out.f HSP.out.c
  have HV := isInterval_any p q
  clear hsp hF h1 hW
  cases hB : (ckS l0 l1 ss fs)
  · rw [hB] at HC
    have HC := Lib.hid HC
    clear hB h0
    go_enter Try.func44, Try.ntmps44
    go_wp2_with fail
    rw [← HW.out]
    refine HC.out.mono ?_
    rintro e w1 ⟨rfl, f1⟩
    have HF1 := Lib.hid (HF.out.noTrans f1)
    clear f1
    go_wp2_with fail
    go_ret
    exact ⟨_, rfl, World.ownsRow_nil _ _ _ _, HF1.out⟩
  · rw [hB] at HC h0
    rw [Bool.true_and] at h0
    rw [h0] at HV
    have HC := Lib.hid HC
    have HV := Lib.hid HV
    clear hB h0
    go_enter Try.func44, Try.ntmps44
    go_wp2_with fail
    rw [← HW.out]
    refine HC.out.mono ?_
    rintro e w1 ⟨rfl, f1⟩
    have HF1 := Lib.hid (HF.out.noTrans f1)
    clear f1
    go_wp2_with fail
    refine (HV.out _).mono ?_
    rintro e w2 ⟨rfl, rfl⟩
    go_wp2_with fail
    go_ret
    exact ⟨_, rfl, World.ownsRow_nil _ _ _ _, HF1.out⟩
set_option maxRecDepth 100000 in
set_option maxHeartbeats 16000000 in
theorem clear_1 (a0 : Option Addr) (l0 k0 : Nat) (a1 : Option Addr) (l1 k1 : Nat) (ss : List Src) (fs : List Fd) (p q : Int) (w : World) (hsp : SpIn w a0 l0 a1 l1 ss fs) (h0 : (ckS l0 l1 ss fs) = true) (h1 : ivB p q = true) :
    Calls Try.prog 44 #[.agg #[.slice a0 l0 k0, .slice a1 l1 k1], .int .i64 p, .int .i64 q] w fun e w' => LstRes w w' (clL (disC (actL ss p q)) 16) e := by
  obtain ⟨W, hW⟩ : ∃ W, W = w.alloc (.cells #[.slice a0 l0 k0, .slice a1 l1 k1] 47 (0, 0)) := ⟨_, rfl⟩
  have hF : Fr no w W := by rw [hW]; exact (Fr.refl no w).alloc _
  have h1 : W.heap[w.heap.size]? = some (.cells #[.slice a0 l0 k0, .slice a1 l1 k1] 47 (0, 0)) := by rw [hW]; exact heap_alloc_new w _
  obtain ⟨c0, c1⟩ := two_cells h1
  have HSP := Lib.hid (hsp.kept hF)
  have HF := Lib.hid hF
  have HW := Lib.hid hW
  have H1 := Lib.hid h1
  have HC := checkS_any a0 l0 k0 a1 l1 k1 ss fs W HSP.out.s HSP.out.f HSP.out.c
  have HV := isInterval_any p q
  clear hsp hF h1 hW
  rw [h0] at HC
  rw [h1] at HV
  obtain ⟨q0, -, q2, -⟩ := ckS_len h0
  have HL := Lib.hid q0
  have HOK := Lib.hid q2
  have HIV := Lib.hid (ivB_t h1)
  have HC := Lib.hid HC
  have HV := Lib.hid HV
  clear h0 h1 q0 q2
  refine (callsIn_wide (n := 3)).1 ?_
  refine callsIn_of_wp_marks Try.func44 rfl trivial ?_ rfl
  simp only [Try.ntmps44, List.size_toArray, List.length_cons, List.length_nil, Nat.reduceAdd, Nat.reduceSub, Array.replicate_succ, Array.replicate_zero, List.push_toArray, List.append_toArray, List.nil_append, List.cons_append]
  gi_wp2_with fail
  rw [← HW.out]
  refine ⟨trivial, ?_⟩
  refine (callsIn_wide.2 HC.out).mono ?_
  rintro e y1 ⟨rfl, f1⟩
  have d0 := f1.keepc c0
  have d1 := f1.keepc c1
  have HF1 := Lib.hid (HF.out.noTrans f1)
  have HSP1 := Lib.hid (HSP.out.kept f1)
  clear f1 c0 c1
  gi_wp2_with fail
  refine ⟨trivial, ?_⟩
  refine (callsIn_wide.2 (HV.out _)).mono ?_
  rintro e y2 ⟨rfl, rfl⟩
  have u0 := ((Fr.refl no y2).alloc (.cells #[.bool false, .bool false, .bool false, .bool false, .bool false, .bool false, .bool false, .bool false, .bool false, .bool false, .bool false, .bool false, .bool false, .bool false, .bool false, .bool false] 131 (0, 0))).keepc d0
  have u1 := ((Fr.refl no y2).alloc (.cells #[.bool false, .bool false, .bool false, .bool false, .bool false, .bool false, .bool false, .bool false, .bool false, .bool false, .bool false, .bool false, .bool false, .bool false, .bool false, .bool false] 131 (0, 0))).keepc d1
  gi_wp2_with fail
  refine ⟨trivial, ?_⟩
  refine (callsIn_wide.2 (active_any a0 l0 k0 a1 l1 k1 p q _)).mono ?_
  rintro e' w' ⟨rfl, rfl⟩
  gi_wp2_with fail
  obtain ⟨WL, hWL⟩ : ∃ WL, WL = (((y2.alloc (.cells #[.bool false, .bool false, .bool false, .bool false, .bool false, .bool false, .bool false, .bool false, .bool false, .bool false, .bool false, .bool false, .bool false, .bool false, .bool false, .bool false] 131 (0, 0))).alloc (.cells #[.slice a0 l0 k0, .slice a1 l1 k1] 47 (0, 0))).alloc (.cells #[.int .i64 p] 3 (0, 0))).alloc (.cells #[.int .i64 q] 3 (0, 0)) := ⟨_, rfl⟩
  have hWS : WL.heap.size = y2.heap.size + 4 := by rw [hWL]; simp
  have bR : WL.heap[y2.heap.size]? = some (.cells (flA (fun _ => false)) 131 (0, 0)) := by rw [hWL, flA_no]; exact alloc_keeps (alloc_keeps (alloc_keeps (heap_alloc_new y2 _) _) _) _
  have s0 : WL.cell? ⟨y2.heap.size + 1, 0, none⟩ = some (.slice a0 l0 k0) := by rw [hWL]; go_simp
  have s1 : WL.cell? ⟨y2.heap.size + 1 + 1, 0, none⟩ = some (.int .i64 p) := by rw [hWL]; go_simp
  have s2 : WL.cell? ⟨y2.heap.size + 1 + 1 + 1, 0, none⟩ = some (.int .i64 q) := by rw [hWL]; go_simp
  have hF2 : Fr no y2 WL := by rw [hWL]; exact ((((Fr.refl no y2).alloc _).alloc _).alloc _).alloc _
  rw [← hWL]
  have HFL := Lib.hid (HF1.out.noTrans hF2)
  have HWS := Lib.hid hWS
  have HAW := Lib.hid (sr_away HSP1.out hF2 (R := y2.heap.size) (D := WL.heap.size) (Nat.le_refl _) (by omega))
  have HSL := Lib.hid (HSP1.out.kept hF2)
  clear hWL hWS hF2
  refine wpIn_rangeFunc_ownH rfl (by omega) (gf := 142) (lb := #[.pointer (some ⟨y2.heap.size + 1, 0, none⟩), .pointer (some ⟨y2.heap.size + 1 + 1, 0, none⟩), .pointer (some ⟨y2.heap.size + 1 + 1 + 1, 0, none⟩)]) rfl trivial (enters_of Try.func142 (by kernel_rfl) rfl)
    (active_stops 2 (by omega) (y2.heap.size + 1) (y2.heap.size + 1 + 1) (y2.heap.size + 1 + 1 + 1) y2.heap.size WL.heap.size a0 l0 k0 undef ss p q HIV.out HOK.out (by have := HL.out; omega) HSL.out.c
      (by have := HWS.out; simp only [out]; omega) (by have := HWS.out; simp only [out]; omega) (by have := HWS.out; simp only [out]; omega) WL HAW.out (Nat.le_refl _) s0 s1 s2 HSL.out.s)
    (fun h k => h.trans k (fun _ _ h => h)) (fun W l o o' hl h _ _ => (Fr.refl _ W).putObj (.inl (.inr hl)) o') (Below.refl _ _) (fun _ => rfl)
    (fun pre W => W.heap[y2.heap.size]? = some (.cells (flA (disC (pre.map fun x => x.1.1))) 131 (0, 0)) ∧ Fr (only y2.heap.size) WL W)
    (fun _ _ _ => False)
    (OwnFrom.and ownFrom_fl (ownFrom_fr (Nat.le_refl _)))
    (fun _ _ _ _ _ hs _ _ => hs)
    ⟨bR, Fr.refl _ _⟩
    (fun x a' W => ∃ Bx, WL.heap.size ≤ Bx ∧ W.heap[Bx]? = some (.cells #[.int .i64 x.1.1.x, .int .i64 x.1.1.y, .int .i64 x.1.1.pw, .slice x.1.2.1 x.1.1.chs.length x.1.2.2, .int .i64 x.1.1.per, .int .i64 x.1.1.fr, .int .i64 x.1.1.to] 49 (0, 0)) ∧ a' = { tmps := #[.agg #[.slice a0 l0 k0, .slice a1 l1 k1], .int .i64 p, .int .i64 q, .pointer (some ⟨w.heap.size, 0, none⟩), undef, undef, .slice none 0 0, .pointer (some ⟨y2.heap.size, 0, none⟩), .pointer (some ⟨Bx, 0, none⟩), undef, undef, undef, undef, .agg #[.slice a0 l0 k0, .slice a1 l1 k1], .int .i64 0, .bool false, .bool false, .int .i64 p, .int .i64 q, .bool true, .bool false, .bool false, .agg #[.slice a0 l0 k0, .slice a1 l1 k1], .int .i64 p, .int .i64 q, .func (.func 142) #[] #[.pointer (some ⟨y2.heap.size + 1, 0, none⟩), .pointer (some ⟨y2.heap.size + 1 + 1, 0, none⟩), .pointer (some ⟨y2.heap.size + 1 + 1 + 1, 0, none⟩)], .agg #[.int .i64 x.1.1.x, .int .i64 x.1.1.y, .int .i64 x.1.1.pw, .slice x.1.2.1 x.1.1.chs.length x.1.2.2, .int .i64 x.1.1.per, .int .i64 x.1.1.fr, .int .i64 x.1.1.to], undef, undef, undef, undef, undef, undef, undef, undef, undef, undef, undef, undef, undef, undef, undef, undef, undef, undef, undef, undef, undef, undef, undef], defers := [] })
    (fun x a' _ X Y row hs hg hr => by obtain ⟨Bx, h1, h2, h3⟩ := hs; exact ⟨Bx, h1, ownFrom_blk (β := Unit) () X Y row h2 hg hr, h3⟩)
    ?assign ?body ?done ?stop
  case assign =>
    rintro l pre x W K ⟨bR1, hf1⟩ hK
    have HK := Lib.hid hK
    have HB1 := Lib.hid bR1
    have HF1_ := Lib.hid hf1
    clear hK bR1 hf1
    simp only [encA]
    gi_wp2
    exact HK.out _ _ ((KeepsOthers.alloc _ _).from _) ((Fr.refl _ W).alloc _) ⟨alloc_keeps HB1.out _, HF1_.out.alloc _⟩ ⟨W.heap.size, HF1_.out.size, heap_alloc_new W _, rfl⟩
  case body =>
    rintro l pre x a' W hl ⟨r, hr⟩ ⟨bR1, hf1⟩ ⟨Bx, hBx, bX, rfl⟩ hlt
    obtain ⟨x0, x1, x2, x3, x4, x5, x6⟩ := seven_cells bX
    have HB1 := Lib.hid bR1
    have HF1_ := Lib.hid hf1
    clear bR1 hf1 hr hlt bX
    obtain ⟨hx1, hx2, hx3, hx4⟩ := x.2
    have HG2 := Lib.hid (show ∀ d, disC ((pre ++ [x]).map fun x => x.1.1) d = (x.1.1.chs.any (fun n => n == (d : Int)) || disC (pre.map fun x => x.1.1) d) from fun d => by simp [disC, hasC, Bool.or_comm])
    obtain ⟨ln, hln⟩ : ∃ ln, ln = x.1.1.chs.length := ⟨_, rfl⟩
    rw [← hln] at hx2 hx3 hx4 x3
    have HLN := Lib.hid hln
    have HXC := Lib.hid (srB_t hx1).2.2.2
    have HX2 := Lib.hid hx2
    have HX3 := Lib.hid hx3
    have HX4 := Lib.hid hx4
    clear hx1 hx2 hx3 hx4
    obtain ⟨cs, hcs⟩ : ∃ cs, cs = x.1.1.chs := ⟨_, rfl⟩
    rw [← hcs] at HXC HX3 HG2
    have HCS := Lib.hid hcs
    have HLN2 := Lib.hid (hln.trans (by rw [← hcs]))
    simp only [← hln]
    clear hcs hln
    generalize hg : disC (pre.map fun x => x.1.1) = g at *
    have HG := Lib.hid hg
    clear hg
    gi_wp2_with fail
    gi_loopw [10, 30] (fun _ i wr => ∃ k : Nat, k ≤ ln ∧ i = .int .i64 k ∧ Hid (wr.heap[y2.heap.size]? = some (.cells (flA (fun d => (cs.take k).any (fun n => n == (d : Int)) || g d)) 131 (0, 0))) ∧ Hid (KeepsOthers W wr) ∧ Hid (Fr (only y2.heap.size) W wr)) (fun _ i _ => ln - (intOf i).toNat)
    case atStart => exact ⟨0, Nat.zero_le _, rfl, Lib.hid (by simpa using HB1.out), Lib.hid (KeepsOthers.refl _), Lib.hid (Fr.refl _ _)⟩
    case round =>
      obtain ⟨k, hk, rfl, HBk, HKk, HFk⟩ := hrel
      by_cases hlt : k < ln
      · obtain ⟨b, off, hca, e0⟩ := HX3.out.2 k hlt
        have hnb := HX4.out b off hca (by omega)
        have hnR : ¬ only y2.heap.size b := fun h => hnb (.inl h)
        have e1 := HFk.out.keepc0 (HF1_.out.keepc0 e0 hnR) hnR
        have hin := inR_t.1 (chs_in HXC.out k (by have := HLN2.out; omega))
        have HTK := Lib.hid (take_any cs k (by have := HLN2.out; omega))
        have hkI : (k : Int) ≤ 39 := by have := HX2.out; omega
        obtain ⟨m, hm⟩ := Int.eq_ofNat_of_zero_le hin.1
        have hm16 : m < 16 := by omega
        have hmI : (m : Int) < 16 := by omega
        rw [hm] at e1 HTK
        obtain ⟨v0, v1⟩ := fl_cell HBk.out m hm16
        have HS2 := Lib.hid (by have := three_set HBk.out m (.bool true); rw [flA_set _ m hm16] at this; exact this)
        clear hnb hnR e0 hin hm
        generalize cs.getD k 0 = cc at *
        gi_wp2_with fail
        go_roundw
        case rel => exact ⟨k + 1, by omega, by go_num, Lib.hid (by
            have h1 := HS2.out
            rw [show (fun d : Nat => d == m || ((cs.take k).any (fun n => n == (d : Int)) || g d)) = (fun d : Nat => (cs.take (k + 1)).any (fun n => n == (d : Int)) || g d) from ?_] at h1
            · exact h1
            · funext d
              have hdm : (d == m) = ((m : Int) == (d : Int)) := by rw [Bool.eq_iff_iff]; simp only [beq_iff_eq]; omega
              rw [HTK.out d, hdm]
              cases ((m : Int) == (d : Int)) <;> cases (cs.take k).any (fun n => n == (d : Int)) <;> cases g d <;> rfl), Lib.hid (HKk.out.trans (KeepsOthers.setCell _ _ _)), Lib.hid (HFk.out.setCell (p := ⟨y2.heap.size, m, none⟩) (.inl rfl) _)⟩
        case measure => simp [intOf]; omega
      · have HV := Lib.hid (show (fun d : Nat => (cs.take k).any (fun n => n == (d : Int)) || g d) = disC ((pre ++ [x]).map fun x => x.1.1) by
          funext d
          rw [HG2.out d, List.take_of_length_le (by have := HLN2.out; omega)])
        gi_wp2_with fail
        exact ⟨HKk.out.from _, HFk.out.mono (fun _ _ h => .inl h), by rw [← HV.out]; exact HBk.out, HF1_.out.trans HFk.out (fun _ _ h => h)⟩
  case done =>
    rintro D' xs W hD hxs ⟨bR1, hf1⟩ hK
    rw [hxs] at bR1
    have HB1 := Lib.hid bR1
    have HF1_ := Lib.hid hf1
    have HKD := Lib.hid hK
    clear bR1 hf1 hK hxs
    obtain ⟨i0, hi, hz0, hz1, hz2⟩ := info_parts info3N
    have HLs := Lib.hid (show actL ss p q = ss.filter (meS p q) from rfl)
    rw [← HLs.out] at HB1
    have HRS := Lib.hid (show w.heap.size ≤ y2.heap.size from HF1.out.size)
    have HFW := Lib.hid (show Fr no w W from HFL.out.trans HF1_.out (fun i hi h => by have := HRS.out; simp only [only] at h; omega))
    obtain ⟨f, hff⟩ : ∃ f, f = disC (actL ss p q) := ⟨_, rfl⟩
    rw [← hff] at HB1
    have HFF := Lib.hid hff
    clear hff
    gi_wp2_with fail
    gi_loopw [11, 12, 37] (fun v _ i wr => ∃ k : Nat, k ≤ 16 ∧ i = .int .i64 k ∧ Hid (OwnI W.heap.size wr v (clL f k)) ∧ Hid (Fr no W wr)) (fun _ _ i _ => 16 - (intOf i).toNat)
    case atStart => exact ⟨0, by omega, rfl, Lib.hid (by show World.ownsRow _ _ 3 1 _ 0 []; exact World.ownsRow_nil _ _ _ _), Lib.hid (Fr.refl _ _)⟩
    case round =>
      obtain ⟨k, hk, rfl, ho, F⟩ := hrel
      by_cases hlt : k < 16
      · obtain ⟨v0, v1⟩ := fl_cell (F.out.blk HB1.out (fun h => h)) k hlt
        have HN := Lib.hid (clL_succ f k)
        have HLn := Lib.hid (clL_len f k)
        have hkI : (k : Int) < 16 := by omega
        generalize clL f k = L at *
        cases hf : f k
        · rw [hf] at v0 HN
          have hown : World.ownsRow wr W.heap.size 3 1 u11 L.length (valsI L) := ho.out
          gi_wp2_with (gi_at_builtin; refine wpListIn_append_own _ rfl (.tmp 44) (.tmp 46) 23 rfl W.heap.size 3 i0 (.int .i64 0) 1 8 Try.underlying23 hi hz0 hz1 hz2 rfl (by decide) _ _ _ rfl (hown.alloc _) ⟨wr.heap.size, 0, none⟩ 1 1 [.int .i64 (k : Int)] rfl rfl ?c1 ?c2 ?c3 ?c4 ?c5 ?_)
          case c1 =>
            intro j u hj
            rcases j with _ | j
            · simp only [List.getElem?_cons_zero, Option.some.injEq] at hj
              subst hj
              rw [show (⟨wr.heap.size, 0, none⟩ : Addr).add 0 = ⟨wr.heap.size, 0, none⟩ by simp [Addr.add]]
              exact cell_new1 _ _ _
            · simp at hj
          case c2 => simp [Value.oneCell']
          case c3 => have := HLn.out; unfold maxLen; omega
          case c4 => have := HLn.out; omega
          case c5 => have := F.out.size; simp; omega
          intro v' w7 hown7 hgrow7 _
          have F7 := Lib.hid (show Fr no W w7 from (F.out.alloc _).grown hgrow7 (fun j hj => .inr (own_geN hown j hj)))
          have HO7 := Lib.hid (show OwnI W.heap.size w7 v' (L ++ [(k : Int)]) by
            unfold OwnI valsI
            rw [List.length_append, List.map_append]
            exact hown7)
          clear hown7 hgrow7 hown
          gi_wp2_with fail
          go_roundw
          case rel => exact ⟨k + 1, by omega, by go_num, by rw [HN.out]; simpa using HO7, F7⟩
          case measure => simp [intOf]; omega
        · rw [hf] at v0 HN
          gi_wp2_with fail
          go_roundw
          case rel => exact ⟨k + 1, by omega, by go_num, by rw [HN.out]; simpa using ho, F⟩
          case measure => simp [intOf]; omega
      · obtain rfl : k = 16 := by omega
        gi_wp2_with fail
        have hDk := F.out.blk HKD.out (fun h => h)
        refine ⟨by simp, .inl ⟨_, _, rfl, run_takeDeferred hDk, ?_⟩⟩
        refine ⟨_, results_tmp rfl _ _ _, _, rfl, ?_, ?_⟩
        · rw [← HFF.out]
          have h1 := World.ownsRow.kept ho.out (grownBy_putObj' wr D' (.deferred none)) (by
            by_cases hnn : u11.ownBlock = none
            · exact .inl hnn
            · refine .inr fun he => ?_
              have h2 := own_geN ho.out D' he
              have h3 := lt_of_blk HKD.out
              omega)
          exact World.ownsRow.mono h1 HFW.out.size
        · exact (HFW.out.noTrans F.out).putObj (.inr (Nat.le_trans HFL.out.size hD)) _
  case stop =>
    rintro D' c pre W _ _ h _
    exact h.elim
theorem clear_any (a0 : Option Addr) (l0 k0 : Nat) (a1 : Option Addr) (l1 k1 : Nat) (ss : List Src) (fs : List Fd) (p q : Int) (w : World) (hsp : SpIn w a0 l0 a1 l1 ss fs) :
    Calls Try.prog 44 #[.agg #[.slice a0 l0 k0, .slice a1 l1 k1], .int .i64 p, .int .i64 q] w fun e w' => LstRes w w' (clrL (ckS l0 l1 ss fs) ss p q) e := by
  unfold clrL
  cases h : ((ckS l0 l1 ss fs) && ivB p q)
  · exact clear_0 a0 l0 k0 a1 l1 k1 ss fs p q w hsp h
  · rw [Bool.and_eq_true] at h
    exact clear_1 a0 l0 k0 a1 l1 k1 ss fs p q w hsp h.1 h.2
end Go.Proofs.Ytdenlinehjigaaa
