/- The power that arrives at a point. -/
import Derived.Test.YtdenlinehjigaaaIte
namespace Go.Proofs.Ytdenlinehjigaaa
open Go.RowKit Go.Shelf
set_option linter.unusedVariables false
attribute [local go_sem] Oper.semAt_some

/-- The power ahead of the walls. -/
def arM (q : Int) : Int := if q ≤ 100 then 100 else q
def arB (e q p : Int) : Int := if e = 4 then p * 100 / arM q * 100 / arM q else p * 100 / arM q
def foldW (r : Int) (ws : List Wl) : Int := ws.foldl (fun r v => scV r v.f) r
def arF (e ax ay bx by_ p : Int) (ws : List Wl) : Int := foldW (arB e (sqF ax ay bx by_) p) (ws.filter (crW ax ay bx by_))
theorem foldW_snoc (r : Int) (pre : List Wl) (x : Wl) : foldW r (pre ++ [x]) = scV (foldW r pre) x.f := by simp [foldW]
theorem Fr.putObj {S : Nat → Prop} {a W : World} (h : Fr S a W) {l : Nat} (hl : S l ∨ a.heap.size ≤ l) (o : Obj) : Fr S a (W.putObj l o) := h.grown (grownBy_putObj' W l o) (fun k e => by cases e; exact hl)
theorem ownFrom_fr {β : Type} {B : Nat} {S : Nat → Prop} {w0 : World} (hB : w0.heap.size ≤ B) : OwnFrom B (fun (_ : β) W => Fr S w0 W) := fun _ X Y row hs hg hr => hs.grown hg (fun k e => .inr (Nat.le_trans hB (hr k e).1))
theorem ownFrom_blk {β : Type} {B k : Nat} {c : Array Value} {T : Nat} : OwnFrom B (fun (_ : β) W => W.heap[k]? = some (.cells c T (0, 0))) := fun _ X Y row hs hg hr => by
  refine (hg.block k (Array.getElem?_eq_some_iff.1 hs).1 (fun e => ?_)).trans hs
  obtain ⟨_, o, ho, hc⟩ := hr k e.symm
  rw [hs] at ho
  cases ho
  cases hc
theorem div_bound (a b : Int) (h0 : 0 ≤ a) (h1 : 100 ≤ b) : 0 ≤ a * 100 / b ∧ a * 100 / b ≤ a := by
  refine ⟨Int.ediv_nonneg (by omega) (by omega), ?_⟩
  have : a * 100 / b ≤ a * b / b := Int.ediv_le_ediv (by omega) (Int.mul_le_mul_of_nonneg_left (by omega) h0)
  rwa [Int.mul_ediv_cancel _ (by omega)] at this
set_option maxRecDepth 100000 in
set_option maxHeartbeats 16000000 in
theorem arr_4b (a0 : Option Addr) (l0 k0 : Nat) (a1 : Option Addr) (l1 k1 : Nat) (a2 : Option Addr) (l2 k2 : Nat) (o t : Int) (ax ay bx by_ p q : Int) (ws : List Wl) (w : World) (hw : WlsIn w a2 l2 ws) (hok : ws.all wlOk = true) (hl : l2 ≤ 40) (h1 : nr ax) (h2 : nr ay) (h3 : nr bx) (h4 : nr by_) (p0 : 0 ≤ p) (p1 : p ≤ 68719476736)
    (hq : sqF ax ay bx by_ = q) (q1 : q ≤ 3200000000) (q2 : 100 ≤ q) :
    Calls Try.prog 80 #[.agg #[.slice a0 l0 k0, .slice a1 l1 k1, .slice a2 l2 k2, .int .i64 4, .int .i64 o, .int .i64 t], .agg #[.int .i64 ax, .int .i64 ay], .int .i64 p, .agg #[.int .i64 bx, .int .i64 by_]] w fun e' w' => e' = .returned (.int .i64 (foldW (arB 4 q p) (ws.filter (crW ax ay bx by_)))) ∧ Fr no w w' := by
  have K13 := fun w => square_any ax ay bx by_ w h1 h2 h3 h4
  rw [hq] at K13
  have K13 := Lib.hid K13
  clear hq
  obtain ⟨v0, v1⟩ := div_bound p q p0 (by omega)
  have hm : p * 100 ≤ 6871947673600 := by omega
  have hm0 : 0 ≤ p * 100 := by omega
  have t1 : Int.tdiv (p * 100) q = p * 100 / q := Int.tdiv_eq_ediv_of_nonneg hm0
  have t2 : Int.tdiv (p * 100 / q * 100) q = p * 100 / q * 100 / q := Int.tdiv_eq_ediv_of_nonneg (by omega)
  obtain ⟨v2, v3⟩ := div_bound (p * 100 / q) q v0 (by omega)
  have z1 : (q == 0) = false := by rw [beq_eq_false_iff_ne]; omega
  have HB := Lib.hid (show arB 4 q p = p * 100 / q * 100 / q by simp only [arB, show arM q = q by unfold arM; split <;> omega]; rfl)
  have HH := Lib.hid (And.intro h1 (And.intro h2 (And.intro h3 h4)))
  have HWL := Lib.hid hw
  have HOK := Lib.hid hok
  have HL := Lib.hid hl
  clear h1 h2 h3 h4 hw hok hl
  have KS := Lib.hid (show ∀ w0 w' : World, Fr no w0 w' → w0.cell? ⟨w.heap.size, 0, none⟩ = some (.slice a0 l0 k0) → w0.cell? ⟨w.heap.size, 1, none⟩ = some (.slice a1 l1 k1) → w0.cell? ⟨w.heap.size, 2, none⟩ = some (.slice a2 l2 k2) → w0.cell? ⟨w.heap.size, 3, none⟩ = some (.int .i64 4) → w0.cell? ⟨w.heap.size, 4, none⟩ = some (.int .i64 o) → w0.cell? ⟨w.heap.size, 5, none⟩ = some (.int .i64 t) → w0.cell? ⟨w.heap.size + 1, 0, none⟩ = some (.int .i64 ax) → w0.cell? ⟨w.heap.size + 1, 1, none⟩ = some (.int .i64 ay) → w0.cell? ⟨w.heap.size + 1 + 1, 0, none⟩ = some (.int .i64 bx) → w0.cell? ⟨w.heap.size + 1 + 1, 1, none⟩ = some (.int .i64 by_) → (w'.cell? ⟨w.heap.size, 0, none⟩ = some (.slice a0 l0 k0) ∧ w'.cell? ⟨w.heap.size, 1, none⟩ = some (.slice a1 l1 k1) ∧ w'.cell? ⟨w.heap.size, 2, none⟩ = some (.slice a2 l2 k2) ∧ w'.cell? ⟨w.heap.size, 3, none⟩ = some (.int .i64 4) ∧ w'.cell? ⟨w.heap.size, 4, none⟩ = some (.int .i64 o) ∧ w'.cell? ⟨w.heap.size, 5, none⟩ = some (.int .i64 t) ∧ w'.cell? ⟨w.heap.size + 1, 0, none⟩ = some (.int .i64 ax) ∧ w'.cell? ⟨w.heap.size + 1, 1, none⟩ = some (.int .i64 ay) ∧ w'.cell? ⟨w.heap.size + 1 + 1, 0, none⟩ = some (.int .i64 bx) ∧ w'.cell? ⟨w.heap.size + 1 + 1, 1, none⟩ = some (.int .i64 by_)) from fun _ _ h a0 a1 a2 a3 a4 a5 a6 a7 a8 a9 => ⟨h.keepc a0, h.keepc a1, h.keepc a2, h.keepc a3, h.keepc a4, h.keepc a5, h.keepc a6, h.keepc a7, h.keepc a8, h.keepc a9⟩)
  obtain ⟨W, hW⟩ : ∃ W, W = (((w.alloc (.cells #[.slice a0 l0 k0, .slice a1 l1 k1, .slice a2 l2 k2, .int .i64 4, .int .i64 o, .int .i64 t] 26 (0, 0))).alloc (.cells #[.int .i64 ax, .int .i64 ay] 42 (0, 0))).alloc (.cells #[.int .i64 bx, .int .i64 by_] 42 (0, 0))) := ⟨_, rfl⟩
  have HF := Lib.hid (show Fr no w W by rw [hW]; exact (((Fr.refl no w).alloc _).alloc _).alloc _)
  have c0 : W.cell? ⟨w.heap.size, 0, none⟩ = some (.slice a0 l0 k0) := by rw [hW]; go_simp
  have c1 : W.cell? ⟨w.heap.size, 1, none⟩ = some (.slice a1 l1 k1) := by rw [hW]; go_simp
  have c2 : W.cell? ⟨w.heap.size, 2, none⟩ = some (.slice a2 l2 k2) := by rw [hW]; go_simp
  have c3 : W.cell? ⟨w.heap.size, 3, none⟩ = some (.int .i64 4) := by rw [hW]; go_simp
  have c4 : W.cell? ⟨w.heap.size, 4, none⟩ = some (.int .i64 o) := by rw [hW]; go_simp
  have c5 : W.cell? ⟨w.heap.size, 5, none⟩ = some (.int .i64 t) := by rw [hW]; go_simp
  have c6 : W.cell? ⟨w.heap.size + 1, 0, none⟩ = some (.int .i64 ax) := by rw [hW]; go_simp
  have c7 : W.cell? ⟨w.heap.size + 1, 1, none⟩ = some (.int .i64 ay) := by rw [hW]; go_simp
  have c8 : W.cell? ⟨w.heap.size + 1 + 1, 0, none⟩ = some (.int .i64 bx) := by rw [hW]; go_simp
  have c9 : W.cell? ⟨w.heap.size + 1 + 1, 1, none⟩ = some (.int .i64 by_) := by rw [hW]; go_simp
  have HW := Lib.hid hW
  clear hW
  refine (callsIn_wide (n := 3)).1 ?_
  refine callsIn_of_wp_marks Try.func80 rfl trivial ?_ rfl
  simp only [Try.ntmps80, List.size_toArray, List.length_cons, List.length_nil, Nat.reduceAdd, Nat.reduceSub, Array.replicate_succ, Array.replicate_zero, List.push_toArray, List.append_toArray, List.nil_append, List.cons_append]
  gi_wp2_with fail
  rw [← HW.out]
  refine ⟨trivial, ?_⟩
  refine (callsIn_wide.2 (K13.out _)).mono ?_
  rintro e y1 ⟨rfl, f1⟩
  obtain ⟨d0, d1, d2, d3, d4, d5, d6, d7, d8, d9⟩ := KS.out _ _ f1 c0 c1 c2 c3 c4 c5 c6 c7 c8 c9
  have HF1 := Lib.hid (HF.out.noTrans f1)
  clear f1 c0 c1 c2 c3 c4 c5 c6 c7 c8 c9
  have hsz := HF1.out.size
  have u0 := ((Fr.refl no y1).alloc (.cells #[.int .i64 (p * 100 / q)] 3 (0, 0))).keepc d0
  have u1 := ((Fr.refl no y1).alloc (.cells #[.int .i64 (p * 100 / q)] 3 (0, 0))).keepc d1
  have u2 := ((Fr.refl no y1).alloc (.cells #[.int .i64 (p * 100 / q)] 3 (0, 0))).keepc d2
  have u3 := ((Fr.refl no y1).alloc (.cells #[.int .i64 (p * 100 / q)] 3 (0, 0))).keepc d3
  have u4 := ((Fr.refl no y1).alloc (.cells #[.int .i64 (p * 100 / q)] 3 (0, 0))).keepc d4
  have u5 := ((Fr.refl no y1).alloc (.cells #[.int .i64 (p * 100 / q)] 3 (0, 0))).keepc d5
  have u6 := ((Fr.refl no y1).alloc (.cells #[.int .i64 (p * 100 / q)] 3 (0, 0))).keepc d6
  have u7 := ((Fr.refl no y1).alloc (.cells #[.int .i64 (p * 100 / q)] 3 (0, 0))).keepc d7
  have u8 := ((Fr.refl no y1).alloc (.cells #[.int .i64 (p * 100 / q)] 3 (0, 0))).keepc d8
  have u9 := ((Fr.refl no y1).alloc (.cells #[.int .i64 (p * 100 / q)] 3 (0, 0))).keepc d9
  have v0_ := ((Fr.refl no y1).alloc (.cells #[.int .i64 (p * 100 / q * 100 / q)] 3 (0, 0))).keepc d0
  have v1_ := ((Fr.refl no y1).alloc (.cells #[.int .i64 (p * 100 / q * 100 / q)] 3 (0, 0))).keepc d1
  have v2_ := ((Fr.refl no y1).alloc (.cells #[.int .i64 (p * 100 / q * 100 / q)] 3 (0, 0))).keepc d2
  have v3_ := ((Fr.refl no y1).alloc (.cells #[.int .i64 (p * 100 / q * 100 / q)] 3 (0, 0))).keepc d3
  have v4_ := ((Fr.refl no y1).alloc (.cells #[.int .i64 (p * 100 / q * 100 / q)] 3 (0, 0))).keepc d4
  have v5_ := ((Fr.refl no y1).alloc (.cells #[.int .i64 (p * 100 / q * 100 / q)] 3 (0, 0))).keepc d5
  have v6_ := ((Fr.refl no y1).alloc (.cells #[.int .i64 (p * 100 / q * 100 / q)] 3 (0, 0))).keepc d6
  have v7_ := ((Fr.refl no y1).alloc (.cells #[.int .i64 (p * 100 / q * 100 / q)] 3 (0, 0))).keepc d7
  have v8_ := ((Fr.refl no y1).alloc (.cells #[.int .i64 (p * 100 / q * 100 / q)] 3 (0, 0))).keepc d8
  have v9_ := ((Fr.refl no y1).alloc (.cells #[.int .i64 (p * 100 / q * 100 / q)] 3 (0, 0))).keepc d9
  gi_wp2_with fail
  refine ⟨trivial, ?_⟩
  refine (callsIn_wide.2 (crossed_any a2 l2 k2 ax ay bx by_ _)).mono ?_
  rintro e' w' ⟨rfl, rfl⟩
  gi_wp2_with fail
  obtain ⟨WL, hWL⟩ : ∃ WL, WL = (((y1.alloc (.cells #[.int .i64 (p * 100 / q * 100 / q)] 3 (0, 0))).alloc (.cells #[.slice a2 l2 k2] 24 (0, 0))).alloc (.cells #[.int .i64 ax, .int .i64 ay] 42 (0, 0))).alloc (.cells #[.int .i64 bx, .int .i64 by_] 42 (0, 0)) := ⟨_, rfl⟩
  have hWS : WL.heap.size = y1.heap.size + 4 := by rw [hWL]; simp
  have bR : Boxed WL y1.heap.size 3 (.int .i64 (p * 100 / q * 100 / q)) := by rw [hWL]; exact (((Boxed.new y1 3 _).alloc _).alloc _).alloc _
  have s0 : WL.cell? ⟨y1.heap.size + 1, 0, none⟩ = some (.slice a2 l2 k2) := by rw [hWL]; go_simp
  have s1 : WL.cell? ⟨y1.heap.size + 1 + 1, 0, none⟩ = some (.int .i64 ax) := by rw [hWL]; go_simp
  have s2 : WL.cell? ⟨y1.heap.size + 1 + 1, 1, none⟩ = some (.int .i64 ay) := by rw [hWL]; go_simp
  have s3 : WL.cell? ⟨y1.heap.size + 1 + 1 + 1, 0, none⟩ = some (.int .i64 bx) := by rw [hWL]; go_simp
  have s4 : WL.cell? ⟨y1.heap.size + 1 + 1 + 1, 1, none⟩ = some (.int .i64 by_) := by rw [hWL]; go_simp
  have hFL : Fr no w WL := by rw [hWL]; exact (((HF1.out.alloc _).alloc _).alloc _).alloc _
  rw [← hWL]
  have HFL := Lib.hid hFL
  have HWS := Lib.hid hWS
  clear hWL hFL hWS
  have HLW : ∀ b off, a2 = some ⟨b, off, none⟩ → 0 < l2 → ¬ out y1.heap.size WL.heap.size b := fun b off ha hl0 => by
    obtain ⟨b', off', h1, h2, _⟩ := HWL.out.2 0 hl0
    rw [ha] at h1
    cases h1
    have := World.block_lt_of_cell? w _ h2
    have h3 := HWS.out
    simp only [out]
    simp only at this
    omega
  refine wpIn_rangeFunc_ownH rfl (by omega) (gf := 153) (lb := #[.pointer (some ⟨y1.heap.size + 1, 0, none⟩), .pointer (some ⟨y1.heap.size + 1 + 1, 0, none⟩), .pointer (some ⟨y1.heap.size + 1 + 1 + 1, 0, none⟩)]) rfl trivial (enters_of Try.func153 (by kernel_rfl) rfl)
    (crossed_stops 2 (by omega) (y1.heap.size + 1) (y1.heap.size + 1 + 1) (y1.heap.size + 1 + 1 + 1) y1.heap.size WL.heap.size a2 l2 k2 ws ax ay bx by_ HH.out.1 HH.out.2.1 HH.out.2.2.1 HH.out.2.2.2 HOK.out HL.out
      (by have := HWS.out; simp only [out]; omega) (by have := HWS.out; simp only [out]; omega) (by have := HWS.out; simp only [out]; omega) HLW WL (Nat.le_refl _) s0 s1 s2 s3 s4 (HWL.out.kept HFL.out))
    (fun h k => h.trans k (fun _ _ h => h)) (fun W l o o' hl h _ _ => (Fr.refl _ W).putObj (.inl (.inr hl)) o') (Below.refl _ _) (fun _ => rfl)
    (fun pre W => Boxed W y1.heap.size 3 (.int .i64 (foldW (p * 100 / q * 100 / q) pre)) ∧ Fr (only y1.heap.size) WL W)
    (fun _ _ _ => False)
    (OwnFrom.and (Own.from (boxed_own _ _ _) _) (ownFrom_fr (Nat.le_refl _)))
    (fun _ _ _ _ _ hs _ _ => hs)
    ⟨bR, Fr.refl _ _⟩
    (fun x a' W => ∃ Bx, WL.heap.size ≤ Bx ∧ W.heap[Bx]? = some (.cells #[.int .i64 x.ax, .int .i64 x.ay, .int .i64 x.bx, .int .i64 x.by_, .int .i64 x.f] 101 (0, 0)) ∧ a' = { tmps := #[.agg #[.slice a0 l0 k0, .slice a1 l1 k1, .slice a2 l2 k2, .int .i64 4, .int .i64 o, .int .i64 t], .agg #[.int .i64 ax, .int .i64 ay], .int .i64 p, .agg #[.int .i64 bx, .int .i64 by_], .pointer (some ⟨w.heap.size, 0, none⟩), .pointer (some ⟨w.heap.size + 1, 0, none⟩), undef, .pointer (some ⟨w.heap.size + 1 + 1, 0, none⟩), .int .i64 0, .int .i64 q, .pointer (some ⟨y1.heap.size, 0, none⟩), .pointer (some ⟨Bx, 0, none⟩), .agg #[.int .i64 ax, .int .i64 ay], .agg #[.int .i64 bx, .int .i64 by_], .int .i64 q, .int .i64 q, .int .i64 p, .int .i64 (p * 100), .int .i64 q, .int .i64 (p * 100 / q), .pointer (some ⟨w.heap.size, 3, none⟩), .int .i64 4, .bool true, .int .i64 (p * 100 / q), .int .i64 (p * 100 / q * 100), .int .i64 q, .int .i64 (p * 100 / q * 100 / q), .pointer (some ⟨w.heap.size, 2, none⟩), .slice a2 l2 k2, .agg #[.int .i64 ax, .int .i64 ay], .agg #[.int .i64 bx, .int .i64 by_], .func (.func 153) #[] #[.pointer (some ⟨y1.heap.size + 1, 0, none⟩), .pointer (some ⟨y1.heap.size + 1 + 1, 0, none⟩), .pointer (some ⟨y1.heap.size + 1 + 1 + 1, 0, none⟩)], .agg #[.int .i64 x.ax, .int .i64 x.ay, .int .i64 x.bx, .int .i64 x.by_, .int .i64 x.f], undef, undef, undef, undef, undef, undef, undef, undef], defers := [] })
    (fun x a' _ X Y row hs hg hr => by obtain ⟨Bx, h1, h2, h3⟩ := hs; exact ⟨Bx, h1, ownFrom_blk (β := Unit) () X Y row h2 hg hr, h3⟩)
    ?assign ?body ?done ?stop
  case assign =>
    rintro l pre x W K ⟨bR1, hf1⟩ hK
    have HK := Lib.hid hK
    have HB1 := Lib.hid bR1
    have HF1_ := Lib.hid hf1
    clear hK bR1 hf1
    simp only [enc]
    gi_wp2
    exact HK.out _ _ ((KeepsOthers.alloc _ _).from _) ((Fr.refl _ W).alloc _) ⟨HB1.out.alloc _, HF1_.out.alloc _⟩ ⟨W.heap.size, HF1_.out.size, heap_alloc_new W _, rfl⟩
  case body =>
    rintro l pre x a' W hl ⟨r, hr⟩ ⟨bR1, hf1⟩ ⟨Bx, hBx, bX, rfl⟩ hlt
    obtain ⟨x0, x1, x2, x3, x4⟩ := five_cells bX
    have cR := bR1.cell
    have fR := bR1.frozen
    have HB1 := Lib.hid bR1
    have HF1_ := Lib.hid hf1
    have HS := Lib.hid (foldW_snoc (p * 100 / q * 100 / q) pre x)
    clear bR1 hf1 hr hlt bX
    gi_wp2_with fail
    refine ⟨trivial, ?_⟩
    refine (CallsIn.inRound l (callsIn_wide.2 (scale_any _ _ _))).mono ?_
    rintro e' w' ⟨rfl, rfl⟩
    gi_wp2
    exact ⟨(KeepsOthers.setCell _ _ _).from _, (Fr.refl _ _).setCell (.inl (.inl rfl)) _, by rw [HS.out]; exact HB1.out.set _, HF1_.out.setCell (p := ⟨y1.heap.size, 0, none⟩) (.inl rfl) _⟩
  case done =>
    rintro D' xs W hD rfl ⟨bR1, hf1⟩ hK
    have cR := bR1.cell
    have HF1_ := Lib.hid hf1
    have HKD := Lib.hid hK
    have HRS := Lib.hid (show w.heap.size ≤ y1.heap.size from hsz)
    clear bR1 hf1 hK
    gi_wp2
    refine ⟨by simp, .inl ⟨_, _, rfl, run_takeDeferred HKD.out, ?_⟩⟩
    exact ⟨_, results_tmp rfl _ _ _, by rw [HB.out]; rfl, HFL.out.trans (HF1_.out.putObj (.inr hD) _) (fun i hi h => by have := HRS.out; simp only [only] at h; omega)⟩
  case stop =>
    rintro D' c pre W _ _ h _
    exact h.elim
set_option maxRecDepth 100000 in
set_option maxHeartbeats 16000000 in
theorem arr_4s (a0 : Option Addr) (l0 k0 : Nat) (a1 : Option Addr) (l1 k1 : Nat) (a2 : Option Addr) (l2 k2 : Nat) (o t : Int) (ax ay bx by_ p q : Int) (ws : List Wl) (w : World) (hw : WlsIn w a2 l2 ws) (hok : ws.all wlOk = true) (hl : l2 ≤ 40) (h1 : nr ax) (h2 : nr ay) (h3 : nr bx) (h4 : nr by_) (p0 : 0 ≤ p) (p1 : p ≤ 68719476736)
    (hq : sqF ax ay bx by_ = q) (q1 : q ≤ 3200000000) (q2 : q < 100) :
    Calls Try.prog 80 #[.agg #[.slice a0 l0 k0, .slice a1 l1 k1, .slice a2 l2 k2, .int .i64 4, .int .i64 o, .int .i64 t], .agg #[.int .i64 ax, .int .i64 ay], .int .i64 p, .agg #[.int .i64 bx, .int .i64 by_]] w fun e' w' => e' = .returned (.int .i64 (foldW (arB 4 q p) (ws.filter (crW ax ay bx by_)))) ∧ Fr no w w' := by
  have K13 := fun w => square_any ax ay bx by_ w h1 h2 h3 h4
  rw [hq] at K13
  have K13 := Lib.hid K13
  clear hq
  obtain ⟨v0, v1⟩ := div_bound p 100 p0 (by omega)
  have hm : p * 100 ≤ 6871947673600 := by omega
  have hm0 : 0 ≤ p * 100 := by omega
  have t1 : Int.tdiv (p * 100) 100 = p * 100 / 100 := Int.tdiv_eq_ediv_of_nonneg hm0
  have t2 : Int.tdiv (p * 100 / 100 * 100) 100 = p * 100 / 100 * 100 / 100 := Int.tdiv_eq_ediv_of_nonneg (by omega)
  obtain ⟨v2, v3⟩ := div_bound (p * 100 / 100) 100 v0 (by omega)
  have z1 : q ≤ 100 := by omega
  have HB := Lib.hid (show arB 4 q p = p by simp only [arB, show arM q = 100 by unfold arM; split <;> omega]; omega)
  have HH := Lib.hid (And.intro h1 (And.intro h2 (And.intro h3 h4)))
  have HWL := Lib.hid hw
  have HOK := Lib.hid hok
  have HL := Lib.hid hl
  clear h1 h2 h3 h4 hw hok hl
  have KS := Lib.hid (show ∀ w0 w' : World, Fr no w0 w' → w0.cell? ⟨w.heap.size, 0, none⟩ = some (.slice a0 l0 k0) → w0.cell? ⟨w.heap.size, 1, none⟩ = some (.slice a1 l1 k1) → w0.cell? ⟨w.heap.size, 2, none⟩ = some (.slice a2 l2 k2) → w0.cell? ⟨w.heap.size, 3, none⟩ = some (.int .i64 4) → w0.cell? ⟨w.heap.size, 4, none⟩ = some (.int .i64 o) → w0.cell? ⟨w.heap.size, 5, none⟩ = some (.int .i64 t) → w0.cell? ⟨w.heap.size + 1, 0, none⟩ = some (.int .i64 ax) → w0.cell? ⟨w.heap.size + 1, 1, none⟩ = some (.int .i64 ay) → w0.cell? ⟨w.heap.size + 1 + 1, 0, none⟩ = some (.int .i64 bx) → w0.cell? ⟨w.heap.size + 1 + 1, 1, none⟩ = some (.int .i64 by_) → (w'.cell? ⟨w.heap.size, 0, none⟩ = some (.slice a0 l0 k0) ∧ w'.cell? ⟨w.heap.size, 1, none⟩ = some (.slice a1 l1 k1) ∧ w'.cell? ⟨w.heap.size, 2, none⟩ = some (.slice a2 l2 k2) ∧ w'.cell? ⟨w.heap.size, 3, none⟩ = some (.int .i64 4) ∧ w'.cell? ⟨w.heap.size, 4, none⟩ = some (.int .i64 o) ∧ w'.cell? ⟨w.heap.size, 5, none⟩ = some (.int .i64 t) ∧ w'.cell? ⟨w.heap.size + 1, 0, none⟩ = some (.int .i64 ax) ∧ w'.cell? ⟨w.heap.size + 1, 1, none⟩ = some (.int .i64 ay) ∧ w'.cell? ⟨w.heap.size + 1 + 1, 0, none⟩ = some (.int .i64 bx) ∧ w'.cell? ⟨w.heap.size + 1 + 1, 1, none⟩ = some (.int .i64 by_)) from fun _ _ h a0 a1 a2 a3 a4 a5 a6 a7 a8 a9 => ⟨h.keepc a0, h.keepc a1, h.keepc a2, h.keepc a3, h.keepc a4, h.keepc a5, h.keepc a6, h.keepc a7, h.keepc a8, h.keepc a9⟩)
  obtain ⟨W, hW⟩ : ∃ W, W = (((w.alloc (.cells #[.slice a0 l0 k0, .slice a1 l1 k1, .slice a2 l2 k2, .int .i64 4, .int .i64 o, .int .i64 t] 26 (0, 0))).alloc (.cells #[.int .i64 ax, .int .i64 ay] 42 (0, 0))).alloc (.cells #[.int .i64 bx, .int .i64 by_] 42 (0, 0))) := ⟨_, rfl⟩
  have HF := Lib.hid (show Fr no w W by rw [hW]; exact (((Fr.refl no w).alloc _).alloc _).alloc _)
  have c0 : W.cell? ⟨w.heap.size, 0, none⟩ = some (.slice a0 l0 k0) := by rw [hW]; go_simp
  have c1 : W.cell? ⟨w.heap.size, 1, none⟩ = some (.slice a1 l1 k1) := by rw [hW]; go_simp
  have c2 : W.cell? ⟨w.heap.size, 2, none⟩ = some (.slice a2 l2 k2) := by rw [hW]; go_simp
  have c3 : W.cell? ⟨w.heap.size, 3, none⟩ = some (.int .i64 4) := by rw [hW]; go_simp
  have c4 : W.cell? ⟨w.heap.size, 4, none⟩ = some (.int .i64 o) := by rw [hW]; go_simp
  have c5 : W.cell? ⟨w.heap.size, 5, none⟩ = some (.int .i64 t) := by rw [hW]; go_simp
  have c6 : W.cell? ⟨w.heap.size + 1, 0, none⟩ = some (.int .i64 ax) := by rw [hW]; go_simp
  have c7 : W.cell? ⟨w.heap.size + 1, 1, none⟩ = some (.int .i64 ay) := by rw [hW]; go_simp
  have c8 : W.cell? ⟨w.heap.size + 1 + 1, 0, none⟩ = some (.int .i64 bx) := by rw [hW]; go_simp
  have c9 : W.cell? ⟨w.heap.size + 1 + 1, 1, none⟩ = some (.int .i64 by_) := by rw [hW]; go_simp
  have HW := Lib.hid hW
  clear hW
  refine (callsIn_wide (n := 3)).1 ?_
  refine callsIn_of_wp_marks Try.func80 rfl trivial ?_ rfl
  simp only [Try.ntmps80, List.size_toArray, List.length_cons, List.length_nil, Nat.reduceAdd, Nat.reduceSub, Array.replicate_succ, Array.replicate_zero, List.push_toArray, List.append_toArray, List.nil_append, List.cons_append]
  gi_wp2_with fail
  rw [← HW.out]
  refine ⟨trivial, ?_⟩
  refine (callsIn_wide.2 (K13.out _)).mono ?_
  rintro e y1 ⟨rfl, f1⟩
  obtain ⟨d0, d1, d2, d3, d4, d5, d6, d7, d8, d9⟩ := KS.out _ _ f1 c0 c1 c2 c3 c4 c5 c6 c7 c8 c9
  have HF1 := Lib.hid (HF.out.noTrans f1)
  clear f1 c0 c1 c2 c3 c4 c5 c6 c7 c8 c9
  have hsz := HF1.out.size
  have u0 := ((Fr.refl no y1).alloc (.cells #[.int .i64 (p)] 3 (0, 0))).keepc d0
  have u1 := ((Fr.refl no y1).alloc (.cells #[.int .i64 (p)] 3 (0, 0))).keepc d1
  have u2 := ((Fr.refl no y1).alloc (.cells #[.int .i64 (p)] 3 (0, 0))).keepc d2
  have u3 := ((Fr.refl no y1).alloc (.cells #[.int .i64 (p)] 3 (0, 0))).keepc d3
  have u4 := ((Fr.refl no y1).alloc (.cells #[.int .i64 (p)] 3 (0, 0))).keepc d4
  have u5 := ((Fr.refl no y1).alloc (.cells #[.int .i64 (p)] 3 (0, 0))).keepc d5
  have u6 := ((Fr.refl no y1).alloc (.cells #[.int .i64 (p)] 3 (0, 0))).keepc d6
  have u7 := ((Fr.refl no y1).alloc (.cells #[.int .i64 (p)] 3 (0, 0))).keepc d7
  have u8 := ((Fr.refl no y1).alloc (.cells #[.int .i64 (p)] 3 (0, 0))).keepc d8
  have u9 := ((Fr.refl no y1).alloc (.cells #[.int .i64 (p)] 3 (0, 0))).keepc d9
  have v0_ := ((Fr.refl no y1).alloc (.cells #[.int .i64 (p)] 3 (0, 0))).keepc d0
  have v1_ := ((Fr.refl no y1).alloc (.cells #[.int .i64 (p)] 3 (0, 0))).keepc d1
  have v2_ := ((Fr.refl no y1).alloc (.cells #[.int .i64 (p)] 3 (0, 0))).keepc d2
  have v3_ := ((Fr.refl no y1).alloc (.cells #[.int .i64 (p)] 3 (0, 0))).keepc d3
  have v4_ := ((Fr.refl no y1).alloc (.cells #[.int .i64 (p)] 3 (0, 0))).keepc d4
  have v5_ := ((Fr.refl no y1).alloc (.cells #[.int .i64 (p)] 3 (0, 0))).keepc d5
  have v6_ := ((Fr.refl no y1).alloc (.cells #[.int .i64 (p)] 3 (0, 0))).keepc d6
  have v7_ := ((Fr.refl no y1).alloc (.cells #[.int .i64 (p)] 3 (0, 0))).keepc d7
  have v8_ := ((Fr.refl no y1).alloc (.cells #[.int .i64 (p)] 3 (0, 0))).keepc d8
  have v9_ := ((Fr.refl no y1).alloc (.cells #[.int .i64 (p)] 3 (0, 0))).keepc d9
  gi_wp2_with fail
  refine ⟨trivial, ?_⟩
  refine (callsIn_wide.2 (crossed_any a2 l2 k2 ax ay bx by_ _)).mono ?_
  rintro e' w' ⟨rfl, rfl⟩
  gi_wp2_with fail
  obtain ⟨WL, hWL⟩ : ∃ WL, WL = (((y1.alloc (.cells #[.int .i64 (p)] 3 (0, 0))).alloc (.cells #[.slice a2 l2 k2] 24 (0, 0))).alloc (.cells #[.int .i64 ax, .int .i64 ay] 42 (0, 0))).alloc (.cells #[.int .i64 bx, .int .i64 by_] 42 (0, 0)) := ⟨_, rfl⟩
  have hWS : WL.heap.size = y1.heap.size + 4 := by rw [hWL]; simp
  have bR : Boxed WL y1.heap.size 3 (.int .i64 (p)) := by rw [hWL]; exact (((Boxed.new y1 3 _).alloc _).alloc _).alloc _
  have s0 : WL.cell? ⟨y1.heap.size + 1, 0, none⟩ = some (.slice a2 l2 k2) := by rw [hWL]; go_simp
  have s1 : WL.cell? ⟨y1.heap.size + 1 + 1, 0, none⟩ = some (.int .i64 ax) := by rw [hWL]; go_simp
  have s2 : WL.cell? ⟨y1.heap.size + 1 + 1, 1, none⟩ = some (.int .i64 ay) := by rw [hWL]; go_simp
  have s3 : WL.cell? ⟨y1.heap.size + 1 + 1 + 1, 0, none⟩ = some (.int .i64 bx) := by rw [hWL]; go_simp
  have s4 : WL.cell? ⟨y1.heap.size + 1 + 1 + 1, 1, none⟩ = some (.int .i64 by_) := by rw [hWL]; go_simp
  have hFL : Fr no w WL := by rw [hWL]; exact (((HF1.out.alloc _).alloc _).alloc _).alloc _
  rw [← hWL]
  have HFL := Lib.hid hFL
  have HWS := Lib.hid hWS
  clear hWL hFL hWS
  have HLW : ∀ b off, a2 = some ⟨b, off, none⟩ → 0 < l2 → ¬ out y1.heap.size WL.heap.size b := fun b off ha hl0 => by
    obtain ⟨b', off', h1, h2, _⟩ := HWL.out.2 0 hl0
    rw [ha] at h1
    cases h1
    have := World.block_lt_of_cell? w _ h2
    have h3 := HWS.out
    simp only [out]
    simp only at this
    omega
  refine wpIn_rangeFunc_ownH rfl (by omega) (gf := 153) (lb := #[.pointer (some ⟨y1.heap.size + 1, 0, none⟩), .pointer (some ⟨y1.heap.size + 1 + 1, 0, none⟩), .pointer (some ⟨y1.heap.size + 1 + 1 + 1, 0, none⟩)]) rfl trivial (enters_of Try.func153 (by kernel_rfl) rfl)
    (crossed_stops 2 (by omega) (y1.heap.size + 1) (y1.heap.size + 1 + 1) (y1.heap.size + 1 + 1 + 1) y1.heap.size WL.heap.size a2 l2 k2 ws ax ay bx by_ HH.out.1 HH.out.2.1 HH.out.2.2.1 HH.out.2.2.2 HOK.out HL.out
      (by have := HWS.out; simp only [out]; omega) (by have := HWS.out; simp only [out]; omega) (by have := HWS.out; simp only [out]; omega) HLW WL (Nat.le_refl _) s0 s1 s2 s3 s4 (HWL.out.kept HFL.out))
    (fun h k => h.trans k (fun _ _ h => h)) (fun W l o o' hl h _ _ => (Fr.refl _ W).putObj (.inl (.inr hl)) o') (Below.refl _ _) (fun _ => rfl)
    (fun pre W => Boxed W y1.heap.size 3 (.int .i64 (foldW (p) pre)) ∧ Fr (only y1.heap.size) WL W)
    (fun _ _ _ => False)
    (OwnFrom.and (Own.from (boxed_own _ _ _) _) (ownFrom_fr (Nat.le_refl _)))
    (fun _ _ _ _ _ hs _ _ => hs)
    ⟨bR, Fr.refl _ _⟩
    (fun x a' W => ∃ Bx, WL.heap.size ≤ Bx ∧ W.heap[Bx]? = some (.cells #[.int .i64 x.ax, .int .i64 x.ay, .int .i64 x.bx, .int .i64 x.by_, .int .i64 x.f] 101 (0, 0)) ∧ a' = { tmps := #[.agg #[.slice a0 l0 k0, .slice a1 l1 k1, .slice a2 l2 k2, .int .i64 4, .int .i64 o, .int .i64 t], .agg #[.int .i64 ax, .int .i64 ay], .int .i64 p, .agg #[.int .i64 bx, .int .i64 by_], .pointer (some ⟨w.heap.size, 0, none⟩), .pointer (some ⟨w.heap.size + 1, 0, none⟩), undef, .pointer (some ⟨w.heap.size + 1 + 1, 0, none⟩), .int .i64 0, .int .i64 100, .pointer (some ⟨y1.heap.size, 0, none⟩), .pointer (some ⟨Bx, 0, none⟩), .agg #[.int .i64 ax, .int .i64 ay], .agg #[.int .i64 bx, .int .i64 by_], .int .i64 q, .int .i64 100, .int .i64 p, .int .i64 (p * 100), .int .i64 100, .int .i64 (p), .pointer (some ⟨w.heap.size, 3, none⟩), .int .i64 4, .bool true, .int .i64 (p), .int .i64 (p * 100), .int .i64 100, .int .i64 (p), .pointer (some ⟨w.heap.size, 2, none⟩), .slice a2 l2 k2, .agg #[.int .i64 ax, .int .i64 ay], .agg #[.int .i64 bx, .int .i64 by_], .func (.func 153) #[] #[.pointer (some ⟨y1.heap.size + 1, 0, none⟩), .pointer (some ⟨y1.heap.size + 1 + 1, 0, none⟩), .pointer (some ⟨y1.heap.size + 1 + 1 + 1, 0, none⟩)], .agg #[.int .i64 x.ax, .int .i64 x.ay, .int .i64 x.bx, .int .i64 x.by_, .int .i64 x.f], undef, undef, undef, undef, undef, undef, undef, undef], defers := [] })
    (fun x a' _ X Y row hs hg hr => by obtain ⟨Bx, h1, h2, h3⟩ := hs; exact ⟨Bx, h1, ownFrom_blk (β := Unit) () X Y row h2 hg hr, h3⟩)
    ?assign ?body ?done ?stop
  case assign =>
    rintro l pre x W K ⟨bR1, hf1⟩ hK
    have HK := Lib.hid hK
    have HB1 := Lib.hid bR1
    have HF1_ := Lib.hid hf1
    clear hK bR1 hf1
    simp only [enc]
    gi_wp2
    exact HK.out _ _ ((KeepsOthers.alloc _ _).from _) ((Fr.refl _ W).alloc _) ⟨HB1.out.alloc _, HF1_.out.alloc _⟩ ⟨W.heap.size, HF1_.out.size, heap_alloc_new W _, rfl⟩
  case body =>
    rintro l pre x a' W hl ⟨r, hr⟩ ⟨bR1, hf1⟩ ⟨Bx, hBx, bX, rfl⟩ hlt
    obtain ⟨x0, x1, x2, x3, x4⟩ := five_cells bX
    have cR := bR1.cell
    have fR := bR1.frozen
    have HB1 := Lib.hid bR1
    have HF1_ := Lib.hid hf1
    have HS := Lib.hid (foldW_snoc (p) pre x)
    clear bR1 hf1 hr hlt bX
    gi_wp2_with fail
    refine ⟨trivial, ?_⟩
    refine (CallsIn.inRound l (callsIn_wide.2 (scale_any _ _ _))).mono ?_
    rintro e' w' ⟨rfl, rfl⟩
    gi_wp2
    exact ⟨(KeepsOthers.setCell _ _ _).from _, (Fr.refl _ _).setCell (.inl (.inl rfl)) _, by rw [HS.out]; exact HB1.out.set _, HF1_.out.setCell (p := ⟨y1.heap.size, 0, none⟩) (.inl rfl) _⟩
  case done =>
    rintro D' xs W hD rfl ⟨bR1, hf1⟩ hK
    have cR := bR1.cell
    have HF1_ := Lib.hid hf1
    have HKD := Lib.hid hK
    have HRS := Lib.hid (show w.heap.size ≤ y1.heap.size from hsz)
    clear bR1 hf1 hK
    gi_wp2
    refine ⟨by simp, .inl ⟨_, _, rfl, run_takeDeferred HKD.out, ?_⟩⟩
    exact ⟨_, results_tmp rfl _ _ _, by rw [HB.out]; rfl, HFL.out.trans (HF1_.out.putObj (.inr hD) _) (fun i hi h => by have := HRS.out; simp only [only] at h; omega)⟩
  case stop =>
    rintro D' c pre W _ _ h _
    exact h.elim
set_option maxRecDepth 100000 in
set_option maxHeartbeats 16000000 in
theorem arr_2b (a0 : Option Addr) (l0 k0 : Nat) (a1 : Option Addr) (l1 k1 : Nat) (a2 : Option Addr) (l2 k2 : Nat) (o t : Int) (ax ay bx by_ p q : Int) (ws : List Wl) (w : World) (hw : WlsIn w a2 l2 ws) (hok : ws.all wlOk = true) (hl : l2 ≤ 40) (h1 : nr ax) (h2 : nr ay) (h3 : nr bx) (h4 : nr by_) (p0 : 0 ≤ p) (p1 : p ≤ 68719476736)
    (hq : sqF ax ay bx by_ = q) (q1 : q ≤ 3200000000) (q2 : 100 ≤ q) :
    Calls Try.prog 80 #[.agg #[.slice a0 l0 k0, .slice a1 l1 k1, .slice a2 l2 k2, .int .i64 2, .int .i64 o, .int .i64 t], .agg #[.int .i64 ax, .int .i64 ay], .int .i64 p, .agg #[.int .i64 bx, .int .i64 by_]] w fun e' w' => e' = .returned (.int .i64 (foldW (arB 2 q p) (ws.filter (crW ax ay bx by_)))) ∧ Fr no w w' := by
  have K13 := fun w => square_any ax ay bx by_ w h1 h2 h3 h4
  rw [hq] at K13
  have K13 := Lib.hid K13
  clear hq
  obtain ⟨v0, v1⟩ := div_bound p q p0 (by omega)
  have hm : p * 100 ≤ 6871947673600 := by omega
  have hm0 : 0 ≤ p * 100 := by omega
  have t1 : Int.tdiv (p * 100) q = p * 100 / q := Int.tdiv_eq_ediv_of_nonneg hm0
  have z1 : (q == 0) = false := by rw [beq_eq_false_iff_ne]; omega
  have HB := Lib.hid (show arB 2 q p = p * 100 / q by simp only [arB, show arM q = q by unfold arM; split <;> omega]; rfl)
  have HH := Lib.hid (And.intro h1 (And.intro h2 (And.intro h3 h4)))
  have HWL := Lib.hid hw
  have HOK := Lib.hid hok
  have HL := Lib.hid hl
  clear h1 h2 h3 h4 hw hok hl
  have KS := Lib.hid (show ∀ w0 w' : World, Fr no w0 w' → w0.cell? ⟨w.heap.size, 0, none⟩ = some (.slice a0 l0 k0) → w0.cell? ⟨w.heap.size, 1, none⟩ = some (.slice a1 l1 k1) → w0.cell? ⟨w.heap.size, 2, none⟩ = some (.slice a2 l2 k2) → w0.cell? ⟨w.heap.size, 3, none⟩ = some (.int .i64 2) → w0.cell? ⟨w.heap.size, 4, none⟩ = some (.int .i64 o) → w0.cell? ⟨w.heap.size, 5, none⟩ = some (.int .i64 t) → w0.cell? ⟨w.heap.size + 1, 0, none⟩ = some (.int .i64 ax) → w0.cell? ⟨w.heap.size + 1, 1, none⟩ = some (.int .i64 ay) → w0.cell? ⟨w.heap.size + 1 + 1, 0, none⟩ = some (.int .i64 bx) → w0.cell? ⟨w.heap.size + 1 + 1, 1, none⟩ = some (.int .i64 by_) → (w'.cell? ⟨w.heap.size, 0, none⟩ = some (.slice a0 l0 k0) ∧ w'.cell? ⟨w.heap.size, 1, none⟩ = some (.slice a1 l1 k1) ∧ w'.cell? ⟨w.heap.size, 2, none⟩ = some (.slice a2 l2 k2) ∧ w'.cell? ⟨w.heap.size, 3, none⟩ = some (.int .i64 2) ∧ w'.cell? ⟨w.heap.size, 4, none⟩ = some (.int .i64 o) ∧ w'.cell? ⟨w.heap.size, 5, none⟩ = some (.int .i64 t) ∧ w'.cell? ⟨w.heap.size + 1, 0, none⟩ = some (.int .i64 ax) ∧ w'.cell? ⟨w.heap.size + 1, 1, none⟩ = some (.int .i64 ay) ∧ w'.cell? ⟨w.heap.size + 1 + 1, 0, none⟩ = some (.int .i64 bx) ∧ w'.cell? ⟨w.heap.size + 1 + 1, 1, none⟩ = some (.int .i64 by_)) from fun _ _ h a0 a1 a2 a3 a4 a5 a6 a7 a8 a9 => ⟨h.keepc a0, h.keepc a1, h.keepc a2, h.keepc a3, h.keepc a4, h.keepc a5, h.keepc a6, h.keepc a7, h.keepc a8, h.keepc a9⟩)
  obtain ⟨W, hW⟩ : ∃ W, W = (((w.alloc (.cells #[.slice a0 l0 k0, .slice a1 l1 k1, .slice a2 l2 k2, .int .i64 2, .int .i64 o, .int .i64 t] 26 (0, 0))).alloc (.cells #[.int .i64 ax, .int .i64 ay] 42 (0, 0))).alloc (.cells #[.int .i64 bx, .int .i64 by_] 42 (0, 0))) := ⟨_, rfl⟩
  have HF := Lib.hid (show Fr no w W by rw [hW]; exact (((Fr.refl no w).alloc _).alloc _).alloc _)
  have c0 : W.cell? ⟨w.heap.size, 0, none⟩ = some (.slice a0 l0 k0) := by rw [hW]; go_simp
  have c1 : W.cell? ⟨w.heap.size, 1, none⟩ = some (.slice a1 l1 k1) := by rw [hW]; go_simp
  have c2 : W.cell? ⟨w.heap.size, 2, none⟩ = some (.slice a2 l2 k2) := by rw [hW]; go_simp
  have c3 : W.cell? ⟨w.heap.size, 3, none⟩ = some (.int .i64 2) := by rw [hW]; go_simp
  have c4 : W.cell? ⟨w.heap.size, 4, none⟩ = some (.int .i64 o) := by rw [hW]; go_simp
  have c5 : W.cell? ⟨w.heap.size, 5, none⟩ = some (.int .i64 t) := by rw [hW]; go_simp
  have c6 : W.cell? ⟨w.heap.size + 1, 0, none⟩ = some (.int .i64 ax) := by rw [hW]; go_simp
  have c7 : W.cell? ⟨w.heap.size + 1, 1, none⟩ = some (.int .i64 ay) := by rw [hW]; go_simp
  have c8 : W.cell? ⟨w.heap.size + 1 + 1, 0, none⟩ = some (.int .i64 bx) := by rw [hW]; go_simp
  have c9 : W.cell? ⟨w.heap.size + 1 + 1, 1, none⟩ = some (.int .i64 by_) := by rw [hW]; go_simp
  have HW := Lib.hid hW
  clear hW
  refine (callsIn_wide (n := 3)).1 ?_
  refine callsIn_of_wp_marks Try.func80 rfl trivial ?_ rfl
  simp only [Try.ntmps80, List.size_toArray, List.length_cons, List.length_nil, Nat.reduceAdd, Nat.reduceSub, Array.replicate_succ, Array.replicate_zero, List.push_toArray, List.append_toArray, List.nil_append, List.cons_append]
  gi_wp2_with fail
  rw [← HW.out]
  refine ⟨trivial, ?_⟩
  refine (callsIn_wide.2 (K13.out _)).mono ?_
  rintro e y1 ⟨rfl, f1⟩
  obtain ⟨d0, d1, d2, d3, d4, d5, d6, d7, d8, d9⟩ := KS.out _ _ f1 c0 c1 c2 c3 c4 c5 c6 c7 c8 c9
  have HF1 := Lib.hid (HF.out.noTrans f1)
  clear f1 c0 c1 c2 c3 c4 c5 c6 c7 c8 c9
  have hsz := HF1.out.size
  have u0 := ((Fr.refl no y1).alloc (.cells #[.int .i64 (p * 100 / q)] 3 (0, 0))).keepc d0
  have u1 := ((Fr.refl no y1).alloc (.cells #[.int .i64 (p * 100 / q)] 3 (0, 0))).keepc d1
  have u2 := ((Fr.refl no y1).alloc (.cells #[.int .i64 (p * 100 / q)] 3 (0, 0))).keepc d2
  have u3 := ((Fr.refl no y1).alloc (.cells #[.int .i64 (p * 100 / q)] 3 (0, 0))).keepc d3
  have u4 := ((Fr.refl no y1).alloc (.cells #[.int .i64 (p * 100 / q)] 3 (0, 0))).keepc d4
  have u5 := ((Fr.refl no y1).alloc (.cells #[.int .i64 (p * 100 / q)] 3 (0, 0))).keepc d5
  have u6 := ((Fr.refl no y1).alloc (.cells #[.int .i64 (p * 100 / q)] 3 (0, 0))).keepc d6
  have u7 := ((Fr.refl no y1).alloc (.cells #[.int .i64 (p * 100 / q)] 3 (0, 0))).keepc d7
  have u8 := ((Fr.refl no y1).alloc (.cells #[.int .i64 (p * 100 / q)] 3 (0, 0))).keepc d8
  have u9 := ((Fr.refl no y1).alloc (.cells #[.int .i64 (p * 100 / q)] 3 (0, 0))).keepc d9
  gi_wp2_with fail
  refine ⟨trivial, ?_⟩
  refine (callsIn_wide.2 (crossed_any a2 l2 k2 ax ay bx by_ _)).mono ?_
  rintro e' w' ⟨rfl, rfl⟩
  gi_wp2_with fail
  obtain ⟨WL, hWL⟩ : ∃ WL, WL = (((y1.alloc (.cells #[.int .i64 (p * 100 / q)] 3 (0, 0))).alloc (.cells #[.slice a2 l2 k2] 24 (0, 0))).alloc (.cells #[.int .i64 ax, .int .i64 ay] 42 (0, 0))).alloc (.cells #[.int .i64 bx, .int .i64 by_] 42 (0, 0)) := ⟨_, rfl⟩
  have hWS : WL.heap.size = y1.heap.size + 4 := by rw [hWL]; simp
  have bR : Boxed WL y1.heap.size 3 (.int .i64 (p * 100 / q)) := by rw [hWL]; exact (((Boxed.new y1 3 _).alloc _).alloc _).alloc _
  have s0 : WL.cell? ⟨y1.heap.size + 1, 0, none⟩ = some (.slice a2 l2 k2) := by rw [hWL]; go_simp
  have s1 : WL.cell? ⟨y1.heap.size + 1 + 1, 0, none⟩ = some (.int .i64 ax) := by rw [hWL]; go_simp
  have s2 : WL.cell? ⟨y1.heap.size + 1 + 1, 1, none⟩ = some (.int .i64 ay) := by rw [hWL]; go_simp
  have s3 : WL.cell? ⟨y1.heap.size + 1 + 1 + 1, 0, none⟩ = some (.int .i64 bx) := by rw [hWL]; go_simp
  have s4 : WL.cell? ⟨y1.heap.size + 1 + 1 + 1, 1, none⟩ = some (.int .i64 by_) := by rw [hWL]; go_simp
  have hFL : Fr no w WL := by rw [hWL]; exact (((HF1.out.alloc _).alloc _).alloc _).alloc _
  rw [← hWL]
  have HFL := Lib.hid hFL
  have HWS := Lib.hid hWS
  clear hWL hFL hWS
  have HLW : ∀ b off, a2 = some ⟨b, off, none⟩ → 0 < l2 → ¬ out y1.heap.size WL.heap.size b := fun b off ha hl0 => by
    obtain ⟨b', off', h1, h2, _⟩ := HWL.out.2 0 hl0
    rw [ha] at h1
    cases h1
    have := World.block_lt_of_cell? w _ h2
    have h3 := HWS.out
    simp only [out]
    simp only at this
    omega
  refine wpIn_rangeFunc_ownH rfl (by omega) (gf := 153) (lb := #[.pointer (some ⟨y1.heap.size + 1, 0, none⟩), .pointer (some ⟨y1.heap.size + 1 + 1, 0, none⟩), .pointer (some ⟨y1.heap.size + 1 + 1 + 1, 0, none⟩)]) rfl trivial (enters_of Try.func153 (by kernel_rfl) rfl)
    (crossed_stops 2 (by omega) (y1.heap.size + 1) (y1.heap.size + 1 + 1) (y1.heap.size + 1 + 1 + 1) y1.heap.size WL.heap.size a2 l2 k2 ws ax ay bx by_ HH.out.1 HH.out.2.1 HH.out.2.2.1 HH.out.2.2.2 HOK.out HL.out
      (by have := HWS.out; simp only [out]; omega) (by have := HWS.out; simp only [out]; omega) (by have := HWS.out; simp only [out]; omega) HLW WL (Nat.le_refl _) s0 s1 s2 s3 s4 (HWL.out.kept HFL.out))
    (fun h k => h.trans k (fun _ _ h => h)) (fun W l o o' hl h _ _ => (Fr.refl _ W).putObj (.inl (.inr hl)) o') (Below.refl _ _) (fun _ => rfl)
    (fun pre W => Boxed W y1.heap.size 3 (.int .i64 (foldW (p * 100 / q) pre)) ∧ Fr (only y1.heap.size) WL W)
    (fun _ _ _ => False)
    (OwnFrom.and (Own.from (boxed_own _ _ _) _) (ownFrom_fr (Nat.le_refl _)))
    (fun _ _ _ _ _ hs _ _ => hs)
    ⟨bR, Fr.refl _ _⟩
    (fun x a' W => ∃ Bx, WL.heap.size ≤ Bx ∧ W.heap[Bx]? = some (.cells #[.int .i64 x.ax, .int .i64 x.ay, .int .i64 x.bx, .int .i64 x.by_, .int .i64 x.f] 101 (0, 0)) ∧ a' = { tmps := #[.agg #[.slice a0 l0 k0, .slice a1 l1 k1, .slice a2 l2 k2, .int .i64 2, .int .i64 o, .int .i64 t], .agg #[.int .i64 ax, .int .i64 ay], .int .i64 p, .agg #[.int .i64 bx, .int .i64 by_], .pointer (some ⟨w.heap.size, 0, none⟩), .pointer (some ⟨w.heap.size + 1, 0, none⟩), undef, .pointer (some ⟨w.heap.size + 1 + 1, 0, none⟩), .int .i64 0, .int .i64 q, .pointer (some ⟨y1.heap.size, 0, none⟩), .pointer (some ⟨Bx, 0, none⟩), .agg #[.int .i64 ax, .int .i64 ay], .agg #[.int .i64 bx, .int .i64 by_], .int .i64 q, .int .i64 q, .int .i64 p, .int .i64 (p * 100), .int .i64 q, .int .i64 (p * 100 / q), .pointer (some ⟨w.heap.size, 3, none⟩), .int .i64 2, .bool false, undef, undef, undef, undef, .pointer (some ⟨w.heap.size, 2, none⟩), .slice a2 l2 k2, .agg #[.int .i64 ax, .int .i64 ay], .agg #[.int .i64 bx, .int .i64 by_], .func (.func 153) #[] #[.pointer (some ⟨y1.heap.size + 1, 0, none⟩), .pointer (some ⟨y1.heap.size + 1 + 1, 0, none⟩), .pointer (some ⟨y1.heap.size + 1 + 1 + 1, 0, none⟩)], .agg #[.int .i64 x.ax, .int .i64 x.ay, .int .i64 x.bx, .int .i64 x.by_, .int .i64 x.f], undef, undef, undef, undef, undef, undef, undef, undef], defers := [] })
    (fun x a' _ X Y row hs hg hr => by obtain ⟨Bx, h1, h2, h3⟩ := hs; exact ⟨Bx, h1, ownFrom_blk (β := Unit) () X Y row h2 hg hr, h3⟩)
    ?assign ?body ?done ?stop
  case assign =>
    rintro l pre x W K ⟨bR1, hf1⟩ hK
    have HK := Lib.hid hK
    have HB1 := Lib.hid bR1
    have HF1_ := Lib.hid hf1
    clear hK bR1 hf1
    simp only [enc]
    gi_wp2
    exact HK.out _ _ ((KeepsOthers.alloc _ _).from _) ((Fr.refl _ W).alloc _) ⟨HB1.out.alloc _, HF1_.out.alloc _⟩ ⟨W.heap.size, HF1_.out.size, heap_alloc_new W _, rfl⟩
  case body =>
    rintro l pre x a' W hl ⟨r, hr⟩ ⟨bR1, hf1⟩ ⟨Bx, hBx, bX, rfl⟩ hlt
    obtain ⟨x0, x1, x2, x3, x4⟩ := five_cells bX
    have cR := bR1.cell
    have fR := bR1.frozen
    have HB1 := Lib.hid bR1
    have HF1_ := Lib.hid hf1
    have HS := Lib.hid (foldW_snoc (p * 100 / q) pre x)
    clear bR1 hf1 hr hlt bX
    gi_wp2_with fail
    refine ⟨trivial, ?_⟩
    refine (CallsIn.inRound l (callsIn_wide.2 (scale_any _ _ _))).mono ?_
    rintro e' w' ⟨rfl, rfl⟩
    gi_wp2
    exact ⟨(KeepsOthers.setCell _ _ _).from _, (Fr.refl _ _).setCell (.inl (.inl rfl)) _, by rw [HS.out]; exact HB1.out.set _, HF1_.out.setCell (p := ⟨y1.heap.size, 0, none⟩) (.inl rfl) _⟩
  case done =>
    rintro D' xs W hD rfl ⟨bR1, hf1⟩ hK
    have cR := bR1.cell
    have HF1_ := Lib.hid hf1
    have HKD := Lib.hid hK
    have HRS := Lib.hid (show w.heap.size ≤ y1.heap.size from hsz)
    clear bR1 hf1 hK
    gi_wp2
    refine ⟨by simp, .inl ⟨_, _, rfl, run_takeDeferred HKD.out, ?_⟩⟩
    exact ⟨_, results_tmp rfl _ _ _, by rw [HB.out]; rfl, HFL.out.trans (HF1_.out.putObj (.inr hD) _) (fun i hi h => by have := HRS.out; simp only [only] at h; omega)⟩
  case stop =>
    rintro D' c pre W _ _ h _
    exact h.elim
set_option maxRecDepth 100000 in
set_option maxHeartbeats 16000000 in
theorem arr_2s (a0 : Option Addr) (l0 k0 : Nat) (a1 : Option Addr) (l1 k1 : Nat) (a2 : Option Addr) (l2 k2 : Nat) (o t : Int) (ax ay bx by_ p q : Int) (ws : List Wl) (w : World) (hw : WlsIn w a2 l2 ws) (hok : ws.all wlOk = true) (hl : l2 ≤ 40) (h1 : nr ax) (h2 : nr ay) (h3 : nr bx) (h4 : nr by_) (p0 : 0 ≤ p) (p1 : p ≤ 68719476736)
    (hq : sqF ax ay bx by_ = q) (q1 : q ≤ 3200000000) (q2 : q < 100) :
    Calls Try.prog 80 #[.agg #[.slice a0 l0 k0, .slice a1 l1 k1, .slice a2 l2 k2, .int .i64 2, .int .i64 o, .int .i64 t], .agg #[.int .i64 ax, .int .i64 ay], .int .i64 p, .agg #[.int .i64 bx, .int .i64 by_]] w fun e' w' => e' = .returned (.int .i64 (foldW (arB 2 q p) (ws.filter (crW ax ay bx by_)))) ∧ Fr no w w' := by
  have K13 := fun w => square_any ax ay bx by_ w h1 h2 h3 h4
  rw [hq] at K13
  have K13 := Lib.hid K13
  clear hq
  obtain ⟨v0, v1⟩ := div_bound p 100 p0 (by omega)
  have hm : p * 100 ≤ 6871947673600 := by omega
  have hm0 : 0 ≤ p * 100 := by omega
  have t1 : Int.tdiv (p * 100) 100 = p * 100 / 100 := Int.tdiv_eq_ediv_of_nonneg hm0
  have z1 : q ≤ 100 := by omega
  have HB := Lib.hid (show arB 2 q p = p by simp only [arB, show arM q = 100 by unfold arM; split <;> omega]; omega)
  have HH := Lib.hid (And.intro h1 (And.intro h2 (And.intro h3 h4)))
  have HWL := Lib.hid hw
  have HOK := Lib.hid hok
  have HL := Lib.hid hl
  clear h1 h2 h3 h4 hw hok hl
  have KS := Lib.hid (show ∀ w0 w' : World, Fr no w0 w' → w0.cell? ⟨w.heap.size, 0, none⟩ = some (.slice a0 l0 k0) → w0.cell? ⟨w.heap.size, 1, none⟩ = some (.slice a1 l1 k1) → w0.cell? ⟨w.heap.size, 2, none⟩ = some (.slice a2 l2 k2) → w0.cell? ⟨w.heap.size, 3, none⟩ = some (.int .i64 2) → w0.cell? ⟨w.heap.size, 4, none⟩ = some (.int .i64 o) → w0.cell? ⟨w.heap.size, 5, none⟩ = some (.int .i64 t) → w0.cell? ⟨w.heap.size + 1, 0, none⟩ = some (.int .i64 ax) → w0.cell? ⟨w.heap.size + 1, 1, none⟩ = some (.int .i64 ay) → w0.cell? ⟨w.heap.size + 1 + 1, 0, none⟩ = some (.int .i64 bx) → w0.cell? ⟨w.heap.size + 1 + 1, 1, none⟩ = some (.int .i64 by_) → (w'.cell? ⟨w.heap.size, 0, none⟩ = some (.slice a0 l0 k0) ∧ w'.cell? ⟨w.heap.size, 1, none⟩ = some (.slice a1 l1 k1) ∧ w'.cell? ⟨w.heap.size, 2, none⟩ = some (.slice a2 l2 k2) ∧ w'.cell? ⟨w.heap.size, 3, none⟩ = some (.int .i64 2) ∧ w'.cell? ⟨w.heap.size, 4, none⟩ = some (.int .i64 o) ∧ w'.cell? ⟨w.heap.size, 5, none⟩ = some (.int .i64 t) ∧ w'.cell? ⟨w.heap.size + 1, 0, none⟩ = some (.int .i64 ax) ∧ w'.cell? ⟨w.heap.size + 1, 1, none⟩ = some (.int .i64 ay) ∧ w'.cell? ⟨w.heap.size + 1 + 1, 0, none⟩ = some (.int .i64 bx) ∧ w'.cell? ⟨w.heap.size + 1 + 1, 1, none⟩ = some (.int .i64 by_)) from fun _ _ h a0 a1 a2 a3 a4 a5 a6 a7 a8 a9 => ⟨h.keepc a0, h.keepc a1, h.keepc a2, h.keepc a3, h.keepc a4, h.keepc a5, h.keepc a6, h.keepc a7, h.keepc a8, h.keepc a9⟩)
  obtain ⟨W, hW⟩ : ∃ W, W = (((w.alloc (.cells #[.slice a0 l0 k0, .slice a1 l1 k1, .slice a2 l2 k2, .int .i64 2, .int .i64 o, .int .i64 t] 26 (0, 0))).alloc (.cells #[.int .i64 ax, .int .i64 ay] 42 (0, 0))).alloc (.cells #[.int .i64 bx, .int .i64 by_] 42 (0, 0))) := ⟨_, rfl⟩
  have HF := Lib.hid (show Fr no w W by rw [hW]; exact (((Fr.refl no w).alloc _).alloc _).alloc _)
  have c0 : W.cell? ⟨w.heap.size, 0, none⟩ = some (.slice a0 l0 k0) := by rw [hW]; go_simp
  have c1 : W.cell? ⟨w.heap.size, 1, none⟩ = some (.slice a1 l1 k1) := by rw [hW]; go_simp
  have c2 : W.cell? ⟨w.heap.size, 2, none⟩ = some (.slice a2 l2 k2) := by rw [hW]; go_simp
  have c3 : W.cell? ⟨w.heap.size, 3, none⟩ = some (.int .i64 2) := by rw [hW]; go_simp
  have c4 : W.cell? ⟨w.heap.size, 4, none⟩ = some (.int .i64 o) := by rw [hW]; go_simp
  have c5 : W.cell? ⟨w.heap.size, 5, none⟩ = some (.int .i64 t) := by rw [hW]; go_simp
  have c6 : W.cell? ⟨w.heap.size + 1, 0, none⟩ = some (.int .i64 ax) := by rw [hW]; go_simp
  have c7 : W.cell? ⟨w.heap.size + 1, 1, none⟩ = some (.int .i64 ay) := by rw [hW]; go_simp
  have c8 : W.cell? ⟨w.heap.size + 1 + 1, 0, none⟩ = some (.int .i64 bx) := by rw [hW]; go_simp
  have c9 : W.cell? ⟨w.heap.size + 1 + 1, 1, none⟩ = some (.int .i64 by_) := by rw [hW]; go_simp
  have HW := Lib.hid hW
  clear hW
  refine (callsIn_wide (n := 3)).1 ?_
  refine callsIn_of_wp_marks Try.func80 rfl trivial ?_ rfl
  simp only [Try.ntmps80, List.size_toArray, List.length_cons, List.length_nil, Nat.reduceAdd, Nat.reduceSub, Array.replicate_succ, Array.replicate_zero, List.push_toArray, List.append_toArray, List.nil_append, List.cons_append]
  gi_wp2_with fail
  rw [← HW.out]
  refine ⟨trivial, ?_⟩
  refine (callsIn_wide.2 (K13.out _)).mono ?_
  rintro e y1 ⟨rfl, f1⟩
  obtain ⟨d0, d1, d2, d3, d4, d5, d6, d7, d8, d9⟩ := KS.out _ _ f1 c0 c1 c2 c3 c4 c5 c6 c7 c8 c9
  have HF1 := Lib.hid (HF.out.noTrans f1)
  clear f1 c0 c1 c2 c3 c4 c5 c6 c7 c8 c9
  have hsz := HF1.out.size
  have u0 := ((Fr.refl no y1).alloc (.cells #[.int .i64 (p)] 3 (0, 0))).keepc d0
  have u1 := ((Fr.refl no y1).alloc (.cells #[.int .i64 (p)] 3 (0, 0))).keepc d1
  have u2 := ((Fr.refl no y1).alloc (.cells #[.int .i64 (p)] 3 (0, 0))).keepc d2
  have u3 := ((Fr.refl no y1).alloc (.cells #[.int .i64 (p)] 3 (0, 0))).keepc d3
  have u4 := ((Fr.refl no y1).alloc (.cells #[.int .i64 (p)] 3 (0, 0))).keepc d4
  have u5 := ((Fr.refl no y1).alloc (.cells #[.int .i64 (p)] 3 (0, 0))).keepc d5
  have u6 := ((Fr.refl no y1).alloc (.cells #[.int .i64 (p)] 3 (0, 0))).keepc d6
  have u7 := ((Fr.refl no y1).alloc (.cells #[.int .i64 (p)] 3 (0, 0))).keepc d7
  have u8 := ((Fr.refl no y1).alloc (.cells #[.int .i64 (p)] 3 (0, 0))).keepc d8
  have u9 := ((Fr.refl no y1).alloc (.cells #[.int .i64 (p)] 3 (0, 0))).keepc d9
  gi_wp2_with fail
  refine ⟨trivial, ?_⟩
  refine (callsIn_wide.2 (crossed_any a2 l2 k2 ax ay bx by_ _)).mono ?_
  rintro e' w' ⟨rfl, rfl⟩
  gi_wp2_with fail
  obtain ⟨WL, hWL⟩ : ∃ WL, WL = (((y1.alloc (.cells #[.int .i64 (p)] 3 (0, 0))).alloc (.cells #[.slice a2 l2 k2] 24 (0, 0))).alloc (.cells #[.int .i64 ax, .int .i64 ay] 42 (0, 0))).alloc (.cells #[.int .i64 bx, .int .i64 by_] 42 (0, 0)) := ⟨_, rfl⟩
  have hWS : WL.heap.size = y1.heap.size + 4 := by rw [hWL]; simp
  have bR : Boxed WL y1.heap.size 3 (.int .i64 (p)) := by rw [hWL]; exact (((Boxed.new y1 3 _).alloc _).alloc _).alloc _
  have s0 : WL.cell? ⟨y1.heap.size + 1, 0, none⟩ = some (.slice a2 l2 k2) := by rw [hWL]; go_simp
  have s1 : WL.cell? ⟨y1.heap.size + 1 + 1, 0, none⟩ = some (.int .i64 ax) := by rw [hWL]; go_simp
  have s2 : WL.cell? ⟨y1.heap.size + 1 + 1, 1, none⟩ = some (.int .i64 ay) := by rw [hWL]; go_simp
  have s3 : WL.cell? ⟨y1.heap.size + 1 + 1 + 1, 0, none⟩ = some (.int .i64 bx) := by rw [hWL]; go_simp
  have s4 : WL.cell? ⟨y1.heap.size + 1 + 1 + 1, 1, none⟩ = some (.int .i64 by_) := by rw [hWL]; go_simp
  have hFL : Fr no w WL := by rw [hWL]; exact (((HF1.out.alloc _).alloc _).alloc _).alloc _
  rw [← hWL]
  have HFL := Lib.hid hFL
  have HWS := Lib.hid hWS
  clear hWL hFL hWS
  have HLW : ∀ b off, a2 = some ⟨b, off, none⟩ → 0 < l2 → ¬ out y1.heap.size WL.heap.size b := fun b off ha hl0 => by
    obtain ⟨b', off', h1, h2, _⟩ := HWL.out.2 0 hl0
    rw [ha] at h1
    cases h1
    have := World.block_lt_of_cell? w _ h2
    have h3 := HWS.out
    simp only [out]
    simp only at this
    omega
  refine wpIn_rangeFunc_ownH rfl (by omega) (gf := 153) (lb := #[.pointer (some ⟨y1.heap.size + 1, 0, none⟩), .pointer (some ⟨y1.heap.size + 1 + 1, 0, none⟩), .pointer (some ⟨y1.heap.size + 1 + 1 + 1, 0, none⟩)]) rfl trivial (enters_of Try.func153 (by kernel_rfl) rfl)
    (crossed_stops 2 (by omega) (y1.heap.size + 1) (y1.heap.size + 1 + 1) (y1.heap.size + 1 + 1 + 1) y1.heap.size WL.heap.size a2 l2 k2 ws ax ay bx by_ HH.out.1 HH.out.2.1 HH.out.2.2.1 HH.out.2.2.2 HOK.out HL.out
      (by have := HWS.out; simp only [out]; omega) (by have := HWS.out; simp only [out]; omega) (by have := HWS.out; simp only [out]; omega) HLW WL (Nat.le_refl _) s0 s1 s2 s3 s4 (HWL.out.kept HFL.out))
    (fun h k => h.trans k (fun _ _ h => h)) (fun W l o o' hl h _ _ => (Fr.refl _ W).putObj (.inl (.inr hl)) o') (Below.refl _ _) (fun _ => rfl)
    (fun pre W => Boxed W y1.heap.size 3 (.int .i64 (foldW (p) pre)) ∧ Fr (only y1.heap.size) WL W)
    (fun _ _ _ => False)
    (OwnFrom.and (Own.from (boxed_own _ _ _) _) (ownFrom_fr (Nat.le_refl _)))
    (fun _ _ _ _ _ hs _ _ => hs)
    ⟨bR, Fr.refl _ _⟩
    (fun x a' W => ∃ Bx, WL.heap.size ≤ Bx ∧ W.heap[Bx]? = some (.cells #[.int .i64 x.ax, .int .i64 x.ay, .int .i64 x.bx, .int .i64 x.by_, .int .i64 x.f] 101 (0, 0)) ∧ a' = { tmps := #[.agg #[.slice a0 l0 k0, .slice a1 l1 k1, .slice a2 l2 k2, .int .i64 2, .int .i64 o, .int .i64 t], .agg #[.int .i64 ax, .int .i64 ay], .int .i64 p, .agg #[.int .i64 bx, .int .i64 by_], .pointer (some ⟨w.heap.size, 0, none⟩), .pointer (some ⟨w.heap.size + 1, 0, none⟩), undef, .pointer (some ⟨w.heap.size + 1 + 1, 0, none⟩), .int .i64 0, .int .i64 100, .pointer (some ⟨y1.heap.size, 0, none⟩), .pointer (some ⟨Bx, 0, none⟩), .agg #[.int .i64 ax, .int .i64 ay], .agg #[.int .i64 bx, .int .i64 by_], .int .i64 q, .int .i64 100, .int .i64 p, .int .i64 (p * 100), .int .i64 100, .int .i64 (p), .pointer (some ⟨w.heap.size, 3, none⟩), .int .i64 2, .bool false, undef, undef, undef, undef, .pointer (some ⟨w.heap.size, 2, none⟩), .slice a2 l2 k2, .agg #[.int .i64 ax, .int .i64 ay], .agg #[.int .i64 bx, .int .i64 by_], .func (.func 153) #[] #[.pointer (some ⟨y1.heap.size + 1, 0, none⟩), .pointer (some ⟨y1.heap.size + 1 + 1, 0, none⟩), .pointer (some ⟨y1.heap.size + 1 + 1 + 1, 0, none⟩)], .agg #[.int .i64 x.ax, .int .i64 x.ay, .int .i64 x.bx, .int .i64 x.by_, .int .i64 x.f], undef, undef, undef, undef, undef, undef, undef, undef], defers := [] })
    (fun x a' _ X Y row hs hg hr => by obtain ⟨Bx, h1, h2, h3⟩ := hs; exact ⟨Bx, h1, ownFrom_blk (β := Unit) () X Y row h2 hg hr, h3⟩)
    ?assign ?body ?done ?stop
  case assign =>
    rintro l pre x W K ⟨bR1, hf1⟩ hK
    have HK := Lib.hid hK
    have HB1 := Lib.hid bR1
    have HF1_ := Lib.hid hf1
    clear hK bR1 hf1
    simp only [enc]
    gi_wp2
    exact HK.out _ _ ((KeepsOthers.alloc _ _).from _) ((Fr.refl _ W).alloc _) ⟨HB1.out.alloc _, HF1_.out.alloc _⟩ ⟨W.heap.size, HF1_.out.size, heap_alloc_new W _, rfl⟩
  case body =>
    rintro l pre x a' W hl ⟨r, hr⟩ ⟨bR1, hf1⟩ ⟨Bx, hBx, bX, rfl⟩ hlt
    obtain ⟨x0, x1, x2, x3, x4⟩ := five_cells bX
    have cR := bR1.cell
    have fR := bR1.frozen
    have HB1 := Lib.hid bR1
    have HF1_ := Lib.hid hf1
    have HS := Lib.hid (foldW_snoc (p) pre x)
    clear bR1 hf1 hr hlt bX
    gi_wp2_with fail
    refine ⟨trivial, ?_⟩
    refine (CallsIn.inRound l (callsIn_wide.2 (scale_any _ _ _))).mono ?_
    rintro e' w' ⟨rfl, rfl⟩
    gi_wp2
    exact ⟨(KeepsOthers.setCell _ _ _).from _, (Fr.refl _ _).setCell (.inl (.inl rfl)) _, by rw [HS.out]; exact HB1.out.set _, HF1_.out.setCell (p := ⟨y1.heap.size, 0, none⟩) (.inl rfl) _⟩
  case done =>
    rintro D' xs W hD rfl ⟨bR1, hf1⟩ hK
    have cR := bR1.cell
    have HF1_ := Lib.hid hf1
    have HKD := Lib.hid hK
    have HRS := Lib.hid (show w.heap.size ≤ y1.heap.size from hsz)
    clear bR1 hf1 hK
    gi_wp2
    refine ⟨by simp, .inl ⟨_, _, rfl, run_takeDeferred HKD.out, ?_⟩⟩
    exact ⟨_, results_tmp rfl _ _ _, by rw [HB.out]; rfl, HFL.out.trans (HF1_.out.putObj (.inr hD) _) (fun i hi h => by have := HRS.out; simp only [only] at h; omega)⟩
  case stop =>
    rintro D' c pre W _ _ h _
    exact h.elim
end Go.Proofs.Ytdenlinehjigaaa
