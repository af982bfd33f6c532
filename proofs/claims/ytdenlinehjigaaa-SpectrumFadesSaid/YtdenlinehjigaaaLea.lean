/- Leaves of spectrum. -/
import Derived.Test.YtdenlinehjigaaaBtw
import Derived.BigGuardPart
namespace Go.Proofs.Ytdenlinehjigaaa
open Go.RowKit
set_option linter.unusedVariables false

/-- A world behind calls that only made blocks. -/
structure Past (w : World) where
  u : World
  h : Fr no w u
theorem wp_region_past {P : Program} {id : Nat} {Q : Exit → Act → World → Prop} {a : Act} {w : World} {l : List Oper} (hm : P.follows .mixedOrders = true) (hB : Region.lexB .any l.toArray = true)
    (h : wpQuiet P l.toArray (fun w' => ∃ p : Past w, w' = p.u) (fun a' => ∀ w', (∃ p : Past w, w' = p.u) → Q .normal a' w') l a) : (Code.region id l.toArray true).wp P Q a w :=
  wp_region_quiet (C := fun w' => ∃ p : Past w, w' = p.u) hm hB ⟨⟨_, (Fr.refl no w).drew⟩, rfl⟩ (by simpa using h)
theorem past_out {w u : World} (h : ∃ p : Past w, u = p.u) : Fr no w u := by obtain ⟨p, rfl⟩ := h; exact p.h
theorem past_of {P : Program} {f : FuncId} {args : Array Value} {w : World} {p : Past w} {v : Value} (h : Calls P f args p.u fun e w' => e = .returned v ∧ Fr no p.u w') :
    Calls P f args p.u fun e w'' => e = .returned v ∧ ∃ p' : Past w, w'' = p'.u :=
  h.mono fun _ _ ⟨he, hf⟩ => ⟨he, ⟨_, p.h.noTrans hf⟩, rfl⟩
theorem past_same {P : Program} {f : FuncId} {args : Array Value} {w : World} {p : Past w} {v : Value} (h : Calls P f args p.u fun e w' => e = .returned v ∧ w' = p.u) :
    Calls P f args p.u fun e w'' => e = .returned v ∧ ∃ p' : Past w, w'' = p'.u :=
  h.mono fun _ _ ⟨he, hf⟩ => ⟨he, p, hf⟩

theorem Fr.gof {a w : World} (h : Fr no a w) : Fr no a w.drew := h.drew
set_option maxHeartbeats 400000 in
theorem withinS_any (n a b : Int) (w : World) : Calls Try.prog 103 #[.int .i64 n, .int .i64 a, .int .i64 b] w fun e w' => e = .returned (.bool (inR n a b)) ∧ w' = w := by
  go_enter Try.func103, Try.ntmps103
  go_wp2_with fail
  all_goals go_ret
  all_goals exact ⟨by first | (simp [inR, *]; done) | (simp [inR, *]; omega), rfl⟩
set_option maxHeartbeats 400000 in
theorem isPart_any (n a b : Int) (w : World) : Calls Try.prog 132 #[.int .i64 n, .int .i64 a, .int .i64 b] w fun e w' => e = .returned (.bool (decide (0 ≤ n) && decide (n ≤ a) && decide (a ≤ b))) ∧ w' = w := by
  go_enter Try.func132, Try.ntmps132
  go_wp2_with fail
  all_goals go_ret
  all_goals exact ⟨by first | (simp [*]; done) | (simp [*]; omega), rfl⟩
theorem isNode_any (n : Int) (w : World) : Calls Try.prog 88 #[.int .i64 n] w fun e w' => e = .returned (.bool (inR n 0 31)) ∧ w' = w := by
  go_enter Try.func88, Try.ntmps88
  go_wp2_with fail
  refine (withinS_any n 0 31 _).mono ?_
  rintro e w' ⟨rfl, rfl⟩
  go_wp2_with fail
  go_ret
  exact ⟨rfl, rfl⟩
theorem isChannel_any (n : Int) (w : World) : Calls Try.prog 89 #[.int .i64 n] w fun e w' => e = .returned (.bool (inR n 0 15)) ∧ w' = w := by
  go_enter Try.func89, Try.ntmps89
  go_wp2_with fail
  refine (withinS_any n 0 15 _).mono ?_
  rintro e w' ⟨rfl, rfl⟩
  go_wp2_with fail
  go_ret
  exact ⟨rfl, rfl⟩
theorem isTime_any (n : Int) (w : World) : Calls Try.prog 90 #[.int .i64 n] w fun e w' => e = .returned (.bool (inR n 0 1099511627776)) ∧ w' = w := by
  go_enter Try.func90, Try.ntmps90
  go_wp2_with fail
  refine (withinS_any n 0 1099511627776 _).mono ?_
  rintro e w' ⟨rfl, rfl⟩
  go_wp2_with fail
  go_ret
  exact ⟨rfl, rfl⟩
/-- Times of an interval. -/
def ivB (a b : Int) : Bool := decide (0 ≤ a) && decide (a ≤ b) && decide (b ≤ 1099511627776)
theorem isInterval_any (a b : Int) (w : World) : Calls Try.prog 85 #[.int .i64 a, .int .i64 b] w fun e w' => e = .returned (.bool (ivB a b)) ∧ w' = w := by
  go_enter Try.func85, Try.ntmps85
  go_wp2_with fail
  refine (isPart_any a b 1099511627776 _).mono ?_
  rintro e w' ⟨rfl, rfl⟩
  go_wp2_with fail
  go_ret
  exact ⟨rfl, rfl⟩
set_option maxHeartbeats 400000 in
theorem isPointS_any (x y : Int) (w : World) : Calls Try.prog 130 #[.agg #[.int .i64 x, .int .i64 y]] w fun e w' => e = .returned (.bool (ptB x y)) ∧ Fr no w w' := by
  have HP := Lib.hid (show ptB x y = (inR x 0 10000 && inR y 0 10000) from rfl)
  go_enter Try.func130, Try.ntmps130
  go_wp2_with (first | (go_at_call_of 103 x; refine (withinS_any x _ _ _).mono ?_; rintro e w' ⟨rfl, rfl⟩) | (go_at_call 103; refine (withinS_any y _ _ _).mono ?_; rintro e w' ⟨rfl, rfl⟩))
  all_goals go_ret
  all_goals (rw [HP.out]; exact ⟨by simp [*], (Fr.refl no w).alloc _⟩)
set_option maxHeartbeats 400000 in
theorem channelR_any (n : Int) (w : World) : Calls Try.prog 95 #[.int .i64 n] w fun e w' => e = .returned (.bool (inR n 0 15)) ∧ w' = w := by
  go_enter Try.func95, Try.ntmps95
  go_wp2_with fail
  all_goals go_ret
  all_goals exact ⟨by first | (simp [inR, *]; done) | (simp [inR, *]; omega), rfl⟩
set_option maxHeartbeats 400000 in
theorem intervalR_any (a b : Int) (w : World) : Calls Try.prog 87 #[.int .i64 a, .int .i64 b] w fun e w' => e = .returned (.bool (ivB a b)) ∧ w' = w := by
  go_enter Try.func87, Try.ntmps87
  go_wp2_with fail
  all_goals go_ret
  all_goals exact ⟨by first | (simp [ivB, *]; done) | (simp [ivB, *]; omega), rfl⟩
set_option maxHeartbeats 400000 in
theorem timeR_any (n : Int) (w : World) : Calls Try.prog 96 #[.int .i64 n] w fun e w' => e = .returned (.bool (inR n 0 1099511627776)) ∧ w' = w := by
  go_enter Try.func96, Try.ntmps96
  go_wp2_with fail
  all_goals go_ret
  all_goals exact ⟨by first | (simp [inR, *]; done) | (simp [inR, *]; omega), rfl⟩
theorem isPart_iv (a b : Int) (w : World) : Calls Try.prog 132 #[.int .i64 a, .int .i64 b, .int .i64 1099511627776] w fun e w' => e = .returned (.bool (ivB a b)) ∧ w' = w := isPart_any a b _ w
/-- A fading. -/
structure Fd where
  fr : Int
  to : Int
  ch : Int
  fi : Int
  un : Int
  fa : Int
def wldB (n m : Int) : Bool := n == -1 || inR n 0 m
def fdB (f : Fd) : Bool := wldB f.fr 31 && wldB f.to 31 && wldB f.ch 15 && ivB f.fi f.un && inR f.fa 0 1000
set_option maxHeartbeats 4000000 in
theorem isFade_any (f : Fd) (w : World) : Calls Try.prog 82 #[.agg #[.int .i64 f.fr, .int .i64 f.to, .int .i64 f.ch, .int .i64 f.fi, .int .i64 f.un, .int .i64 f.fa]] w fun e w' => e = .returned (.bool (fdB f)) ∧ Fr no w w' := by
  obtain ⟨fr, to, ch, fi, un, fa⟩ := f
  go_enter Try.func82, Try.ntmps82
  go_wp2_with (first | (go_at_call_of 88 fr; refine (isNode_any fr _).mono ?_; rintro e w' ⟨rfl, rfl⟩) | (go_at_call_of 88 to; refine (isNode_any to _).mono ?_; rintro e w' ⟨rfl, rfl⟩) | (go_at_call 89; refine (isChannel_any ch _).mono ?_; rintro e w' ⟨rfl, rfl⟩) | (go_at_call 132; refine (isPart_iv fi un _).mono ?_; rintro e w' ⟨rfl, rfl⟩) | (go_at_call 103; refine (withinS_any fa _ _ _).mono ?_; rintro e w' ⟨rfl, rfl⟩))
  all_goals go_ret
  all_goals exact ⟨by first | (simp [fdB, wldB, *]; done) | (simp_all [fdB, wldB]; done), (Fr.refl no w).alloc _⟩
theorem wldB_t (n m : Int) (h : 0 ≤ m) : wldB n m = true ↔ -1 ≤ n ∧ n ≤ m := by simp [wldB, inR]; omega
set_option maxHeartbeats 4000000 in
theorem fadeR_any (f : Fd) (w : World) : Calls Try.prog 84 #[.agg #[.int .i64 f.fr, .int .i64 f.to, .int .i64 f.ch, .int .i64 f.fi, .int .i64 f.un, .int .i64 f.fa]] w fun e w' => e = .returned (.bool (fdB f)) ∧ Fr no w w' := by
  obtain ⟨fr, to, ch, fi, un, fa⟩ := f
  have HP := Lib.hid (show fdB ⟨fr, to, ch, fi, un, fa⟩ = (decide (-1 ≤ fr ∧ fr ≤ 31) && decide (-1 ≤ to ∧ to ≤ 31) && decide (-1 ≤ ch ∧ ch ≤ 15) && ivB fi un && decide (0 ≤ fa ∧ fa ≤ 1000)) by
    have e1 := wldB_t fr 31 (by omega)
    have e2 := wldB_t to 31 (by omega)
    have e3 := wldB_t ch 15 (by omega)
    simp only [fdB]
    rw [Bool.eq_iff_iff]
    simp only [Bool.and_eq_true, decide_eq_true_eq, e1, e2, e3, inR_t])
  go_enter Try.func84, Try.ntmps84
  go_wp2_with (go_at_call 87; refine (intervalR_any fi un _).mono ?_; rintro e w' ⟨rfl, rfl⟩)
  all_goals go_ret
  all_goals rw [HP.out]
  all_goals exact ⟨by first | (simp [*]; done) | (simp [*]; omega), (Fr.refl no w).alloc _⟩
end Go.Proofs.Ytdenlinehjigaaa
