/- Overlaps, and sides that are equal. -/
import Derived.Test.YtdenlinehjigaaaSid
namespace Go.Proofs.Ytdenlinehjigaaa
open Go.RowKit

theorem ret_bool {a b : Bool} (h : a = b) : Ending.returned (.bool a) = .returned (.bool b) := by rw [h]
def eqS (x y : Int) : Bool := (decide (x = 1) && decide (y = 1)) || (decide (x = -1) && decide (y = -1))
def tri (x : Int) : Prop := x = 1 ∨ x = 0 ∨ x = -1
theorem sgn_tri (p : Int) : tri (sgn p) := by unfold tri sgn; split; exact .inl rfl; split; exact .inr (.inr rfl); exact .inr (.inl rfl)
theorem tn_tri (ax ay bx by_ px py : Int) : tri (tn ax ay bx by_ px py) := sgn_tri _
set_option maxHeartbeats 2000000 in
theorem equal_any (x y : Int) (w : World) (hx : tri x) (hy : tri y) :
    Calls Try.prog 125 #[.agg #[.int .i64 x, .int .i64 y]] w fun e w' => e = .returned (.bool (eqS x y)) ∧ Fr no w w' := by
  rcases hx with rfl | rfl | rfl <;> rcases hy with rfl | rfl | rfl
  all_goals
    go_enter Try.func125, Try.ntmps125
    go_wp2_with fail
    go_ret
    exact ⟨rfl, (Fr.refl no w).alloc _⟩
def ovB (a b c d : Int) : Bool := decide ((a ≤ c ∨ a ≤ d ∨ b ≤ c ∨ b ≤ d) ∧ (c ≤ a ∨ c ≤ b ∨ d ≤ a ∨ d ≤ b))
set_option maxHeartbeats 2000000 in
theorem overlap_any (a b c d : Int) (w : World) :
    Calls Try.prog 123 #[.int .i64 a, .int .i64 b, .int .i64 c, .int .i64 d] w fun e w' => e = .returned (.bool (ovB a b c d)) ∧ w' = w := by
  go_enter Try.func123, Try.ntmps123
  go_wp2_with fail
  all_goals
    go_ret
    refine ⟨ret_bool ?_, rfl⟩
    rw [Bool.eq_iff_iff]
    simp only [ovB, decide_eq_true_eq, Bool.false_eq_true, false_iff]
    omega
end Go.Proofs.Ytdenlinehjigaaa
