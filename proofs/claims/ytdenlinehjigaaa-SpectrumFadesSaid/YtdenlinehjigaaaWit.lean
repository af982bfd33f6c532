/- The document's own crossing. -/
import Derived.Test.YtdenlinehjigaaaCrs
namespace Go.Proofs.Ytdenlinehjigaaa
open Go.RowKit

def inB (ax ay bx by_ px py : Int) : Bool := decide (((ax ≤ px ∨ bx ≤ px) ∧ (px ≤ ax ∨ px ≤ bx)) ∧ ((ay ≤ py ∨ by_ ≤ py) ∧ (py ≤ ay ∨ py ≤ by_)))
set_option maxHeartbeats 4000000 in
theorem withinR_any (ax ay bx by_ px py : Int) (w : World) :
    Calls Try.prog 160 #[.agg #[.int .i64 ax, .int .i64 ay], .agg #[.int .i64 bx, .int .i64 by_], .agg #[.int .i64 px, .int .i64 py]] w fun e w' => e = .returned (.bool (inB ax ay bx by_ px py)) ∧ Fr no w w' := by
  rcases Int.le_total ax bx with g1 | g1 <;> rcases Int.le_total ay by_ with g2 | g2
  all_goals
    go_enter Try.func160, Try.ntmps160
    go_wp2_with fail
    all_goals
      go_ret
      refine ⟨ret_bool ?_, (((Fr.refl no w).alloc _).alloc _).alloc _⟩
      rw [Bool.eq_iff_iff]
      simp only [inB, decide_eq_true_eq, Bool.false_eq_true, false_iff]
      omega
end Go.Proofs.Ytdenlinehjigaaa
