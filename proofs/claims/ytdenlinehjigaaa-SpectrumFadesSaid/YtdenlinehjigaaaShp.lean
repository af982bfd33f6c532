/- Points and turns. -/
import Derived.Test.YtdenlinehjigaaaRows
import Derived.Test.YtdenlinehjigaaaBase
import Derived.BigQuiet
import Derived.Deep.RegionHeld3
namespace Go.Proofs.Ytdenlinehjigaaa
open Go.RowKit

/-- A coordinate is near. -/
def nr (x : Int) : Prop := -20000 ≤ x ∧ x ≤ 20000
def sqF (ax ay bx by_ : Int) : Int := (bx - ax) * (bx - ax) + (by_ - ay) * (by_ - ay)
theorem prod_bound (a b A B : Int) (h0 : -A ≤ a) (h1 : a ≤ A) (h2 : -B ≤ b) (h3 : b ≤ B) : -(A * B) ≤ a * b ∧ a * b ≤ A * B := by
  have e1 : 0 ≤ (A - a) * (B + b) := Int.mul_nonneg (by omega) (by omega)
  have e2 : 0 ≤ (A + a) * (B - b) := Int.mul_nonneg (by omega) (by omega)
  have e3 : 0 ≤ (A + a) * (B + b) := Int.mul_nonneg (by omega) (by omega)
  have e4 : 0 ≤ (A - a) * (B - b) := Int.mul_nonneg (by omega) (by omega)
  rw [Int.sub_mul, Int.mul_add, Int.mul_add] at e1
  rw [Int.add_mul, Int.mul_sub, Int.mul_sub] at e2
  rw [Int.add_mul, Int.mul_add, Int.mul_add] at e3
  rw [Int.sub_mul, Int.mul_sub, Int.mul_sub] at e4
  omega
theorem diff_bound (a b c d : Int) (ha : nr a) (hb : nr b) (hc : nr c) (hd : nr d) : -1600000000 ≤ (a - b) * (c - d) ∧ (a - b) * (c - d) ≤ 1600000000 := by
  obtain ⟨a0, a1⟩ := ha
  obtain ⟨b0, b1⟩ := hb
  obtain ⟨c0, c1⟩ := hc
  obtain ⟨d0, d1⟩ := hd
  exact prod_bound (a - b) (c - d) 40000 40000 (by omega) (by omega) (by omega) (by omega)
set_option maxHeartbeats 1000000 in
theorem square_any (ax ay bx by_ : Int) (w : World) (h1 : nr ax) (h2 : nr ay) (h3 : nr bx) (h4 : nr by_) :
    Calls Try.prog 66 #[.agg #[.int .i64 ax, .int .i64 ay], .agg #[.int .i64 bx, .int .i64 by_]] w fun e w' => e = .returned (.int .i64 (sqF ax ay bx by_)) ∧ Fr no w w' := by
  obtain ⟨p0, p1⟩ := diff_bound bx ax bx ax h3 h1 h3 h1
  obtain ⟨q0, q1⟩ := diff_bound by_ ay by_ ay h4 h2 h4 h2
  have hw1 : IntKind.i64.wrap ((bx - ax) * (bx - ax)) = (bx - ax) * (bx - ax) := IntWalk.i64_in _ (by omega)
  have hw2 : IntKind.i64.wrap ((by_ - ay) * (by_ - ay)) = (by_ - ay) * (by_ - ay) := IntWalk.i64_in _ (by omega)
  have hw3 : IntKind.i64.wrap ((bx - ax) * (bx - ax) + (by_ - ay) * (by_ - ay)) = (bx - ax) * (bx - ax) + (by_ - ay) * (by_ - ay) := IntWalk.i64_in _ (by omega)
  obtain ⟨a0, a1⟩ := h1
  obtain ⟨b0, b1⟩ := h2
  obtain ⟨c0, c1⟩ := h3
  obtain ⟨d0, d1⟩ := h4
  have hx : IntKind.i64.wrap (bx - ax) = bx - ax := IntWalk.i64_in _ (by omega)
  have hy : IntKind.i64.wrap (by_ - ay) = by_ - ay := IntWalk.i64_in _ (by omega)
  go_enter Try.func66, Try.ntmps66
  go_wp2_with fail
  go_quiet (fail)
  go_wp2_with fail
  go_ret
  exact ⟨rfl, (((Fr.refl no w).alloc _).alloc _).drewN _⟩

theorem sq_comm (ax ay bx by_ : Int) : (ax - bx) * (ax - bx) + (ay - by_) * (ay - by_) = sqF ax ay bx by_ := by
  rw [sqF, show ax - bx = -(bx - ax) by omega, show ay - by_ = -(by_ - ay) by omega, Int.neg_mul_neg, Int.neg_mul_neg]
set_option maxHeartbeats 1000000 in
theorem squareR_any (ax ay bx by_ : Int) (w : World) (h1 : nr ax) (h2 : nr ay) (h3 : nr bx) (h4 : nr by_) :
    Calls Try.prog 154 #[.agg #[.int .i64 ax, .int .i64 ay], .agg #[.int .i64 bx, .int .i64 by_]] w fun e w' => e = .returned (.int .i64 (sqF ax ay bx by_)) ∧ Fr no w w' := by
  have HS := Lib.hid (sq_comm ax ay bx by_)
  obtain ⟨p0, p1⟩ := diff_bound ax bx ax bx h1 h3 h1 h3
  obtain ⟨q0, q1⟩ := diff_bound ay by_ ay by_ h2 h4 h2 h4
  have hw1 : IntKind.i64.wrap ((ax - bx) * (ax - bx)) = (ax - bx) * (ax - bx) := IntWalk.i64_in _ (by omega)
  have hw2 : IntKind.i64.wrap ((ay - by_) * (ay - by_)) = (ay - by_) * (ay - by_) := IntWalk.i64_in _ (by omega)
  obtain ⟨a0, a1⟩ := h1
  obtain ⟨b0, b1⟩ := h2
  obtain ⟨c0, c1⟩ := h3
  obtain ⟨d0, d1⟩ := h4
  go_enter Try.func154, Try.ntmps154
  go_wp2_with fail
  go_ret
  rw [HS.out]
  exact ⟨rfl, ((Fr.refl no w).alloc _).alloc _⟩
def sgn (p : Int) : Int := if 0 < p then 1 else if p < 0 then -1 else 0
def tnP (ax ay bx by_ px py : Int) : Int := (bx - ax) * (py - ay) - (by_ - ay) * (px - ax)
def tn (ax ay bx by_ px py : Int) : Int := sgn (tnP ax ay bx by_ px py)
set_option maxHeartbeats 2000000 in
theorem turn_any (ax ay bx by_ px py : Int) (w : World) (h1 : nr ax) (h2 : nr ay) (h3 : nr bx) (h4 : nr by_) (h5 : nr px) (h6 : nr py) :
    Calls Try.prog 152 #[.agg #[.int .i64 ax, .int .i64 ay], .agg #[.int .i64 bx, .int .i64 by_], .agg #[.int .i64 px, .int .i64 py]] w fun e w' => e = .returned (.int .i64 (tn ax ay bx by_ px py)) ∧ Fr no w w' := by
  obtain ⟨p0, p1⟩ := diff_bound bx ax py ay h3 h1 h6 h2
  obtain ⟨q0, q1⟩ := diff_bound by_ ay px ax h4 h2 h5 h1
  have hw1 : IntKind.i64.wrap ((bx - ax) * (py - ay)) = (bx - ax) * (py - ay) := IntWalk.i64_in _ (by omega)
  have hw2 : IntKind.i64.wrap ((by_ - ay) * (px - ax)) = (by_ - ay) * (px - ax) := IntWalk.i64_in _ (by omega)
  obtain ⟨a0, a1⟩ := h1
  obtain ⟨b0, b1⟩ := h2
  obtain ⟨c0, c1⟩ := h3
  obtain ⟨d0, d1⟩ := h4
  obtain ⟨e0, e1⟩ := h5
  obtain ⟨f0, f1⟩ := h6
  have HT := Lib.hid (show tn ax ay bx by_ px py = sgn ((bx - ax) * (py - ay) - (by_ - ay) * (px - ax)) from rfl)
  rcases Int.lt_trichotomy ((bx - ax) * (py - ay)) ((by_ - ay) * (px - ax)) with hl | hl | hl
  · have HV := Lib.hid (show sgn ((bx - ax) * (py - ay) - (by_ - ay) * (px - ax)) = -1 by rw [sgn, if_neg (by omega), if_pos (by omega)])
    have g1 : (bx - ax) * (py - ay) ≤ (by_ - ay) * (px - ax) := by omega
    have g2 : (bx - ax) * (py - ay) - (by_ - ay) * (px - ax) < 0 := by omega
    clear hl
    go_enter Try.func152, Try.ntmps152
    go_wp2_with fail
    go_ret
    rw [HT.out, HV.out]
    exact ⟨rfl, (((Fr.refl no w).alloc _).alloc _).alloc _⟩
  · have HV := Lib.hid (show sgn ((bx - ax) * (py - ay) - (by_ - ay) * (px - ax)) = 0 by rw [sgn, if_neg (by omega), if_neg (by omega)])
    have g1 : (bx - ax) * (py - ay) ≤ (by_ - ay) * (px - ax) := by omega
    have g2 : 0 ≤ (bx - ax) * (py - ay) - (by_ - ay) * (px - ax) := by omega
    clear hl
    go_enter Try.func152, Try.ntmps152
    go_wp2_with fail
    go_ret
    rw [HT.out, HV.out]
    exact ⟨rfl, (((Fr.refl no w).alloc _).alloc _).alloc _⟩
  · have HV := Lib.hid (show sgn ((bx - ax) * (py - ay) - (by_ - ay) * (px - ax)) = 1 by rw [sgn, if_pos (by omega)])
    go_enter Try.func152, Try.ntmps152
    go_wp2_with fail
    go_ret
    rw [HT.out, HV.out]
    exact ⟨rfl, (((Fr.refl no w).alloc _).alloc _).alloc _⟩
set_option maxHeartbeats 2000000 in
theorem turnR_any (ax ay bx by_ px py : Int) (w : World) (h1 : nr ax) (h2 : nr ay) (h3 : nr bx) (h4 : nr by_) (h5 : nr px) (h6 : nr py) :
    Calls Try.prog 159 #[.agg #[.int .i64 ax, .int .i64 ay], .agg #[.int .i64 bx, .int .i64 by_], .agg #[.int .i64 px, .int .i64 py]] w fun e w' => e = .returned (.int .i64 (tn ax ay bx by_ px py)) ∧ Fr no w w' := by
  obtain ⟨p0, p1⟩ := diff_bound bx ax py ay h3 h1 h6 h2
  obtain ⟨q0, q1⟩ := diff_bound by_ ay px ax h4 h2 h5 h1
  have hw1 : IntKind.i64.wrap ((bx - ax) * (py - ay)) = (bx - ax) * (py - ay) := IntWalk.i64_in _ (by omega)
  have hw2 : IntKind.i64.wrap ((by_ - ay) * (px - ax)) = (by_ - ay) * (px - ax) := IntWalk.i64_in _ (by omega)
  obtain ⟨a0, a1⟩ := h1
  obtain ⟨b0, b1⟩ := h2
  obtain ⟨c0, c1⟩ := h3
  obtain ⟨d0, d1⟩ := h4
  obtain ⟨e0, e1⟩ := h5
  obtain ⟨f0, f1⟩ := h6
  have HT := Lib.hid (show tn ax ay bx by_ px py = sgn ((bx - ax) * (py - ay) - (by_ - ay) * (px - ax)) from rfl)
  rcases Int.lt_trichotomy ((bx - ax) * (py - ay)) ((by_ - ay) * (px - ax)) with hl | hl | hl
  · have HV := Lib.hid (show sgn ((bx - ax) * (py - ay) - (by_ - ay) * (px - ax)) = -1 by rw [sgn, if_neg (by omega), if_pos (by omega)])
    have g1 : (bx - ax) * (py - ay) ≤ (by_ - ay) * (px - ax) := by omega
    have g2 : (bx - ax) * (py - ay) - (by_ - ay) * (px - ax) < 0 := by omega
    clear hl
    go_enter Try.func159, Try.ntmps159
    go_wp2_with fail
    go_ret
    rw [HT.out, HV.out]
    exact ⟨rfl, (((Fr.refl no w).alloc _).alloc _).alloc _⟩
  · have HV := Lib.hid (show sgn ((bx - ax) * (py - ay) - (by_ - ay) * (px - ax)) = 0 by rw [sgn, if_neg (by omega), if_neg (by omega)])
    have g1 : (bx - ax) * (py - ay) ≤ (by_ - ay) * (px - ax) := by omega
    have g2 : 0 ≤ (bx - ax) * (py - ay) - (by_ - ay) * (px - ax) := by omega
    clear hl
    go_enter Try.func159, Try.ntmps159
    go_wp2_with fail
    go_ret
    rw [HT.out, HV.out]
    exact ⟨rfl, (((Fr.refl no w).alloc _).alloc _).alloc _⟩
  · have HV := Lib.hid (show sgn ((bx - ax) * (py - ay) - (by_ - ay) * (px - ax)) = 1 by rw [sgn, if_pos (by omega)])
    go_enter Try.func159, Try.ntmps159
    go_wp2_with fail
    go_ret
    rw [HT.out, HV.out]
    exact ⟨rfl, (((Fr.refl no w).alloc _).alloc _).alloc _⟩
end Go.Proofs.Ytdenlinehjigaaa
