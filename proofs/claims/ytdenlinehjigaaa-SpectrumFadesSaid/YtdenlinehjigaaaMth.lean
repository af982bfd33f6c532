/- The two ways to say that a path crosses a wall are one; and neither hangs on directions, roles, places and axes. -/
import Derived.Test.YtdenlinehjigaaaCrR
namespace Go.Proofs.Ytdenlinehjigaaa

theorem tnP_x (ax ay bx by_ cx cy dx dy : Int) :
    tnP cx cy dx dy bx by_ * ax - tnP cx cy dx dy ax ay * bx = tnP ax ay bx by_ cx cy * dx - tnP ax ay bx by_ dx dy * cx := by
  unfold tnP
  grind
theorem tnP_y (ax ay bx by_ cx cy dx dy : Int) :
    tnP cx cy dx dy bx by_ * ay - tnP cx cy dx dy ax ay * by_ = tnP ax ay bx by_ cx cy * dy - tnP ax ay bx by_ dx dy * cy := by
  unfold tnP
  grind
theorem tnP_s (ax ay bx by_ cx cy dx dy : Int) :
    tnP cx cy dx dy bx by_ - tnP cx cy dx dy ax ay = tnP ax ay bx by_ cx cy - tnP ax ay bx by_ dx dy := by
  unfold tnP
  grind
def Same (p q : Int) : Prop := (0 < p ∧ 0 < q) ∨ (p < 0 ∧ q < 0)
def Opp (p q : Int) : Prop := (0 < p ∧ q < 0) ∨ (p < 0 ∧ 0 < q)
def Ov (a b c d : Int) : Prop := (a ≤ c ∨ a ≤ d ∨ b ≤ c ∨ b ≤ d) ∧ (c ≤ a ∨ c ≤ b ∨ d ≤ a ∨ d ≤ b)
def In (ax ay bx by_ px py : Int) : Prop := ((ax ≤ px ∨ bx ≤ px) ∧ (px ≤ ax ∨ px ≤ bx)) ∧ ((ay ≤ py ∨ by_ ≤ py) ∧ (py ≤ ay ∨ py ≤ by_))
theorem eqS_sgn (p q : Int) : eqS (sgn p) (sgn q) = true ↔ Same p q := by
  unfold sgn eqS Same
  split <;> split <;> (try split) <;> (try split) <;> simp <;> omega
theorem opp_sgn (p q : Int) : sgn p * sgn q < 0 ↔ Opp p q := by
  unfold sgn Opp
  split <;> split <;> (try split) <;> (try split) <;> simp <;> omega
theorem opp_dec (p q : Int) : (decide (sgn p * sgn q < 0) = true) ↔ Opp p q := by rw [decide_eq_true_iff]; exact opp_sgn p q
theorem sgn_zero (p : Int) : sgn p = 0 ↔ p = 0 := by
  unfold sgn
  split <;> (try split) <;> omega
/-- What crB says. -/
def Cr (ax ay bx by_ cx cy dx dy : Int) : Prop :=
  Ov ax bx cx dx ∧ Ov ay by_ cy dy ∧ ¬ Same (tnP ax ay bx by_ cx cy) (tnP ax ay bx by_ dx dy) ∧ ¬ Same (tnP cx cy dx dy ax ay) (tnP cx cy dx dy bx by_)
theorem crB_iff (ax ay bx by_ cx cy dx dy : Int) : crB ax ay bx by_ cx cy dx dy = true ↔ Cr ax ay bx by_ cx cy dx dy := by
  simp only [crB, sdB, tn, Cr, Bool.and_eq_true, Bool.not_eq_true', ← Bool.not_eq_true, eqS_sgn, ovB, decide_eq_true_eq, Ov]
/-- What crR says. -/
def Cd (ax ay bx by_ cx cy dx dy : Int) : Prop :=
  (Opp (tnP ax ay bx by_ cx cy) (tnP ax ay bx by_ dx dy) ∧ Opp (tnP cx cy dx dy ax ay) (tnP cx cy dx dy bx by_)) ∨ (tnP ax ay bx by_ cx cy = 0 ∧ In ax ay bx by_ cx cy) ∨ (tnP ax ay bx by_ dx dy = 0 ∧ In ax ay bx by_ dx dy) ∨
    (tnP cx cy dx dy ax ay = 0 ∧ In cx cy dx dy ax ay) ∨ (tnP cx cy dx dy bx by_ = 0 ∧ In cx cy dx dy bx by_)
theorem crR_iff (ax ay bx by_ cx cy dx dy : Int) : crR ax ay bx by_ cx cy dx dy = true ↔ Cd ax ay bx by_ cx cy dx dy := by
  unfold crR crV tn Cd
  rw [Bool.or_eq_true, Bool.or_eq_true, Bool.or_eq_true, Bool.or_eq_true, Bool.and_eq_true, opp_dec, opp_dec]
  simp only [Bool.and_eq_true, decide_eq_true_eq, beq_iff_eq, sgn_zero, inB, In, or_assoc]

theorem Same.comm {p q : Int} : Same p q ↔ Same q p := by unfold Same; omega
theorem Same.neg {p q : Int} : Same (-p) (-q) ↔ Same p q := by unfold Same; omega
theorem Cr.roles {ax ay bx by_ cx cy dx dy : Int} (h : Cr ax ay bx by_ cx cy dx dy) : Cr cx cy dx dy ax ay bx by_ :=
  ⟨by have := h.1; unfold Ov at *; omega, by have := h.2.1; unfold Ov at *; omega, h.2.2.2, h.2.2.1⟩
theorem tnP_swap (ax ay bx by_ px py : Int) : tnP bx by_ ax ay px py = - tnP ax ay bx by_ px py := by unfold tnP; grind
theorem Cr.wall {ax ay bx by_ cx cy dx dy : Int} (h : Cr ax ay bx by_ cx cy dx dy) : Cr ax ay bx by_ dx dy cx cy := by
  refine ⟨by have := h.1; unfold Ov at *; omega, by have := h.2.1; unfold Ov at *; omega, fun k => h.2.2.1 (Same.comm.1 k), fun k => h.2.2.2 ?_⟩
  rw [tnP_swap cx cy dx dy ax ay, tnP_swap cx cy dx dy bx by_] at k
  exact Same.neg.1 k
theorem Cr.path {ax ay bx by_ cx cy dx dy : Int} (h : Cr ax ay bx by_ cx cy dx dy) : Cr bx by_ ax ay cx cy dx dy := h.roles.wall.roles

/-- Weighted sums of numbers that lie apart differ. -/
theorem sep (S R P Q a b c d : Int) (hS : 0 < S) (hR : R < 0) (hP : 0 < P) (hQ : Q < 0) (e3 : S - R = P - Q) (e1 : S * a - R * b = P * d - Q * c) : Ov a b c d := by
  unfold Ov
  refine ⟨?_, ?_⟩
  · apply Classical.byContradiction
    intro h
    obtain ⟨t, ht⟩ : ∃ t, t = max c d := ⟨_, rfl⟩
    have h1 : S * (t + 1) ≤ S * a := Int.mul_le_mul_of_nonneg_left (by omega) (by omega)
    have h2 : (-R) * (t + 1) ≤ (-R) * b := Int.mul_le_mul_of_nonneg_left (by omega) (by omega)
    have h3 : P * d ≤ P * t := Int.mul_le_mul_of_nonneg_left (by omega) (by omega)
    have h4 : (-Q) * c ≤ (-Q) * t := Int.mul_le_mul_of_nonneg_left (by omega) (by omega)
    have h5 : S * t - R * t = P * t - Q * t := by rw [← Int.sub_mul, e3, Int.sub_mul]
    rw [Int.mul_add] at h1 h2
    simp only [Int.neg_mul] at h2 h4
    omega
  · apply Classical.byContradiction
    intro h
    obtain ⟨t, ht⟩ : ∃ t, t = max a b := ⟨_, rfl⟩
    have h1 : S * a ≤ S * t := Int.mul_le_mul_of_nonneg_left (by omega) (by omega)
    have h2 : (-R) * b ≤ (-R) * t := Int.mul_le_mul_of_nonneg_left (by omega) (by omega)
    have h3 : P * (t + 1) ≤ P * d := Int.mul_le_mul_of_nonneg_left (by omega) (by omega)
    have h4 : (-Q) * (t + 1) ≤ (-Q) * c := Int.mul_le_mul_of_nonneg_left (by omega) (by omega)
    have h5 : S * t - R * t = P * t - Q * t := by rw [← Int.sub_mul, e3, Int.sub_mul]
    rw [Int.mul_add] at h3 h4
    simp only [Int.neg_mul] at h2 h4
    omega
theorem sep_any (S R P Q a b c d : Int) (h1 : Opp P Q) (h2 : Opp R S) (e3 : S - R = P - Q) (e1 : S * a - R * b = P * d - Q * c) : Ov a b c d := by
  unfold Opp at h1 h2
  rcases h1 with ⟨p, q⟩ | ⟨p, q⟩
  · rcases h2 with ⟨r, s⟩ | ⟨r, s⟩
    · omega
    · exact sep S R P Q a b c d s r p q e3 e1
  · rcases h2 with ⟨r, s⟩ | ⟨r, s⟩
    · exact sep (-S) (-R) (-P) (-Q) a b c d (by omega) (by omega) (by omega) (by omega) (by omega) (by simp only [Int.neg_mul]; omega)
    · omega
theorem pinch (S R u v : Int) (hS : 0 < S) (hR : 0 < R) (e : S * u = R * v) (h : (u ≤ 0 ∧ 0 ≤ v) ∨ (0 ≤ u ∧ v ≤ 0)) : u = 0 := by
  have h2 : S * u = 0 := by
    rcases h with ⟨a, b⟩ | ⟨a, b⟩
    · have := Int.mul_nonneg (Int.le_of_lt hR) b
      have := Int.mul_nonpos_of_nonneg_of_nonpos (Int.le_of_lt hS) a
      omega
    · have := Int.mul_nonneg (Int.le_of_lt hS) a
      have := Int.mul_nonpos_of_nonneg_of_nonpos (Int.le_of_lt hR) b
      omega
  rcases Int.mul_eq_zero.1 h2 with h3 | h3
  · omega
  · exact h3
theorem in_not (ax ay bx by_ cx cy dx dy : Int) (hp : tnP ax ay bx by_ cx cy = 0) (hi : In ax ay bx by_ cx cy) : ¬ (0 < tnP cx cy dx dy ax ay ∧ 0 < tnP cx cy dx dy bx by_) := by
  rintro ⟨hr, hs⟩
  have ex := tnP_x ax ay bx by_ cx cy dx dy
  have ey := tnP_y ax ay bx by_ cx cy dx dy
  have es := tnP_s ax ay bx by_ cx cy dx dy
  rw [hp] at ex ey es
  have hR : tnP cx cy dx dy ax ay = (dx - cx) * (ay - cy) - (dy - cy) * (ax - cx) := rfl
  generalize tnP cx cy dx dy ax ay = R at *
  generalize tnP cx cy dx dy bx by_ = S at *
  generalize tnP ax ay bx by_ dx dy = Q at *
  have hx : ax - cx = 0 := pinch S R (ax - cx) (bx - cx) hs hr (by grind) (by unfold In at hi; omega)
  have hy : ay - cy = 0 := pinch S R (ay - cy) (by_ - cy) hs hr (by grind) (by unfold In at hi; omega)
  rw [hx, hy] at hR
  simp at hR
  omega
theorem tnP_flip (cx cy dx dy px py : Int) : tnP (-cx) cy (-dx) dy (-px) py = - tnP cx cy dx dy px py := by unfold tnP; grind
/-- An end in its place. -/
theorem cr_of_in (ax ay bx by_ cx cy dx dy : Int) (hp : tnP ax ay bx by_ cx cy = 0) (hi : In ax ay bx by_ cx cy) : Cr ax ay bx by_ cx cy dx dy := by
  refine ⟨by unfold In at hi; unfold Ov; omega, by unfold In at hi; unfold Ov; omega, by unfold Same; omega, ?_⟩
  rintro (h | h)
  · exact in_not ax ay bx by_ cx cy dx dy hp hi h
  · refine in_not (-ax) ay (-bx) by_ (-cx) cy (-dx) dy (by rw [tnP_flip]; omega) (by unfold In at *; omega) ?_
    rw [tnP_flip, tnP_flip]
    omega
theorem cr_of_cd {ax ay bx by_ cx cy dx dy : Int} (h : Cd ax ay bx by_ cx cy dx dy) : Cr ax ay bx by_ cx cy dx dy := by
  rcases h with ⟨h1, h2⟩ | ⟨h1, h2⟩ | ⟨h1, h2⟩ | ⟨h1, h2⟩ | ⟨h1, h2⟩
  · refine ⟨sep_any _ _ _ _ _ _ _ _ h1 h2 (tnP_s ..) (tnP_x ..), sep_any _ _ _ _ _ _ _ _ h1 h2 (tnP_s ..) (tnP_y ..), ?_, ?_⟩
    · unfold Opp at h1; unfold Same; omega
    · unfold Opp at h2; unfold Same; omega
  · exact cr_of_in _ _ _ _ _ _ _ _ h1 h2
  · exact (cr_of_in _ _ _ _ _ _ cx cy h1 h2).wall
  · exact (cr_of_in _ _ _ _ _ _ bx by_ h1 h2).roles
  · exact (cr_of_in _ _ _ _ _ _ ax ay h1 h2).wall.roles
theorem mix (S T u v : Int) (hS : 0 ≤ S) (hT : 0 ≤ T) (hD : 0 < S + T) (e : S * u + T * v = 0) : ¬ (0 < u ∧ 0 < v) ∧ ¬ (u < 0 ∧ v < 0) := by
  refine ⟨?_, ?_⟩
  · rintro ⟨a, b⟩
    have h1 : S * 1 ≤ S * u := Int.mul_le_mul_of_nonneg_left (by omega) hS
    have h2 : T * 1 ≤ T * v := Int.mul_le_mul_of_nonneg_left (by omega) hT
    omega
  · rintro ⟨a, b⟩
    have h1 : S * u ≤ S * (-1) := Int.mul_le_mul_of_nonneg_left (by omega) hS
    have h2 : T * v ≤ T * (-1) := Int.mul_le_mul_of_nonneg_left (by omega) hT
    omega
theorem in_of_mix (R S Q a b c : Int) (hs : ¬ Same R S) (hq : Q ≠ 0) (e3 : S - R = 0 - Q) (e1 : S * a - R * b = 0 - Q * c) : (a ≤ c ∨ b ≤ c) ∧ (c ≤ a ∨ c ≤ b) := by
  unfold Same at hs
  rcases Int.lt_or_gt_of_ne hq with h | h
  · have := mix S (-R) (a - c) (b - c) (by omega) (by omega) (by omega) (by grind)
    omega
  · have := mix (-S) R (a - c) (b - c) (by omega) (by omega) (by omega) (by grind)
    omega
/-- A place on the line, where the other end is none. -/
theorem in_of_cr {ax ay bx by_ cx cy dx dy : Int} (h : Cr ax ay bx by_ cx cy dx dy) (hp : tnP ax ay bx by_ cx cy = 0) (hq : tnP ax ay bx by_ dx dy ≠ 0) : In ax ay bx by_ cx cy := by
  have ex := tnP_x ax ay bx by_ cx cy dx dy
  have ey := tnP_y ax ay bx by_ cx cy dx dy
  have es := tnP_s ax ay bx by_ cx cy dx dy
  rw [hp] at ex ey es
  rw [Int.zero_mul] at ex ey
  exact ⟨in_of_mix _ _ _ _ _ _ h.2.2.2 hq es ex, in_of_mix _ _ _ _ _ _ h.2.2.2 hq es ey⟩
theorem line (u v s t : Int) (e : u * t = v * s) (hu : u ≠ 0) (h : (0 ≤ s ∧ s ≤ u) ∨ (u ≤ s ∧ s ≤ 0)) : (0 ≤ t ∧ t ≤ v) ∨ (v ≤ t ∧ t ≤ 0) := by
  have key : ∀ u v s t : Int, u * t = v * s → 0 < u → 0 ≤ s → s ≤ u → (0 ≤ t ∧ t ≤ v) ∨ (v ≤ t ∧ t ≤ 0) := by
    intro u v s t e hu h0 h1
    rcases Int.le_total 0 v with hv | hv
    · left
      have a1 : 0 ≤ v * s := Int.mul_nonneg hv h0
      have a2 : v * s ≤ v * u := Int.mul_le_mul_of_nonneg_left h1 hv
      refine ⟨?_, ?_⟩
      · apply Classical.byContradiction
        intro hn
        have : u * t ≤ u * (-1) := Int.mul_le_mul_of_nonneg_left (by omega) (by omega)
        omega
      · apply Classical.byContradiction
        intro hn
        have a3 : u * (v + 1) ≤ u * t := Int.mul_le_mul_of_nonneg_left (by omega) (by omega)
        rw [Int.mul_add, Int.mul_comm u v] at a3
        omega
    · right
      have a1 : 0 ≤ (-v) * s := Int.mul_nonneg (by omega) h0
      have a2 : (-v) * s ≤ (-v) * u := Int.mul_le_mul_of_nonneg_left h1 (by omega)
      rw [Int.neg_mul] at a1 a2
      rw [Int.neg_mul] at a2
      refine ⟨?_, ?_⟩
      · apply Classical.byContradiction
        intro hn
        have a3 : u * t ≤ u * (v - 1) := Int.mul_le_mul_of_nonneg_left (by omega) (by omega)
        rw [Int.mul_sub, Int.mul_comm u v] at a3
        omega
      · apply Classical.byContradiction
        intro hn
        have : u * 1 ≤ u * t := Int.mul_le_mul_of_nonneg_left (by omega) (by omega)
        omega
  rcases h with ⟨a, b⟩ | ⟨a, b⟩
  · exact key u v s t e (by omega) a b
  · have := key (-u) (-v) (-s) (-t) (by rw [Int.neg_mul_neg, Int.neg_mul_neg]; exact e) (by omega) (by omega) (by omega)
    omega
theorem in_x (ax ay bx by_ px py : Int) (h : tnP ax ay bx by_ px py = 0) (hn : ax ≠ bx) (hi : (ax ≤ px ∨ bx ≤ px) ∧ (px ≤ ax ∨ px ≤ bx)) : In ax ay bx by_ px py := by
  have e : (bx - ax) * (py - ay) = (by_ - ay) * (px - ax) := by unfold tnP at h; omega
  have := line (bx - ax) (by_ - ay) (px - ax) (py - ay) e (by omega) (by omega)
  exact ⟨hi, by omega⟩
theorem in_y (ax ay bx by_ px py : Int) (h : tnP ax ay bx by_ px py = 0) (hn : ay ≠ by_) (hi : (ay ≤ py ∨ by_ ≤ py) ∧ (py ≤ ay ∨ py ≤ by_)) : In ax ay bx by_ px py := by
  have e : (by_ - ay) * (px - ax) = (bx - ax) * (py - ay) := by unfold tnP at h; omega
  have := line (by_ - ay) (bx - ax) (py - ay) (px - ax) e (by omega) (by omega)
  exact ⟨by omega, hi⟩
/-- All on one line. -/
theorem on_line {ax ay bx by_ cx cy dx dy : Int} (h1 : Ov ax bx cx dx) (h2 : Ov ay by_ cy dy) (hp : tnP ax ay bx by_ cx cy = 0) (hq : tnP ax ay bx by_ dx dy = 0) (hr : tnP cx cy dx dy ax ay = 0) (hs : tnP cx cy dx dy bx by_ = 0) :
    In ax ay bx by_ cx cy ∨ In ax ay bx by_ dx dy ∨ In cx cy dx dy ax ay ∨ In cx cy dx dy bx by_ := by
  by_cases a1 : ax = bx
  · by_cases a2 : ay = by_
    · right; right; left
      unfold In
      unfold Ov at h1 h2
      omega
    · by_cases c2 : cy = dy
      · -- the wall is one place, or both points of the path are
        have e1 : cx = ax := by
          have h : (bx - ax) * (cy - ay) - (by_ - ay) * (cx - ax) = 0 := hp
          rw [show bx - ax = 0 by omega, Int.zero_mul] at h
          have h' : (by_ - ay) * (cx - ax) = 0 := by omega
          rcases Int.mul_eq_zero.1 h' with k | k <;> omega
        have e2 : dx = ax := by
          have h : (bx - ax) * (dy - ay) - (by_ - ay) * (dx - ax) = 0 := hq
          rw [show bx - ax = 0 by omega, Int.zero_mul] at h
          have h' : (by_ - ay) * (dx - ax) = 0 := by omega
          rcases Int.mul_eq_zero.1 h' with k | k <;> omega
        left
        unfold In
        unfold Ov at h1 h2
        omega
      · unfold Ov at h2
        rcases (show ((ay ≤ cy ∨ by_ ≤ cy) ∧ (cy ≤ ay ∨ cy ≤ by_)) ∨ ((ay ≤ dy ∨ by_ ≤ dy) ∧ (dy ≤ ay ∨ dy ≤ by_)) ∨ ((cy ≤ ay ∨ dy ≤ ay) ∧ (ay ≤ cy ∨ ay ≤ dy)) ∨ ((cy ≤ by_ ∨ dy ≤ by_) ∧ (by_ ≤ cy ∨ by_ ≤ dy)) by omega) with k | k | k | k
        · exact .inl (in_y _ _ _ _ _ _ hp a2 k)
        · exact .inr (.inl (in_y _ _ _ _ _ _ hq a2 k))
        · exact .inr (.inr (.inl (in_y _ _ _ _ _ _ hr c2 k)))
        · exact .inr (.inr (.inr (in_y _ _ _ _ _ _ hs c2 k)))
  · by_cases c1 : cx = dx
    · by_cases c2 : cy = dy
      · left
        unfold In
        unfold Ov at h1 h2
        omega
      · exfalso
        have e1 : ax = cx := by
          have h : (dx - cx) * (ay - cy) - (dy - cy) * (ax - cx) = 0 := hr
          rw [show dx - cx = 0 by omega, Int.zero_mul] at h
          have h' : (dy - cy) * (ax - cx) = 0 := by omega
          rcases Int.mul_eq_zero.1 h' with k | k <;> omega
        have e2 : bx = cx := by
          have h : (dx - cx) * (by_ - cy) - (dy - cy) * (bx - cx) = 0 := hs
          rw [show dx - cx = 0 by omega, Int.zero_mul] at h
          have h' : (dy - cy) * (bx - cx) = 0 := by omega
          rcases Int.mul_eq_zero.1 h' with k | k <;> omega
        omega
    · unfold Ov at h1
      rcases (show ((ax ≤ cx ∨ bx ≤ cx) ∧ (cx ≤ ax ∨ cx ≤ bx)) ∨ ((ax ≤ dx ∨ bx ≤ dx) ∧ (dx ≤ ax ∨ dx ≤ bx)) ∨ ((cx ≤ ax ∨ dx ≤ ax) ∧ (ax ≤ cx ∨ ax ≤ dx)) ∨ ((cx ≤ bx ∨ dx ≤ bx) ∧ (bx ≤ cx ∨ bx ≤ dx)) by omega) with k | k | k | k
      · exact .inl (in_x _ _ _ _ _ _ hp a1 k)
      · exact .inr (.inl (in_x _ _ _ _ _ _ hq a1 k))
      · exact .inr (.inr (.inl (in_x _ _ _ _ _ _ hr c1 k)))
      · exact .inr (.inr (.inr (in_x _ _ _ _ _ _ hs c1 k)))
theorem cd_of_cr {ax ay bx by_ cx cy dx dy : Int} (h : Cr ax ay bx by_ cx cy dx dy) : Cd ax ay bx by_ cx cy dx dy := by
  have es := tnP_s ax ay bx by_ cx cy dx dy
  by_cases hp : tnP ax ay bx by_ cx cy = 0
  · by_cases hq : tnP ax ay bx by_ dx dy = 0
    · have hrs : tnP cx cy dx dy ax ay = 0 ∧ tnP cx cy dx dy bx by_ = 0 := by
        have := h.2.2.2
        unfold Same at this
        omega
      rcases on_line h.1 h.2.1 hp hq hrs.1 hrs.2 with k | k | k | k
      · exact .inr (.inl ⟨hp, k⟩)
      · exact .inr (.inr (.inl ⟨hq, k⟩))
      · exact .inr (.inr (.inr (.inl ⟨hrs.1, k⟩)))
      · exact .inr (.inr (.inr (.inr ⟨hrs.2, k⟩)))
    · exact .inr (.inl ⟨hp, in_of_cr h hp hq⟩)
  · by_cases hq : tnP ax ay bx by_ dx dy = 0
    · exact .inr (.inr (.inl ⟨hq, in_of_cr h.wall hq hp⟩))
    · by_cases hr : tnP cx cy dx dy ax ay = 0
      · by_cases hs : tnP cx cy dx dy bx by_ = 0
        · exfalso
          have := h.2.2.1
          unfold Same at this
          omega
        · exact .inr (.inr (.inr (.inl ⟨hr, in_of_cr h.roles hr hs⟩)))
      · by_cases hs : tnP cx cy dx dy bx by_ = 0
        · exact .inr (.inr (.inr (.inr ⟨hs, in_of_cr h.roles.wall hs hr⟩)))
        · left
          have h1 := h.2.2.1
          have h2 := h.2.2.2
          unfold Same at h1 h2
          unfold Opp
          omega
theorem crB_crR (ax ay bx by_ cx cy dx dy : Int) : crR ax ay bx by_ cx cy dx dy = crB ax ay bx by_ cx cy dx dy := by
  rw [Bool.eq_iff_iff, crB_iff, crR_iff]
  exact ⟨cr_of_cd, cd_of_cr⟩
end Go.Proofs.Ytdenlinehjigaaa
