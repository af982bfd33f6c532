/- When a transmitter is on. -/
import Derived.Test.YtdenlinehjigaaaCkT
namespace Go.Proofs.Ytdenlinehjigaaa
open Go.RowKit
set_option linter.unusedVariables false

/-- The first time from a on at which a transmitter is on, by the phase of a. -/
def onFi (per fr to a p : Int) : Int := if p < fr then a + fr - p else if to ≤ p then a + per - p + fr else a
def meB (per fr to a b : Int) : Bool := decide (fr < to) && decide (onFi per fr to a (a % per) < b)
/-- A transmitter's times are right. -/
structure Tm (per fr to : Int) : Prop where
  p1 : 1 ≤ per
  p2 : per ≤ 1000000000
  f0 : 0 ≤ fr
  ft : fr ≤ to
  tp : to ≤ per
structure Iv (a b : Int) : Prop where
  a0 : 0 ≤ a
  ab : a ≤ b
  b1 : b ≤ 1099511627776
theorem ivB_t {a b : Int} (h : ivB a b = true) : Iv a b := by simp [ivB] at h; exact ⟨h.1.1, h.1.2, h.2⟩
theorem ivB_of {a b : Int} (h : Iv a b) : ivB a b = true := by obtain ⟨h1, h2, h3⟩ := h; simp [ivB, h1, h2, h3]
theorem srB_t {s : Src} (h : srB s = true) : Tm s.per s.fr s.to ∧ ptB s.x s.y = true ∧ isP s.pw = true ∧ chsB s.chs = true := by
  simp [srB, inR] at h
  obtain ⟨⟨⟨⟨h1, h2⟩, h3⟩, h4⟩, ⟨h5, h6⟩, h7⟩ := h
  exact ⟨⟨h4.1, h4.2, h5, h6, h7⟩, h1, by simp [isP, inR, MX, h2.1, h2.2], h3⟩
set_option maxHeartbeats 4000000 in
theorem meets_any (x y pw : Int) (ca : Option Addr) (cl ck : Nat) (per fr to a b : Int) (w : World) (ht : Tm per fr to) (hi : Iv a b) :
    Calls Try.prog 86 #[.agg #[.int .i64 x, .int .i64 y, .int .i64 pw, .slice ca cl ck, .int .i64 per, .int .i64 fr, .int .i64 to], .int .i64 a, .int .i64 b] w fun e w' => e = .returned (.bool (meB per fr to a b)) ∧ Fr no w w' := by
  obtain ⟨W, hW⟩ : ∃ W, W = w.alloc (.cells #[.int .i64 x, .int .i64 y, .int .i64 pw, .slice ca cl ck, .int .i64 per, .int .i64 fr, .int .i64 to] 49 (0, 0)) := ⟨_, rfl⟩
  have hF : Fr no w W := by rw [hW]; exact (Fr.refl no w).alloc _
  have h1 : W.heap[w.heap.size]? = some (.cells #[.int .i64 x, .int .i64 y, .int .i64 pw, .slice ca cl ck, .int .i64 per, .int .i64 fr, .int .i64 to] 49 (0, 0)) := by rw [hW]; exact heap_alloc_new w _
  obtain ⟨c0, c1, c2, c3, c4, c5, c6⟩ := seven_cells h1
  have HF := Lib.hid hF
  have HW := Lib.hid hW
  have H1 := Lib.hid h1
  clear hW h1
  obtain ⟨p1, p2, f0, ft, tp⟩ := ht
  obtain ⟨a0, ab, b1⟩ := hi
  have q0 : 0 ≤ a % per := Int.emod_nonneg a (by omega)
  have q1 : a % per < per := Int.emod_lt_of_pos a (by omega)
  have HR := Lib.hid (show meB per fr to a b = (decide (fr < to) && decide ((if a % per < fr then a + fr - a % per else if to ≤ a % per then a + per - a % per + fr else a) < b)) from rfl)
  go_enter Try.func86, Try.ntmps86
  go_wp2_with fail
  all_goals go_ret
  all_goals rw [HR.out]
  all_goals clear HR
  all_goals generalize a % per = p at *
  all_goals refine ⟨congrArg Ending.returned (congrArg Value.bool ?_), (Fr.refl no w).alloc _⟩
  all_goals (rw [Bool.eq_iff_iff]; simp only [Bool.and_eq_true, decide_eq_true_eq, beq_iff_eq, beq_eq_false_iff_ne, ne_eq, Bool.false_eq_true, false_iff] at *)
  all_goals (repeat' split)
  all_goals omega
def onB (s : Src) (a b : Int) : Bool := srB s && ivB a b && meB s.per s.fr s.to a b
theorem meB_eq {per fr to a b : Int} (ht : Tm per fr to) (hi : Iv a b) : meB per fr to a b = (decide (fr ≠ to) && decide (a ≠ b) && decide (onFi per fr to a (a % per) < b)) := by
  obtain ⟨p1, p2, f0, ft, tp⟩ := ht
  obtain ⟨a0, ab, b1⟩ := hi
  have q0 : 0 ≤ a % per := Int.emod_nonneg a (by omega)
  have q1 : a % per < per := Int.emod_lt_of_pos a (by omega)
  unfold meB onFi
  generalize a % per = p at *
  rw [Bool.eq_iff_iff]
  simp only [Bool.and_eq_true, decide_eq_true_eq]
  constructor
  · rintro ⟨h1, h2⟩
    refine ⟨⟨by omega, ?_⟩, h2⟩
    split at h2
    · omega
    · split at h2 <;> omega
  · rintro ⟨⟨h1, h3⟩, h2⟩
    exact ⟨by omega, h2⟩
set_option maxHeartbeats 4000000 in
theorem on_any (ca : Option Addr) (ck : Nat) (s : Src) (a b : Int) (w : World) (hz : IntsIn w ca s.chs.length s.chs) (hl : s.chs.length ≤ 40) : Calls Try.prog 31 #[.agg #[.int .i64 s.x, .int .i64 s.y, .int .i64 s.pw, .slice ca s.chs.length ck, .int .i64 s.per, .int .i64 s.fr, .int .i64 s.to], .int .i64 a, .int .i64 b] w fun e w' => e = .returned (.bool (onB s a b)) ∧ Fr no w w' := by
  have HS := Lib.hid (fun w h => isSource_any ca ck s w h hl)
  have HB := Lib.hid (show onB s a b = (srB s && ivB a b && meB s.per s.fr s.to a b) from rfl)
  have HT := Lib.hid (fun (h : srB s = true) => (srB_t h).1)
  have HI := Lib.hid (fun (h : ivB a b = true) => ivB_t h)
  obtain ⟨x, y, pw, chs, per, fr, to⟩ := s
  simp only at hz hl HS HB HT ⊢
  obtain ⟨cl, hcl⟩ : ∃ cl, cl = chs.length := ⟨_, rfl⟩
  rw [← hcl] at HS hz ⊢
  clear hcl hl
  obtain ⟨W, hW⟩ : ∃ W, W = w.alloc (.cells #[.int .i64 x, .int .i64 y, .int .i64 pw, .slice ca cl ck, .int .i64 per, .int .i64 fr, .int .i64 to] 49 (0, 0)) := ⟨_, rfl⟩
  have hF : Fr no w W := by rw [hW]; exact (Fr.refl no w).alloc _
  have h1 : W.heap[w.heap.size]? = some (.cells #[.int .i64 x, .int .i64 y, .int .i64 pw, .slice ca cl ck, .int .i64 per, .int .i64 fr, .int .i64 to] 49 (0, 0)) := by rw [hW]; exact heap_alloc_new w _
  obtain ⟨c0, c1, c2, c3, c4, c5, c6⟩ := seven_cells h1
  have HF := Lib.hid hF
  have HW := Lib.hid hW
  have H1 := Lib.hid h1
  clear hW h1
  have HK := HS.out W (hz.kept HF.out)
  clear hz hF
  generalize srB ⟨x, y, pw, chs, per, fr, to⟩ = A at *
  cases A
  · have HK := Lib.hid HK
    go_enter Try.func31, Try.ntmps31
    go_wp2_with fail
    rw [← HW.out]
    refine HK.out.mono ?_
    rintro e w1 ⟨rfl, f1⟩
    go_wp2_with fail
    go_ret
    rw [HB.out]
    exact ⟨rfl, HF.out.noTrans f1⟩
  · have HK := Lib.hid HK
    have ht := HT.out rfl
    cases hiv : ivB a b
    · have HV := isInterval_any a b
      rw [hiv] at HV HB
      have HV := Lib.hid HV
      clear hiv
      go_enter Try.func31, Try.ntmps31
      go_wp2_with fail
      rw [← HW.out]
      refine HK.out.mono ?_
      rintro e w1 ⟨rfl, f1⟩
      go_wp2_with fail
      refine (HV.out _).mono ?_
      rintro e w2 ⟨rfl, rfl⟩
      go_wp2_with fail
      go_ret
      rw [HB.out]
      exact ⟨rfl, HF.out.noTrans f1⟩
    · have HV := isInterval_any a b
      have HM := Lib.hid (fun w => meets_any x y pw ca cl ck per fr to a b w ht (ivB_t hiv))
      rw [hiv] at HV HB
      have HV := Lib.hid HV
      clear hiv ht
      generalize meB per fr to a b = M at *
      go_enter Try.func31, Try.ntmps31
      go_wp2_with fail
      rw [← HW.out]
      refine HK.out.mono ?_
      rintro e w1 ⟨rfl, f1⟩
      obtain ⟨d0, d1, d2, d3, d4, d5, d6⟩ := seven_cells (f1.blk H1.out (fun h => h))
      have HF1 := Lib.hid (HF.out.noTrans f1)
      clear f1 c0 c1 c2 c3 c4 c5 c6
      go_wp2_with fail
      refine (HV.out _).mono ?_
      rintro e w2 ⟨rfl, rfl⟩
      go_wp2_with fail
      refine (HM.out _).mono ?_
      rintro e w3 ⟨rfl, f3⟩
      have HF3 := Lib.hid (HF1.out.noTrans f3)
      clear f3
      go_wp2_with fail
      go_ret
      rw [HB.out]
      exact ⟨rfl, HF3.out⟩
end Go.Proofs.Ytdenlinehjigaaa
