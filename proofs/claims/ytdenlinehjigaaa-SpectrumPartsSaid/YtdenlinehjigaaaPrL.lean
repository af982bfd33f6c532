/- SpectrumParts. -/
import Derived.Test.YtdenlinehjigaaaLwS
import Derived.Test.YtdenlinehjigaaaPrm
namespace Go.Proofs.Ytdenlinehjigaaa
open Go.RowKit
set_option linter.unusedVariables false

theorem srcs_one {w3 : World} {B : Nat} {ca : Option Addr} {ck : Nat} {s : Src} (h : w3.heap[B]? = some (.cells #[.int .i64 s.x, .int .i64 s.y, .int .i64 s.pw, .slice ca s.chs.length ck, .int .i64 s.per, .int .i64 s.fr, .int .i64 s.to] 49 (0, 0))) (hz : IntsIn w3 ca s.chs.length s.chs) : SrcsIn w3 (some ⟨B, 0, none⟩) 1 [s] := ⟨rfl, fun i hi => by
  obtain rfl : i = 0 := by omega
  obtain ⟨c0, c1, c2, c3, c4, c5, c6⟩ := seven_cells h
  exact ⟨_, 0, ca, ck, rfl, hz, c0, c1, c2, c3, c4, c5, c6⟩⟩
theorem onP (u : World) (ca : Option Addr) (ck : Nat) (s : Src) (hz : IntsIn u ca s.chs.length s.chs) (hl : s.chs.length ≤ 40) (p : Past u) (a b : Int) (v : Bool) (h : onB s a b = v) :
    Calls Try.prog 31 #[.agg #[.int .i64 s.x, .int .i64 s.y, .int .i64 s.pw, .slice ca s.chs.length ck, .int .i64 s.per, .int .i64 s.fr, .int .i64 s.to], .int .i64 a, .int .i64 b] p.u fun e w' => e = .returned (.bool v) ∧ Fr no p.u w' := by
  subst h
  exact on_any ca ck s a b p.u (hz.kept p.h) hl
theorem three_cellsT {w : World} {B T : Nat} {a b c : Value} (h : w.heap[B]? = some (.cells #[a, b, c] T (0, 0))) :
    w.cell? ⟨B, 0, none⟩ = some a ∧ w.cell? ⟨B, 1, none⟩ = some b ∧ w.cell? ⟨B, 2, none⟩ = some c := by
  simp [World.cell?, h]
theorem one_len {s : Src} (h : s.chs.length ≤ 40) : ∀ i, i < 1 → (srAt [s] i).chs.length ≤ 40 := fun i hi => by
  obtain rfl : i = 0 := by omega
  exact h
theorem duV_0 {s : Src} (h : srB s = false) : duV s = 0 := by simp [duV, h]
set_option maxHeartbeats 16000000 in
theorem parts_law (ca : Option Addr) (ck : Nat) (s : Src) (f m t : Int) (w : World) (hz : IntsIn w ca s.chs.length s.chs) :
    Calls Try.prog 7 #[.agg #[.int .i64 s.x, .int .i64 s.y, .int .i64 s.pw, .slice ca s.chs.length ck, .int .i64 s.per, .int .i64 s.fr, .int .i64 s.to], .agg #[.int .i64 f, .int .i64 m, .int .i64 t]] w fun e w' => e = .returned (.bool true) ∧ Fr no w w' := by
  have hB := box2 w (.cells #[.int .i64 s.x, .int .i64 s.y, .int .i64 s.pw, .slice ca s.chs.length ck, .int .i64 s.per, .int .i64 s.fr, .int .i64 s.to] 49 (0, 0)) (.cells #[.int .i64 f, .int .i64 m, .int .i64 t] 63 (0, 0))
  obtain ⟨W, hW⟩ : ∃ W, W = (w.alloc (.cells #[.int .i64 s.x, .int .i64 s.y, .int .i64 s.pw, .slice ca s.chs.length ck, .int .i64 s.per, .int .i64 s.fr, .int .i64 s.to] 49 (0, 0))).alloc (.cells #[.int .i64 f, .int .i64 m, .int .i64 t] 63 (0, 0)) := ⟨_, rfl⟩
  rw [← hW] at hB
  have HB := Lib.hid hB
  have HW := Lib.hid hW
  have HZ := Lib.hid (hz.kept hB.f)
  clear hB hW hz
  go_enter Try.func7, Try.ntmps7
  go_wp2_with fail
  rw [← HW.out]
  refine (awake6_any W).mono ?_
  rintro e w1 ⟨rfl, f1⟩
  have HB1 := Lib.hid (HB.out.kept f1)
  have HZ1 := Lib.hid (HZ.out.kept f1)
  clear f1 HZ HB HW
  go_wp2_with fail
  have y0 : ∀ p : Past w1, p.u.cell? ⟨w.heap.size + 1, 0, none⟩ = some (.int .i64 f) := fun p => (three_cellsT (HB1.out.kept p.h).x).1
  have y1 : ∀ p : Past w1, p.u.cell? ⟨w.heap.size + 1, 1, none⟩ = some (.int .i64 m) := fun p => (three_cellsT (HB1.out.kept p.h).x).2.1
  have y2 : ∀ p : Past w1, p.u.cell? ⟨w.heap.size + 1, 2, none⟩ = some (.int .i64 t) := fun p => (three_cellsT (HB1.out.kept p.h).x).2.2
  refine wp_region_past (by kernel_rfl) (by kernel_rfl) ?_
  repeat (go_big_quiet_step (first | rfl))
  refine wpQuiet_nil ?_
  intro u hp
  have hu := past_out hp
  have HB2 := Lib.hid (HB1.out.kept hu)
  have HZ2 := Lib.hid (HZ1.out.kept hu)
  clear hp hu y0 y1 y2 HZ1 HB1
  obtain ⟨s0, s1, s2, s3, s4, s5, s6⟩ := seven_cells HB2.out.s
  by_cases gl : 20 < s.chs.length
  · have gli : (20 : Int) < (s.chs.length : Int) := by omega
    go_wp2_with fail
    go_ret
    exact ⟨rfl, HB2.out.f⟩
  have gli : (s.chs.length : Int) ≤ 20 := by omega
  have HLN := Lib.hid (show s.chs.length ≤ 40 by omega)
  clear gl
  by_cases g0 : f < 0
  · go_wp2_with fail
    go_ret
    exact ⟨rfl, HB2.out.f⟩
  have g0 : 0 ≤ f := by omega
  by_cases g1 : m < f
  · go_wp2_with fail
    go_ret
    exact ⟨rfl, HB2.out.f⟩
  have g1 : f ≤ m := by omega
  by_cases g2 : t < m
  · go_wp2_with fail
    go_ret
    exact ⟨rfl, HB2.out.f⟩
  have g2 : m ≤ t := by omega
  by_cases g3 : 1099511627776 ≤ t
  · go_wp2_with fail
    go_ret
    exact ⟨rfl, HB2.out.f⟩
  have g3 : t < 1099511627776 := by omega
  obtain ⟨pA, pD⟩ := on_parts (s := s) g0 g1 g2 g3
  go_wp2_with fail
  have z0 : ∀ p : Past u, p.u.cell? ⟨w.heap.size, 0, none⟩ = some (.int .i64 s.x) := fun p => (seven_cells (HB2.out.kept p.h).s).1
  have z1 : ∀ p : Past u, p.u.cell? ⟨w.heap.size, 1, none⟩ = some (.int .i64 s.y) := fun p => (seven_cells (HB2.out.kept p.h).s).2.1
  have z2 : ∀ p : Past u, p.u.cell? ⟨w.heap.size, 2, none⟩ = some (.int .i64 s.pw) := fun p => (seven_cells (HB2.out.kept p.h).s).2.2.1
  have z3 : ∀ p : Past u, p.u.cell? ⟨w.heap.size, 3, none⟩ = some (.slice ca s.chs.length ck) := fun p => (seven_cells (HB2.out.kept p.h).s).2.2.2.1
  have z4 : ∀ p : Past u, p.u.cell? ⟨w.heap.size, 4, none⟩ = some (.int .i64 s.per) := fun p => (seven_cells (HB2.out.kept p.h).s).2.2.2.2.1
  have z5 : ∀ p : Past u, p.u.cell? ⟨w.heap.size, 5, none⟩ = some (.int .i64 s.fr) := fun p => (seven_cells (HB2.out.kept p.h).s).2.2.2.2.2.1
  have z6 : ∀ p : Past u, p.u.cell? ⟨w.heap.size, 6, none⟩ = some (.int .i64 s.to) := fun p => (seven_cells (HB2.out.kept p.h).s).2.2.2.2.2.2
  have HON := Lib.hid (onP u ca ck s HZ2.out HLN.out)
  clear s0 s1 s2 s3 s4 s5 s6 gli
  obtain ⟨v1, e1⟩ : ∃ v, onB s f m = v := ⟨_, rfl⟩
  obtain ⟨v2, e2⟩ : ∃ v, onB s m t = v := ⟨_, rfl⟩
  rw [e1, e2] at pA
  cases v1
  · have pA : onB s f t = v2 := pA
    refine wp_region_past (by kernel_rfl) (by kernel_rfl) ?_
    repeat (go_big_quiet_step (first | rfl | (go_at_call 31; refine past_of (HON.out _ _ _ _ (by first | assumption | (rw [hm]; assumption))))))
    refine wpQuiet_nil ?_
    intro u2 hp
    have hu := past_out hp
    have HB3 := Lib.hid (HB2.out.kept hu)
    have HZ3 := Lib.hid (HZ2.out.kept hu)
    clear hp hu z0 z1 z2 z3 z4 z5 z6 HON HZ2 HB2
    obtain ⟨s0, s1, s2, s3, s4, s5, s6⟩ := seven_cells HB3.out.s
    obtain ⟨w3, hw3⟩ : ∃ w3, w3 = u2.alloc (.cells #[.int .i64 s.x, .int .i64 s.y, .int .i64 s.pw, .slice ca s.chs.length ck, .int .i64 s.per, .int .i64 s.fr, .int .i64 s.to] 49 (0, 0)) := ⟨_, rfl⟩
    have f3 : Fr no u2 w3 := by rw [hw3]; exact (Fr.refl no u2).alloc _
    have h3 := show w3.heap[u2.heap.size]? = some (.cells #[.int .i64 s.x, .int .i64 s.y, .int .i64 s.pw, .slice ca s.chs.length ck, .int .i64 s.per, .int .i64 s.fr, .int .i64 s.to] 49 (0, 0)) by rw [hw3]; exact heap_alloc_new u2 _
    have HW3 := Lib.hid hw3
    have HB4 := Lib.hid (HB3.out.kept f3)
    have HZ4 := Lib.hid (HZ3.out.kept f3)
    have HK := checkS_any (some ⟨u2.heap.size, 0, none⟩) 1 1 none 0 0 [s] [] w3 (srcs_one h3 HZ4.out) ⟨rfl, fun i hi => absurd hi (by omega)⟩ (one_len HLN.out)
    rw [ck_one] at HK
    clear hw3 h3 f3 HZ3 HB3
    cases hsr : srB s
    · rw [hsr] at HK
      have HK := Lib.hid (show Calls Try.prog 29 _ _ (fun e w' => e = .returned (.int .i64 1) ∧ Fr no w3 w') from HK)
      have eA := onB_1 (a := f) (b := t) hsr
      have eD := duV_0 hsr
      clear hsr
      go_wp2_with fail
      rw [← HW3.out]
      refine HK.out.mono ?_
      rintro e w4 ⟨rfl, f4⟩
      have HB5 := Lib.hid (HB4.out.kept f4)
      have HZ5 := Lib.hid (HZ4.out.kept f4)
      clear f4 s0 s1 s2 s3 s4 s5 s6
      obtain ⟨s0, s1, s2, s3, s4, s5, s6⟩ := seven_cells HB5.out.s
      have HC := on_any ca ck s f t w4 HZ5.out HLN.out
      rw [eA] at HC
      have HC := Lib.hid HC
      go_wp2_with fail
      refine HC.out.mono ?_
      rintro e w5 ⟨rfl, f5⟩
      have HB6 := Lib.hid (HB5.out.kept f5)
      have HZ6 := Lib.hid (HZ5.out.kept f5)
      clear f5 s0 s1 s2 s3 s4 s5 s6
      obtain ⟨s0, s1, s2, s3, s4, s5, s6⟩ := seven_cells HB6.out.s
      have HD := duty_any ca ck s w5 HZ6.out HLN.out
      rw [eD] at HD
      have HD := Lib.hid HD
      go_wp2_with fail
      refine HD.out.mono ?_
      rintro e w6 ⟨rfl, f6⟩
      have HF7 := Lib.hid (HB6.out.f.noTrans f6)
      clear f6 s0 s1 s2 s3 s4 s5 s6
      go_wp2_with fail
      go_ret
      exact ⟨rfl, HF7.out⟩
    · rw [hsr] at HK
      have HK := Lib.hid (show Calls Try.prog 29 _ _ (fun e w' => e = .returned (.int .i64 0) ∧ Fr no w3 w') from HK)
      obtain ⟨p1, p2, f0, ft, tp⟩ := (srB_t hsr).1
      have o1 := on_one hsr g0 (by omega)
      have o2 := on_turn hsr g0
      have o3 := fun t => on_some (s := s) (f := f) (t := t)
      have q0 : 0 ≤ f % s.per := Int.emod_nonneg f (by omega)
      have q1 : f % s.per < s.per := Int.emod_lt_of_pos f (by omega)
      have O1 := Lib.hid o1
      have O2 := Lib.hid o2
      have O3 := Lib.hid o3
      clear hsr o1 o2 o3 pA pD e1 e2
      go_wp2_with fail
      rw [← HW3.out]
      refine HK.out.mono ?_
      rintro e w4 ⟨rfl, f4⟩
      have HB5 := Lib.hid (HB4.out.kept f4)
      have HZ5 := Lib.hid (HZ4.out.kept f4)
      clear f4 s0 s1 s2 s3 s4 s5 s6 HB4 HZ4 HK HW3
      obtain ⟨s0, s1, s2, s3, s4, s5, s6⟩ := seven_cells HB5.out.s
      go_wp2_with fail
      have z0 : ∀ p : Past w4, p.u.cell? ⟨w.heap.size, 0, none⟩ = some (.int .i64 s.x) := fun p => (seven_cells (HB5.out.kept p.h).s).1
      have z1 : ∀ p : Past w4, p.u.cell? ⟨w.heap.size, 1, none⟩ = some (.int .i64 s.y) := fun p => (seven_cells (HB5.out.kept p.h).s).2.1
      have z2 : ∀ p : Past w4, p.u.cell? ⟨w.heap.size, 2, none⟩ = some (.int .i64 s.pw) := fun p => (seven_cells (HB5.out.kept p.h).s).2.2.1
      have z3 : ∀ p : Past w4, p.u.cell? ⟨w.heap.size, 3, none⟩ = some (.slice ca s.chs.length ck) := fun p => (seven_cells (HB5.out.kept p.h).s).2.2.2.1
      have z4 : ∀ p : Past w4, p.u.cell? ⟨w.heap.size, 4, none⟩ = some (.int .i64 s.per) := fun p => (seven_cells (HB5.out.kept p.h).s).2.2.2.2.1
      have z5 : ∀ p : Past w4, p.u.cell? ⟨w.heap.size, 5, none⟩ = some (.int .i64 s.fr) := fun p => (seven_cells (HB5.out.kept p.h).s).2.2.2.2.2.1
      have z6 : ∀ p : Past w4, p.u.cell? ⟨w.heap.size, 6, none⟩ = some (.int .i64 s.to) := fun p => (seven_cells (HB5.out.kept p.h).s).2.2.2.2.2.2
      have HON := Lib.hid (onP w4 ca ck s HZ5.out HLN.out)
      clear s0 s1 s2 s3 s4 s5 s6
      have P1 := O1.out
      generalize f % s.per = r at *
      have hr : (s.fr ≤ r ∧ r < s.to) ∨ (s.fr ≤ r ∧ s.to ≤ r) ∨ r < s.fr := by omega
      have hq : (s.to ≤ s.fr ∧ f + s.per ≤ 1099511627776) ∨ (s.to ≤ s.fr ∧ 1099511627776 < f + s.per) ∨ (s.fr < s.to ∧ f + s.per ≤ 1099511627776) ∨ (s.fr < s.to ∧ 1099511627776 < f + s.per) := by omega
      rcases hr with ⟨r1, r2⟩ | ⟨r1, r2⟩ | r1
      · have P1 : onB s f (f + 1) = true := by rw [P1, decide_eq_true r1, decide_eq_true r2]; rfl
        have d1 : decide (s.fr ≤ r) = true := decide_eq_true (by omega)
        have d2 : decide (r < s.to) = true := decide_eq_true (by omega)
        rcases hq with ⟨h1, h2⟩ | ⟨h1, h2⟩ | ⟨h1, h2⟩ | ⟨h1, h2⟩
        · exfalso; omega
        · exfalso; omega
        · have d3 : decide (s.fr < s.to) = true := decide_eq_true h1
          have d4 : decide (f + s.per ≤ 1099511627776) = true := decide_eq_true h2
          have hm : (if 1099511627776 < f + s.per then 1099511627776 else f + s.per) = f + s.per := if_neg (by omega)
          have P2 : onB s f (f + s.per) = true := by rw [O2.out h2]; exact decide_eq_true h1
          clear O1 O2 O3
          refine wp_region_past (by kernel_rfl) (by kernel_rfl) ?_
          repeat (go_big_quiet_step (first | rfl | (go_at_call 31; refine past_of (HON.out _ _ _ _ (by first | assumption | (rw [hm]; assumption))))))
          refine wpQuiet_nil ?_
          intro u9 hp
          have hu := past_out hp
          have HF9 := Lib.hid (HB5.out.f.noTrans hu)
          clear hp hu z0 z1 z2 z3 z4 z5 z6
          go_wp2_with fail
          go_ret
          exact ⟨rfl, HF9.out⟩
        · have d3 : decide (s.fr < s.to) = true := decide_eq_true h1
          have d4 : decide (f + s.per ≤ 1099511627776) = false := decide_eq_false (by omega)
          have hm : (if 1099511627776 < f + s.per then 1099511627776 else f + s.per) = 1099511627776 := if_pos (by omega)
          obtain ⟨v3, P2⟩ : ∃ v, onB s f 1099511627776 = v := ⟨_, rfl⟩
          clear O1 O2 O3
          refine wp_region_past (by kernel_rfl) (by kernel_rfl) ?_
          repeat (go_big_quiet_step (first | rfl | (go_at_call 31; refine past_of (HON.out _ _ _ _ (by first | assumption | (rw [hm]; assumption))))))
          refine wpQuiet_nil ?_
          intro u9 hp
          have hu := past_out hp
          have HF9 := Lib.hid (HB5.out.f.noTrans hu)
          clear hp hu z0 z1 z2 z3 z4 z5 z6
          go_wp2_with fail
          go_ret
          exact ⟨rfl, HF9.out⟩
      · have P1 : onB s f (f + 1) = false := by rw [P1, decide_eq_true r1, decide_eq_false (show ¬ r < s.to by omega)]; rfl
        have d1 : decide (s.fr ≤ r) = true := decide_eq_true (by omega)
        have d2 : decide (r < s.to) = false := decide_eq_false (by omega)
        rcases hq with ⟨h1, h2⟩ | ⟨h1, h2⟩ | ⟨h1, h2⟩ | ⟨h1, h2⟩
        · have d3 : decide (s.fr < s.to) = false := decide_eq_false (by omega)
          have d4 : decide (f + s.per ≤ 1099511627776) = true := decide_eq_true h2
          have hm : (if 1099511627776 < f + s.per then 1099511627776 else f + s.per) = f + s.per := if_neg (by omega)
          have P2 : onB s f (f + s.per) = false := O3.out _ (by omega)
          clear O1 O2 O3
          refine wp_region_past (by kernel_rfl) (by kernel_rfl) ?_
          repeat (go_big_quiet_step (first | rfl | (go_at_call 31; refine past_of (HON.out _ _ _ _ (by first | assumption | (rw [hm]; assumption))))))
          refine wpQuiet_nil ?_
          intro u9 hp
          have hu := past_out hp
          have HF9 := Lib.hid (HB5.out.f.noTrans hu)
          clear hp hu z0 z1 z2 z3 z4 z5 z6
          go_wp2_with fail
          go_ret
          exact ⟨rfl, HF9.out⟩
        · have d3 : decide (s.fr < s.to) = false := decide_eq_false (by omega)
          have d4 : decide (f + s.per ≤ 1099511627776) = false := decide_eq_false (by omega)
          have hm : (if 1099511627776 < f + s.per then 1099511627776 else f + s.per) = 1099511627776 := if_pos (by omega)
          have P2 : onB s f 1099511627776 = false := O3.out _ (by omega)
          clear O1 O2 O3
          refine wp_region_past (by kernel_rfl) (by kernel_rfl) ?_
          repeat (go_big_quiet_step (first | rfl | (go_at_call 31; refine past_of (HON.out _ _ _ _ (by first | assumption | (rw [hm]; assumption))))))
          refine wpQuiet_nil ?_
          intro u9 hp
          have hu := past_out hp
          have HF9 := Lib.hid (HB5.out.f.noTrans hu)
          clear hp hu z0 z1 z2 z3 z4 z5 z6
          go_wp2_with fail
          go_ret
          exact ⟨rfl, HF9.out⟩
        · have d3 : decide (s.fr < s.to) = true := decide_eq_true h1
          have d4 : decide (f + s.per ≤ 1099511627776) = true := decide_eq_true h2
          have hm : (if 1099511627776 < f + s.per then 1099511627776 else f + s.per) = f + s.per := if_neg (by omega)
          have P2 : onB s f (f + s.per) = true := by rw [O2.out h2]; exact decide_eq_true h1
          clear O1 O2 O3
          refine wp_region_past (by kernel_rfl) (by kernel_rfl) ?_
          repeat (go_big_quiet_step (first | rfl | (go_at_call 31; refine past_of (HON.out _ _ _ _ (by first | assumption | (rw [hm]; assumption))))))
          refine wpQuiet_nil ?_
          intro u9 hp
          have hu := past_out hp
          have HF9 := Lib.hid (HB5.out.f.noTrans hu)
          clear hp hu z0 z1 z2 z3 z4 z5 z6
          go_wp2_with fail
          go_ret
          exact ⟨rfl, HF9.out⟩
        · have d3 : decide (s.fr < s.to) = true := decide_eq_true h1
          have d4 : decide (f + s.per ≤ 1099511627776) = false := decide_eq_false (by omega)
          have hm : (if 1099511627776 < f + s.per then 1099511627776 else f + s.per) = 1099511627776 := if_pos (by omega)
          obtain ⟨v3, P2⟩ : ∃ v, onB s f 1099511627776 = v := ⟨_, rfl⟩
          clear O1 O2 O3
          refine wp_region_past (by kernel_rfl) (by kernel_rfl) ?_
          repeat (go_big_quiet_step (first | rfl | (go_at_call 31; refine past_of (HON.out _ _ _ _ (by first | assumption | (rw [hm]; assumption))))))
          refine wpQuiet_nil ?_
          intro u9 hp
          have hu := past_out hp
          have HF9 := Lib.hid (HB5.out.f.noTrans hu)
          clear hp hu z0 z1 z2 z3 z4 z5 z6
          go_wp2_with fail
          go_ret
          exact ⟨rfl, HF9.out⟩
      · have P1 : onB s f (f + 1) = false := by rw [P1, decide_eq_false (show ¬ s.fr ≤ r by omega)]; rfl
        have d1 : decide (s.fr ≤ r) = false := decide_eq_false (by omega)
        rcases hq with ⟨h1, h2⟩ | ⟨h1, h2⟩ | ⟨h1, h2⟩ | ⟨h1, h2⟩
        · have d3 : decide (s.fr < s.to) = false := decide_eq_false (by omega)
          have d4 : decide (f + s.per ≤ 1099511627776) = true := decide_eq_true h2
          have hm : (if 1099511627776 < f + s.per then 1099511627776 else f + s.per) = f + s.per := if_neg (by omega)
          have P2 : onB s f (f + s.per) = false := O3.out _ (by omega)
          clear O1 O2 O3
          refine wp_region_past (by kernel_rfl) (by kernel_rfl) ?_
          repeat (go_big_quiet_step (first | rfl | (go_at_call 31; refine past_of (HON.out _ _ _ _ (by first | assumption | (rw [hm]; assumption))))))
          refine wpQuiet_nil ?_
          intro u9 hp
          have hu := past_out hp
          have HF9 := Lib.hid (HB5.out.f.noTrans hu)
          clear hp hu z0 z1 z2 z3 z4 z5 z6
          go_wp2_with fail
          go_ret
          exact ⟨rfl, HF9.out⟩
        · have d3 : decide (s.fr < s.to) = false := decide_eq_false (by omega)
          have d4 : decide (f + s.per ≤ 1099511627776) = false := decide_eq_false (by omega)
          have hm : (if 1099511627776 < f + s.per then 1099511627776 else f + s.per) = 1099511627776 := if_pos (by omega)
          have P2 : onB s f 1099511627776 = false := O3.out _ (by omega)
          clear O1 O2 O3
          refine wp_region_past (by kernel_rfl) (by kernel_rfl) ?_
          repeat (go_big_quiet_step (first | rfl | (go_at_call 31; refine past_of (HON.out _ _ _ _ (by first | assumption | (rw [hm]; assumption))))))
          refine wpQuiet_nil ?_
          intro u9 hp
          have hu := past_out hp
          have HF9 := Lib.hid (HB5.out.f.noTrans hu)
          clear hp hu z0 z1 z2 z3 z4 z5 z6
          go_wp2_with fail
          go_ret
          exact ⟨rfl, HF9.out⟩
        · have d3 : decide (s.fr < s.to) = true := decide_eq_true h1
          have d4 : decide (f + s.per ≤ 1099511627776) = true := decide_eq_true h2
          have hm : (if 1099511627776 < f + s.per then 1099511627776 else f + s.per) = f + s.per := if_neg (by omega)
          have P2 : onB s f (f + s.per) = true := by rw [O2.out h2]; exact decide_eq_true h1
          clear O1 O2 O3
          refine wp_region_past (by kernel_rfl) (by kernel_rfl) ?_
          repeat (go_big_quiet_step (first | rfl | (go_at_call 31; refine past_of (HON.out _ _ _ _ (by first | assumption | (rw [hm]; assumption))))))
          refine wpQuiet_nil ?_
          intro u9 hp
          have hu := past_out hp
          have HF9 := Lib.hid (HB5.out.f.noTrans hu)
          clear hp hu z0 z1 z2 z3 z4 z5 z6
          go_wp2_with fail
          go_ret
          exact ⟨rfl, HF9.out⟩
        · have d3 : decide (s.fr < s.to) = true := decide_eq_true h1
          have d4 : decide (f + s.per ≤ 1099511627776) = false := decide_eq_false (by omega)
          have hm : (if 1099511627776 < f + s.per then 1099511627776 else f + s.per) = 1099511627776 := if_pos (by omega)
          obtain ⟨v3, P2⟩ : ∃ v, onB s f 1099511627776 = v := ⟨_, rfl⟩
          clear O1 O2 O3
          refine wp_region_past (by kernel_rfl) (by kernel_rfl) ?_
          repeat (go_big_quiet_step (first | rfl | (go_at_call 31; refine past_of (HON.out _ _ _ _ (by first | assumption | (rw [hm]; assumption))))))
          refine wpQuiet_nil ?_
          intro u9 hp
          have hu := past_out hp
          have HF9 := Lib.hid (HB5.out.f.noTrans hu)
          clear hp hu z0 z1 z2 z3 z4 z5 z6
          go_wp2_with fail
          go_ret
          exact ⟨rfl, HF9.out⟩
  · have pA : onB s f t = true := pA
    refine wp_region_past (by kernel_rfl) (by kernel_rfl) ?_
    repeat (go_big_quiet_step (first | rfl | (go_at_call 31; refine past_of (HON.out _ _ _ _ (by first | assumption | (rw [hm]; assumption))))))
    refine wpQuiet_nil ?_
    intro u2 hp
    have hu := past_out hp
    have HB3 := Lib.hid (HB2.out.kept hu)
    have HZ3 := Lib.hid (HZ2.out.kept hu)
    clear hp hu z0 z1 z2 z3 z4 z5 z6 HON HZ2 HB2
    obtain ⟨s0, s1, s2, s3, s4, s5, s6⟩ := seven_cells HB3.out.s
    obtain ⟨w3, hw3⟩ : ∃ w3, w3 = u2.alloc (.cells #[.int .i64 s.x, .int .i64 s.y, .int .i64 s.pw, .slice ca s.chs.length ck, .int .i64 s.per, .int .i64 s.fr, .int .i64 s.to] 49 (0, 0)) := ⟨_, rfl⟩
    have f3 : Fr no u2 w3 := by rw [hw3]; exact (Fr.refl no u2).alloc _
    have h3 := show w3.heap[u2.heap.size]? = some (.cells #[.int .i64 s.x, .int .i64 s.y, .int .i64 s.pw, .slice ca s.chs.length ck, .int .i64 s.per, .int .i64 s.fr, .int .i64 s.to] 49 (0, 0)) by rw [hw3]; exact heap_alloc_new u2 _
    have HW3 := Lib.hid hw3
    have HB4 := Lib.hid (HB3.out.kept f3)
    have HZ4 := Lib.hid (HZ3.out.kept f3)
    have HK := checkS_any (some ⟨u2.heap.size, 0, none⟩) 1 1 none 0 0 [s] [] w3 (srcs_one h3 HZ4.out) ⟨rfl, fun i hi => absurd hi (by omega)⟩ (one_len HLN.out)
    rw [ck_one] at HK
    clear hw3 h3 f3 HZ3 HB3
    cases hsr : srB s
    · rw [hsr] at HK
      have HK := Lib.hid (show Calls Try.prog 29 _ _ (fun e w' => e = .returned (.int .i64 1) ∧ Fr no w3 w') from HK)
      have eA := onB_1 (a := f) (b := t) hsr
      have eD := duV_0 hsr
      clear hsr
      go_wp2_with fail
      rw [← HW3.out]
      refine HK.out.mono ?_
      rintro e w4 ⟨rfl, f4⟩
      have HB5 := Lib.hid (HB4.out.kept f4)
      have HZ5 := Lib.hid (HZ4.out.kept f4)
      clear f4 s0 s1 s2 s3 s4 s5 s6
      obtain ⟨s0, s1, s2, s3, s4, s5, s6⟩ := seven_cells HB5.out.s
      have HC := on_any ca ck s f t w4 HZ5.out HLN.out
      rw [eA] at HC
      have HC := Lib.hid HC
      go_wp2_with fail
      refine HC.out.mono ?_
      rintro e w5 ⟨rfl, f5⟩
      have HB6 := Lib.hid (HB5.out.kept f5)
      have HZ6 := Lib.hid (HZ5.out.kept f5)
      clear f5 s0 s1 s2 s3 s4 s5 s6
      obtain ⟨s0, s1, s2, s3, s4, s5, s6⟩ := seven_cells HB6.out.s
      have HD := duty_any ca ck s w5 HZ6.out HLN.out
      rw [eD] at HD
      have HD := Lib.hid HD
      go_wp2_with fail
      refine HD.out.mono ?_
      rintro e w6 ⟨rfl, f6⟩
      have HF7 := Lib.hid (HB6.out.f.noTrans f6)
      clear f6 s0 s1 s2 s3 s4 s5 s6
      go_wp2_with fail
      go_ret
      exact ⟨rfl, HF7.out⟩
    · rw [hsr] at HK
      have HK := Lib.hid (show Calls Try.prog 29 _ _ (fun e w' => e = .returned (.int .i64 0) ∧ Fr no w3 w') from HK)
      obtain ⟨p1, p2, f0, ft, tp⟩ := (srB_t hsr).1
      have o1 := on_one hsr g0 (by omega)
      have o2 := on_turn hsr g0
      have o3 := fun t => on_some (s := s) (f := f) (t := t)
      have q0 : 0 ≤ f % s.per := Int.emod_nonneg f (by omega)
      have q1 : f % s.per < s.per := Int.emod_lt_of_pos f (by omega)
      have O1 := Lib.hid o1
      have O2 := Lib.hid o2
      have O3 := Lib.hid o3
      clear hsr o1 o2 o3 pA pD e1 e2
      go_wp2_with fail
      rw [← HW3.out]
      refine HK.out.mono ?_
      rintro e w4 ⟨rfl, f4⟩
      have HB5 := Lib.hid (HB4.out.kept f4)
      have HZ5 := Lib.hid (HZ4.out.kept f4)
      clear f4 s0 s1 s2 s3 s4 s5 s6 HB4 HZ4 HK HW3
      obtain ⟨s0, s1, s2, s3, s4, s5, s6⟩ := seven_cells HB5.out.s
      go_wp2_with fail
      have z0 : ∀ p : Past w4, p.u.cell? ⟨w.heap.size, 0, none⟩ = some (.int .i64 s.x) := fun p => (seven_cells (HB5.out.kept p.h).s).1
      have z1 : ∀ p : Past w4, p.u.cell? ⟨w.heap.size, 1, none⟩ = some (.int .i64 s.y) := fun p => (seven_cells (HB5.out.kept p.h).s).2.1
      have z2 : ∀ p : Past w4, p.u.cell? ⟨w.heap.size, 2, none⟩ = some (.int .i64 s.pw) := fun p => (seven_cells (HB5.out.kept p.h).s).2.2.1
      have z3 : ∀ p : Past w4, p.u.cell? ⟨w.heap.size, 3, none⟩ = some (.slice ca s.chs.length ck) := fun p => (seven_cells (HB5.out.kept p.h).s).2.2.2.1
      have z4 : ∀ p : Past w4, p.u.cell? ⟨w.heap.size, 4, none⟩ = some (.int .i64 s.per) := fun p => (seven_cells (HB5.out.kept p.h).s).2.2.2.2.1
      have z5 : ∀ p : Past w4, p.u.cell? ⟨w.heap.size, 5, none⟩ = some (.int .i64 s.fr) := fun p => (seven_cells (HB5.out.kept p.h).s).2.2.2.2.2.1
      have z6 : ∀ p : Past w4, p.u.cell? ⟨w.heap.size, 6, none⟩ = some (.int .i64 s.to) := fun p => (seven_cells (HB5.out.kept p.h).s).2.2.2.2.2.2
      have HON := Lib.hid (onP w4 ca ck s HZ5.out HLN.out)
      clear s0 s1 s2 s3 s4 s5 s6
      have P1 := O1.out
      generalize f % s.per = r at *
      have hr : (s.fr ≤ r ∧ r < s.to) ∨ (s.fr ≤ r ∧ s.to ≤ r) ∨ r < s.fr := by omega
      have hq : (s.to ≤ s.fr ∧ f + s.per ≤ 1099511627776) ∨ (s.to ≤ s.fr ∧ 1099511627776 < f + s.per) ∨ (s.fr < s.to ∧ f + s.per ≤ 1099511627776) ∨ (s.fr < s.to ∧ 1099511627776 < f + s.per) := by omega
      rcases hr with ⟨r1, r2⟩ | ⟨r1, r2⟩ | r1
      · have P1 : onB s f (f + 1) = true := by rw [P1, decide_eq_true r1, decide_eq_true r2]; rfl
        have d1 : decide (s.fr ≤ r) = true := decide_eq_true (by omega)
        have d2 : decide (r < s.to) = true := decide_eq_true (by omega)
        rcases hq with ⟨h1, h2⟩ | ⟨h1, h2⟩ | ⟨h1, h2⟩ | ⟨h1, h2⟩
        · exfalso; omega
        · exfalso; omega
        · have d3 : decide (s.fr < s.to) = true := decide_eq_true h1
          have d4 : decide (f + s.per ≤ 1099511627776) = true := decide_eq_true h2
          have hm : (if 1099511627776 < f + s.per then 1099511627776 else f + s.per) = f + s.per := if_neg (by omega)
          have P2 : onB s f (f + s.per) = true := by rw [O2.out h2]; exact decide_eq_true h1
          clear O1 O2 O3
          refine wp_region_past (by kernel_rfl) (by kernel_rfl) ?_
          repeat (go_big_quiet_step (first | rfl | (go_at_call 31; refine past_of (HON.out _ _ _ _ (by first | assumption | (rw [hm]; assumption))))))
          refine wpQuiet_nil ?_
          intro u9 hp
          have hu := past_out hp
          have HF9 := Lib.hid (HB5.out.f.noTrans hu)
          clear hp hu z0 z1 z2 z3 z4 z5 z6
          go_wp2_with fail
          go_ret
          exact ⟨rfl, HF9.out⟩
        · have d3 : decide (s.fr < s.to) = true := decide_eq_true h1
          have d4 : decide (f + s.per ≤ 1099511627776) = false := decide_eq_false (by omega)
          have hm : (if 1099511627776 < f + s.per then 1099511627776 else f + s.per) = 1099511627776 := if_pos (by omega)
          obtain ⟨v3, P2⟩ : ∃ v, onB s f 1099511627776 = v := ⟨_, rfl⟩
          clear O1 O2 O3
          refine wp_region_past (by kernel_rfl) (by kernel_rfl) ?_
          repeat (go_big_quiet_step (first | rfl | (go_at_call 31; refine past_of (HON.out _ _ _ _ (by first | assumption | (rw [hm]; assumption))))))
          refine wpQuiet_nil ?_
          intro u9 hp
          have hu := past_out hp
          have HF9 := Lib.hid (HB5.out.f.noTrans hu)
          clear hp hu z0 z1 z2 z3 z4 z5 z6
          go_wp2_with fail
          go_ret
          exact ⟨rfl, HF9.out⟩
      · have P1 : onB s f (f + 1) = false := by rw [P1, decide_eq_true r1, decide_eq_false (show ¬ r < s.to by omega)]; rfl
        have d1 : decide (s.fr ≤ r) = true := decide_eq_true (by omega)
        have d2 : decide (r < s.to) = false := decide_eq_false (by omega)
        rcases hq with ⟨h1, h2⟩ | ⟨h1, h2⟩ | ⟨h1, h2⟩ | ⟨h1, h2⟩
        · have d3 : decide (s.fr < s.to) = false := decide_eq_false (by omega)
          have d4 : decide (f + s.per ≤ 1099511627776) = true := decide_eq_true h2
          have hm : (if 1099511627776 < f + s.per then 1099511627776 else f + s.per) = f + s.per := if_neg (by omega)
          have P2 : onB s f (f + s.per) = false := O3.out _ (by omega)
          clear O1 O2 O3
          refine wp_region_past (by kernel_rfl) (by kernel_rfl) ?_
          repeat (go_big_quiet_step (first | rfl | (go_at_call 31; refine past_of (HON.out _ _ _ _ (by first | assumption | (rw [hm]; assumption))))))
          refine wpQuiet_nil ?_
          intro u9 hp
          have hu := past_out hp
          have HF9 := Lib.hid (HB5.out.f.noTrans hu)
          clear hp hu z0 z1 z2 z3 z4 z5 z6
          go_wp2_with fail
          go_ret
          exact ⟨rfl, HF9.out⟩
        · have d3 : decide (s.fr < s.to) = false := decide_eq_false (by omega)
          have d4 : decide (f + s.per ≤ 1099511627776) = false := decide_eq_false (by omega)
          have hm : (if 1099511627776 < f + s.per then 1099511627776 else f + s.per) = 1099511627776 := if_pos (by omega)
          have P2 : onB s f 1099511627776 = false := O3.out _ (by omega)
          clear O1 O2 O3
          refine wp_region_past (by kernel_rfl) (by kernel_rfl) ?_
          repeat (go_big_quiet_step (first | rfl | (go_at_call 31; refine past_of (HON.out _ _ _ _ (by first | assumption | (rw [hm]; assumption))))))
          refine wpQuiet_nil ?_
          intro u9 hp
          have hu := past_out hp
          have HF9 := Lib.hid (HB5.out.f.noTrans hu)
          clear hp hu z0 z1 z2 z3 z4 z5 z6
          go_wp2_with fail
          go_ret
          exact ⟨rfl, HF9.out⟩
        · have d3 : decide (s.fr < s.to) = true := decide_eq_true h1
          have d4 : decide (f + s.per ≤ 1099511627776) = true := decide_eq_true h2
          have hm : (if 1099511627776 < f + s.per then 1099511627776 else f + s.per) = f + s.per := if_neg (by omega)
          have P2 : onB s f (f + s.per) = true := by rw [O2.out h2]; exact decide_eq_true h1
          clear O1 O2 O3
          refine wp_region_past (by kernel_rfl) (by kernel_rfl) ?_
          repeat (go_big_quiet_step (first | rfl | (go_at_call 31; refine past_of (HON.out _ _ _ _ (by first | assumption | (rw [hm]; assumption))))))
          refine wpQuiet_nil ?_
          intro u9 hp
          have hu := past_out hp
          have HF9 := Lib.hid (HB5.out.f.noTrans hu)
          clear hp hu z0 z1 z2 z3 z4 z5 z6
          go_wp2_with fail
          go_ret
          exact ⟨rfl, HF9.out⟩
        · have d3 : decide (s.fr < s.to) = true := decide_eq_true h1
          have d4 : decide (f + s.per ≤ 1099511627776) = false := decide_eq_false (by omega)
          have hm : (if 1099511627776 < f + s.per then 1099511627776 else f + s.per) = 1099511627776 := if_pos (by omega)
          obtain ⟨v3, P2⟩ : ∃ v, onB s f 1099511627776 = v := ⟨_, rfl⟩
          clear O1 O2 O3
          refine wp_region_past (by kernel_rfl) (by kernel_rfl) ?_
          repeat (go_big_quiet_step (first | rfl | (go_at_call 31; refine past_of (HON.out _ _ _ _ (by first | assumption | (rw [hm]; assumption))))))
          refine wpQuiet_nil ?_
          intro u9 hp
          have hu := past_out hp
          have HF9 := Lib.hid (HB5.out.f.noTrans hu)
          clear hp hu z0 z1 z2 z3 z4 z5 z6
          go_wp2_with fail
          go_ret
          exact ⟨rfl, HF9.out⟩
      · have P1 : onB s f (f + 1) = false := by rw [P1, decide_eq_false (show ¬ s.fr ≤ r by omega)]; rfl
        have d1 : decide (s.fr ≤ r) = false := decide_eq_false (by omega)
        rcases hq with ⟨h1, h2⟩ | ⟨h1, h2⟩ | ⟨h1, h2⟩ | ⟨h1, h2⟩
        · have d3 : decide (s.fr < s.to) = false := decide_eq_false (by omega)
          have d4 : decide (f + s.per ≤ 1099511627776) = true := decide_eq_true h2
          have hm : (if 1099511627776 < f + s.per then 1099511627776 else f + s.per) = f + s.per := if_neg (by omega)
          have P2 : onB s f (f + s.per) = false := O3.out _ (by omega)
          clear O1 O2 O3
          refine wp_region_past (by kernel_rfl) (by kernel_rfl) ?_
          repeat (go_big_quiet_step (first | rfl | (go_at_call 31; refine past_of (HON.out _ _ _ _ (by first | assumption | (rw [hm]; assumption))))))
          refine wpQuiet_nil ?_
          intro u9 hp
          have hu := past_out hp
          have HF9 := Lib.hid (HB5.out.f.noTrans hu)
          clear hp hu z0 z1 z2 z3 z4 z5 z6
          go_wp2_with fail
          go_ret
          exact ⟨rfl, HF9.out⟩
        · have d3 : decide (s.fr < s.to) = false := decide_eq_false (by omega)
          have d4 : decide (f + s.per ≤ 1099511627776) = false := decide_eq_false (by omega)
          have hm : (if 1099511627776 < f + s.per then 1099511627776 else f + s.per) = 1099511627776 := if_pos (by omega)
          have P2 : onB s f 1099511627776 = false := O3.out _ (by omega)
          clear O1 O2 O3
          refine wp_region_past (by kernel_rfl) (by kernel_rfl) ?_
          repeat (go_big_quiet_step (first | rfl | (go_at_call 31; refine past_of (HON.out _ _ _ _ (by first | assumption | (rw [hm]; assumption))))))
          refine wpQuiet_nil ?_
          intro u9 hp
          have hu := past_out hp
          have HF9 := Lib.hid (HB5.out.f.noTrans hu)
          clear hp hu z0 z1 z2 z3 z4 z5 z6
          go_wp2_with fail
          go_ret
          exact ⟨rfl, HF9.out⟩
        · have d3 : decide (s.fr < s.to) = true := decide_eq_true h1
          have d4 : decide (f + s.per ≤ 1099511627776) = true := decide_eq_true h2
          have hm : (if 1099511627776 < f + s.per then 1099511627776 else f + s.per) = f + s.per := if_neg (by omega)
          have P2 : onB s f (f + s.per) = true := by rw [O2.out h2]; exact decide_eq_true h1
          clear O1 O2 O3
          refine wp_region_past (by kernel_rfl) (by kernel_rfl) ?_
          repeat (go_big_quiet_step (first | rfl | (go_at_call 31; refine past_of (HON.out _ _ _ _ (by first | assumption | (rw [hm]; assumption))))))
          refine wpQuiet_nil ?_
          intro u9 hp
          have hu := past_out hp
          have HF9 := Lib.hid (HB5.out.f.noTrans hu)
          clear hp hu z0 z1 z2 z3 z4 z5 z6
          go_wp2_with fail
          go_ret
          exact ⟨rfl, HF9.out⟩
        · have d3 : decide (s.fr < s.to) = true := decide_eq_true h1
          have d4 : decide (f + s.per ≤ 1099511627776) = false := decide_eq_false (by omega)
          have hm : (if 1099511627776 < f + s.per then 1099511627776 else f + s.per) = 1099511627776 := if_pos (by omega)
          obtain ⟨v3, P2⟩ : ∃ v, onB s f 1099511627776 = v := ⟨_, rfl⟩
          clear O1 O2 O3
          refine wp_region_past (by kernel_rfl) (by kernel_rfl) ?_
          repeat (go_big_quiet_step (first | rfl | (go_at_call 31; refine past_of (HON.out _ _ _ _ (by first | assumption | (rw [hm]; assumption))))))
          refine wpQuiet_nil ?_
          intro u9 hp
          have hu := past_out hp
          have HF9 := Lib.hid (HB5.out.f.noTrans hu)
          clear hp hu z0 z1 z2 z3 z4 z5 z6
          go_wp2_with fail
          go_ret
          exact ⟨rfl, HF9.out⟩
end Go.Proofs.Ytdenlinehjigaaa
