/- Duty; On by the document; Few. -/
import Derived.Test.YtdenlinehjigaaaOnn
namespace Go.Proofs.Ytdenlinehjigaaa
open Go.RowKit
set_option linter.unusedVariables false

def duV (s : Src) : Int := if srB s then (s.to - s.fr) * 1000 / s.per else 0
theorem mul_k {n : Int} (h0 : 0 ≤ n) (h1 : n ≤ 1000000000) : 0 ≤ n * 1000 ∧ n * 1000 ≤ 1000000000000 := by omega
set_option maxHeartbeats 4000000 in
theorem duty_any (ca : Option Addr) (ck : Nat) (s : Src) (w : World) (hz : IntsIn w ca s.chs.length s.chs) (hl : s.chs.length ≤ 40) : Calls Try.prog 33 #[.agg #[.int .i64 s.x, .int .i64 s.y, .int .i64 s.pw, .slice ca s.chs.length ck, .int .i64 s.per, .int .i64 s.fr, .int .i64 s.to]] w fun e w' => e = .returned (.int .i64 (duV s)) ∧ Fr no w w' := by
  have HS := Lib.hid (fun w h => isSource_any ca ck s w h hl)
  have HB := Lib.hid (show duV s = if srB s then (s.to - s.fr) * 1000 / s.per else 0 from rfl)
  have HT := Lib.hid (fun (h : srB s = true) => (srB_t h).1)
  obtain ⟨x, y, pw, chs, per, fr, to⟩ := s
  simp only at hz hl HS HB HT ⊢
  obtain ⟨cl, hcl⟩ : ∃ cl, cl = chs.length := ⟨_, rfl⟩
  rw [← hcl] at HS hz ⊢
  clear hcl hl
  obtain ⟨W, hW⟩ : ∃ W, W = w.alloc (.cells #[.int .i64 x, .int .i64 y, .int .i64 pw, .slice ca cl ck, .int .i64 per, .int .i64 fr, .int .i64 to] 49 (0, 0)) := ⟨_, rfl⟩
  have hF : Fr no w W := by rw [hW]; exact (Fr.refl no w).alloc _
  have h1 : W.heap[w.heap.size]? = some (.cells #[.int .i64 x, .int .i64 y, .int .i64 pw, .slice ca cl ck, .int .i64 per, .int .i64 fr, .int .i64 to] 49 (0, 0)) := by rw [hW]; exact heap_alloc_new w _
  obtain ⟨c0, c1, c2, c3, c4, c5, c6⟩ := seven_cells h1
  have HF := Lib.hid hF
  have HW := Lib.hid hW
  have H1 := Lib.hid h1
  clear hW h1
  have HK := HS.out W (hz.kept HF.out)
  clear hz hF
  generalize srB ⟨x, y, pw, chs, per, fr, to⟩ = A at *
  cases A
  · have HK := Lib.hid HK
    go_enter Try.func33, Try.ntmps33
    go_wp2_with fail
    rw [← HW.out]
    refine HK.out.mono ?_
    rintro e w1 ⟨rfl, f1⟩
    go_wp2_with fail
    go_ret
    rw [HB.out]
    exact ⟨rfl, HF.out.noTrans f1⟩
  · have HK := Lib.hid HK
    obtain ⟨p1, p2, q0, q1, q2⟩ := HT.out rfl
    have q3 : 0 ≤ to - fr := by omega
    have q4 : 0 ≤ (to - fr) * 1000 := by omega
    have HC := Lib.hid (Int.mul_comm 1000 (to - fr))
    go_enter Try.func33, Try.ntmps33
    go_wp2_with fail
    rw [← HW.out]
    refine HK.out.mono ?_
    rintro e w1 ⟨rfl, f1⟩
    obtain ⟨d0, d1, d2, d3, d4, d5, d6⟩ := seven_cells (f1.blk H1.out (fun h => h))
    have HF1 := Lib.hid (HF.out.noTrans f1)
    clear f1 c0 c1 c2 c3 c4 c5 c6
    go_wp2_with fail
    go_ret
    rw [HB.out]
    exact ⟨by first | rfl | (simp; done) | (simp only [HC.out]; rfl) | (rw [← HC.out]; rfl), HF1.out⟩
set_option maxHeartbeats 4000000 in
theorem dutyR_any (ca : Option Addr) (ck : Nat) (s : Src) (w : World) (hz : IntsIn w ca s.chs.length s.chs) (hl : s.chs.length ≤ 40) : Calls Try.prog 34 #[.agg #[.int .i64 s.x, .int .i64 s.y, .int .i64 s.pw, .slice ca s.chs.length ck, .int .i64 s.per, .int .i64 s.fr, .int .i64 s.to]] w fun e w' => e = .returned (.int .i64 (duV s)) ∧ Fr no w w' := by
  have HS := Lib.hid (fun w h => sourceR_any ca ck s w h hl)
  have HB := Lib.hid (show duV s = if srB s then (s.to - s.fr) * 1000 / s.per else 0 from rfl)
  have HT := Lib.hid (fun (h : srB s = true) => (srB_t h).1)
  obtain ⟨x, y, pw, chs, per, fr, to⟩ := s
  simp only at hz hl HS HB HT ⊢
  obtain ⟨cl, hcl⟩ : ∃ cl, cl = chs.length := ⟨_, rfl⟩
  rw [← hcl] at HS hz ⊢
  clear hcl hl
  obtain ⟨W, hW⟩ : ∃ W, W = w.alloc (.cells #[.int .i64 x, .int .i64 y, .int .i64 pw, .slice ca cl ck, .int .i64 per, .int .i64 fr, .int .i64 to] 49 (0, 0)) := ⟨_, rfl⟩
  have hF : Fr no w W := by rw [hW]; exact (Fr.refl no w).alloc _
  have h1 : W.heap[w.heap.size]? = some (.cells #[.int .i64 x, .int .i64 y, .int .i64 pw, .slice ca cl ck, .int .i64 per, .int .i64 fr, .int .i64 to] 49 (0, 0)) := by rw [hW]; exact heap_alloc_new w _
  obtain ⟨c0, c1, c2, c3, c4, c5, c6⟩ := seven_cells h1
  have HF := Lib.hid hF
  have HW := Lib.hid hW
  have H1 := Lib.hid h1
  clear hW h1
  have HK := HS.out W (hz.kept HF.out)
  clear hz hF
  generalize srB ⟨x, y, pw, chs, per, fr, to⟩ = A at *
  cases A
  · have HK := Lib.hid HK
    go_enter Try.func34, Try.ntmps34
    go_wp2_with fail
    rw [← HW.out]
    refine HK.out.mono ?_
    rintro e w1 ⟨rfl, f1⟩
    go_wp2_with fail
    go_ret
    rw [HB.out]
    exact ⟨rfl, HF.out.noTrans f1⟩
  · have HK := Lib.hid HK
    obtain ⟨p1, p2, q0, q1, q2⟩ := HT.out rfl
    have q3 : 0 ≤ to - fr := by omega
    have q4 : 0 ≤ (to - fr) * 1000 := by omega
    have HC := Lib.hid (Int.mul_comm 1000 (to - fr))
    go_enter Try.func34, Try.ntmps34
    go_wp2_with fail
    rw [← HW.out]
    refine HK.out.mono ?_
    rintro e w1 ⟨rfl, f1⟩
    obtain ⟨d0, d1, d2, d3, d4, d5, d6⟩ := seven_cells (f1.blk H1.out (fun h => h))
    have HF1 := Lib.hid (HF.out.noTrans f1)
    clear f1 c0 c1 c2 c3 c4 c5 c6
    go_wp2_with fail
    go_ret
    rw [HB.out]
    exact ⟨by first | rfl | (simp; done) | (simp only [HC.out]; rfl) | (rw [← HC.out]; rfl), HF1.out⟩
theorem onB_1 {s : Src} {a b : Int} (h : srB s = false) : onB s a b = false := by simp [onB, h]
theorem onB_2 {s : Src} {a b : Int} (h : srB s = true) (h2 : ivB a b = false) : onB s a b = false := by simp [onB, h2]
theorem onB_3 {s : Src} {a b : Int} (h : srB s = true) (h2 : ivB a b = true) : onB s a b = (decide (s.fr ≠ s.to) && decide (a ≠ b) && decide (onFi s.per s.fr s.to a (a % s.per) < b)) := by
  rw [← meB_eq (srB_t h).1 (ivB_t h2)]; simp [onB, h, h2]
set_option maxHeartbeats 4000000 in
theorem onR_any (ca : Option Addr) (ck : Nat) (s : Src) (a b : Int) (w : World) (hz : IntsIn w ca s.chs.length s.chs) (hl : s.chs.length ≤ 40) : Calls Try.prog 32 #[.agg #[.int .i64 s.x, .int .i64 s.y, .int .i64 s.pw, .slice ca s.chs.length ck, .int .i64 s.per, .int .i64 s.fr, .int .i64 s.to], .int .i64 a, .int .i64 b] w fun e w' => e = .returned (.bool (onB s a b)) ∧ Fr no w w' := by
  have HS := Lib.hid (fun w h => sourceR_any ca ck s w h hl)
  have HB1 := Lib.hid (fun h => onB_1 (s := s) (a := a) (b := b) h)
  have HB2 := Lib.hid (fun h h2 => onB_2 (s := s) (a := a) (b := b) h h2)
  have HB3 := Lib.hid (fun h h2 => onB_3 (s := s) (a := a) (b := b) h h2)
  have HT := Lib.hid (fun (h : srB s = true) => (srB_t h).1)
  generalize onB s a b = R at *
  obtain ⟨x, y, pw, chs, per, fr, to⟩ := s
  simp only at hz hl HS HB1 HB2 HB3 HT ⊢
  obtain ⟨cl, hcl⟩ : ∃ cl, cl = chs.length := ⟨_, rfl⟩
  rw [← hcl] at HS hz ⊢
  clear hcl hl
  obtain ⟨W, hW⟩ : ∃ W, W = w.alloc (.cells #[.int .i64 x, .int .i64 y, .int .i64 pw, .slice ca cl ck, .int .i64 per, .int .i64 fr, .int .i64 to] 49 (0, 0)) := ⟨_, rfl⟩
  have hF : Fr no w W := by rw [hW]; exact (Fr.refl no w).alloc _
  have h1 : W.heap[w.heap.size]? = some (.cells #[.int .i64 x, .int .i64 y, .int .i64 pw, .slice ca cl ck, .int .i64 per, .int .i64 fr, .int .i64 to] 49 (0, 0)) := by rw [hW]; exact heap_alloc_new w _
  obtain ⟨c0, c1, c2, c3, c4, c5, c6⟩ := seven_cells h1
  have HF := Lib.hid hF
  have HW := Lib.hid hW
  have H1 := Lib.hid h1
  clear hW h1
  have HK := HS.out W (hz.kept HF.out)
  clear hz hF
  generalize srB ⟨x, y, pw, chs, per, fr, to⟩ = A at *
  cases A
  · have HK := Lib.hid HK
    have HR := Lib.hid (HB1.out rfl)
    clear HB1 HB2 HB3
    go_enter Try.func32, Try.ntmps32
    go_wp2_with fail
    rw [← HW.out]
    refine HK.out.mono ?_
    rintro e w1 ⟨rfl, f1⟩
    go_wp2_with fail
    go_ret
    rw [HR.out]
    exact ⟨rfl, HF.out.noTrans f1⟩
  · have HK := Lib.hid HK
    obtain ⟨p1, p2, q0, q1, q2⟩ := HT.out rfl
    cases hiv : ivB a b
    · have HV := intervalR_any a b
      have HR := Lib.hid (HB2.out rfl hiv)
      rw [hiv] at HV
      have HV := Lib.hid HV
      clear hiv HB1 HB2 HB3
      go_enter Try.func32, Try.ntmps32
      go_wp2_with fail
      rw [← HW.out]
      refine HK.out.mono ?_
      rintro e w1 ⟨rfl, f1⟩
      go_wp2_with fail
      refine (HV.out _).mono ?_
      rintro e w2 ⟨rfl, rfl⟩
      go_wp2_with fail
      go_ret
      rw [HR.out]
      exact ⟨rfl, HF.out.noTrans f1⟩
    · have HV := intervalR_any a b
      have HR := Lib.hid (HB3.out rfl hiv)
      obtain ⟨a0, ab, b1⟩ := ivB_t hiv
      rw [hiv] at HV
      have HV := Lib.hid HV
      clear hiv HB1 HB2 HB3
      have r0 : 0 ≤ a % per := Int.emod_nonneg a (by omega)
      have r1 : a % per < per := Int.emod_lt_of_pos a (by omega)
      go_enter Try.func32, Try.ntmps32
      go_wp2_with fail
      rw [← HW.out]
      refine HK.out.mono ?_
      rintro e w1 ⟨rfl, f1⟩
      obtain ⟨d0, d1, d2, d3, d4, d5, d6⟩ := seven_cells (f1.blk H1.out (fun h => h))
      have HF1 := Lib.hid (HF.out.noTrans f1)
      clear f1 c0 c1 c2 c3 c4 c5 c6
      go_wp2_with (go_at_call 87; refine (HV.out _).mono ?_; rintro e w2 ⟨rfl, rfl⟩)
      all_goals go_ret
      all_goals rw [HR.out]
      all_goals clear HR
      all_goals generalize a % per = p at *
      all_goals refine ⟨congrArg Ending.returned (congrArg Value.bool ?_), HF1.out⟩
      all_goals unfold onFi
      all_goals (rw [Bool.eq_iff_iff]; simp only [Bool.and_eq_true, decide_eq_true_eq, beq_iff_eq, beq_eq_false_iff_ne, ne_eq, Bool.false_eq_true, false_iff] at *)
      all_goals (repeat' split)
      all_goals omega
def fewB (l0 l1 : Nat) (ss : List Src) : Bool := decide (l0 ≤ 20) && decide (l1 ≤ 70) && ss.all (fun s => decide (s.chs.length ≤ 20))
def shB (s : Src) : Bool := decide (s.chs.length ≤ 20)
set_option maxHeartbeats 8000000 in
theorem fewS_any (a0 : Option Addr) (l0 k0 : Nat) (a1 : Option Addr) (l1 k1 : Nat) (ss : List Src) (w : World) (hs : SrcsIn w a0 l0 ss) :
    Calls Try.prog 28 #[.agg #[.slice a0 l0 k0, .slice a1 l1 k1]] w fun e w' => e = .returned (.bool (fewB l0 l1 ss)) ∧ Fr no w w' := by
  obtain ⟨W, hW⟩ : ∃ W, W = w.alloc (.cells #[.slice a0 l0 k0, .slice a1 l1 k1] 47 (0, 0)) := ⟨_, rfl⟩
  have hF : Fr no w W := by rw [hW]; exact (Fr.refl no w).alloc _
  have h1 : W.heap[w.heap.size]? = some (.cells #[.slice a0 l0 k0, .slice a1 l1 k1] 47 (0, 0)) := by rw [hW]; exact heap_alloc_new w _
  obtain ⟨c0, c1⟩ := two_cells h1
  have HS := Lib.hid (hs.kept hF)
  have HSL := Lib.hid hs.1
  have HF := Lib.hid hF
  have HW := Lib.hid hW
  clear hs hF h1 hW
  by_cases g0 : 20 < l0
  · have HR := Lib.hid (show fewB l0 l1 ss = false by simp [fewB]; omega)
    have g0d : decide ((20 : Int) < (l0 : Int)) = true := decide_eq_true (by omega)
    clear g0
    go_enter Try.func28, Try.ntmps28
    go_wp2_with fail
    go_ret
    rw [HR.out, ← HW.out]
    exact ⟨rfl, HF.out⟩
  have g0d : decide ((20 : Int) < (l0 : Int)) = false := decide_eq_false (by omega)
  by_cases g1 : 70 < l1
  · have HR := Lib.hid (show fewB l0 l1 ss = false by simp [fewB]; omega)
    have g1d : decide ((70 : Int) < (l1 : Int)) = true := decide_eq_true (by omega)
    clear g0 g1
    go_enter Try.func28, Try.ntmps28
    go_wp2_with fail
    go_ret
    rw [HR.out, ← HW.out]
    exact ⟨rfl, HF.out⟩
  have g1d : decide ((70 : Int) < (l1 : Int)) = false := decide_eq_false (by omega)
  have HR := Lib.hid (show fewB l0 l1 ss = ss.all shB by
    have q0 : l0 ≤ 20 := by omega
    have q1 : l1 ≤ 70 := by omega
    simp only [fewB, q0, q1, decide_true, Bool.true_and]
    rfl)
  have g0i : (l0 : Int) ≤ 20 := by omega
  clear g0 g1
  go_enter Try.func28, Try.ntmps28
  go_wp2_with fail
  rw [← HW.out]
  go_loopw [3] (fun i wr => ∃ k : Nat, k ≤ l0 ∧ i = .int .i64 k ∧ Hid ((ss.take k).all shB = true) ∧ Hid (Fr no W wr)) (fun i _ => l0 - (intOf i).toNat)
  case atStart => exact ⟨0, Nat.zero_le _, rfl, Lib.hid (by simp), Lib.hid (Fr.refl _ _)⟩
  case round =>
    obtain ⟨k, hk, rfl, HA, F⟩ := hrel
    have d0 := F.out.keepc c0
    clear c0 c1
    by_cases hlt : k < l0
    · obtain ⟨b, off, ca, ck, rfl, hI, e0, e1, e2, e3, e4, e5, e6⟩ := (HS.out.kept F.out).2 k hlt
      have HT := Lib.hid (all_take shB ⟨0, 0, 0, [], 0, 0, 0⟩ ss k (by have := HSL.out; omega))
      have HN := Lib.hid (all_no shB ⟨0, 0, 0, [], 0, 0, 0⟩ ss k (by have := HSL.out; omega))
      have hkn : (k : Int) < (l0 : Int) := by omega
      have HG := Lib.hid (show ss.getD k ⟨0, 0, 0, [], 0, 0, 0⟩ = srAt ss k from rfl)
      rw [HG.out] at HT HN
      have HX := Lib.hid (show shB (srAt ss k) = decide ((srAt ss k).chs.length ≤ 20) from rfl)
      generalize srAt ss k = s at *
      generalize s.chs.length = cl at *
      clear hI HG e0 e1 e2 e4 e5 e6
      by_cases hp : cl ≤ 20
      · have HV := Lib.hid (show (ss.take (k + 1)).all shB = true by rw [HT.out, HA.out, HX.out, decide_eq_true hp]; rfl)
        have hpi : (cl : Int) ≤ 20 := by omega
        clear hp
        go_wp2_with fail
        go_roundw
        case rel => exact ⟨k + 1, by omega, by go_num, HV, F⟩
        case measure => simp [intOf]; omega
      · have HV := Lib.hid (HN.out (by rw [HX.out]; exact decide_eq_false hp))
        have hpi : (20 : Int) < (cl : Int) := by omega
        clear hp
        go_wp2_with fail
        go_ret
        rw [HR.out, HV.out]
        exact ⟨rfl, HF.out.noTrans F.out⟩
    · have HV := Lib.hid (show ss.all shB = true by have := HA.out; rwa [List.take_of_length_le (by have := HSL.out; omega)] at this)
      go_wp2_with fail
      go_ret
      rw [HR.out, HV.out]
      exact ⟨rfl, HF.out.noTrans F.out⟩
end Go.Proofs.Ytdenlinehjigaaa
