/- sort.Search over a dial; when a clock reaches something. -/
import Derived.Test.YtmkmefcafpgphaaDia
import Derived.Shelf.Abstract
namespace Go.Proofs.Ytmkmefcafpgphaa
set_option linter.unusedVariables false
open Go.RowKit

theorem fl_step {a b k : Int} (hk : 0 ≤ k) (h : a - k * 1000000000 ≤ b) : fl a - k ≤ fl b := by
  unfold fl
  have h1 : (a - k * 1000000000) / 1000000000 ≤ b / 1000000000 := Int.ediv_le_ediv (by decide) h
  have h2 : (a - k * 1000000000) / 1000000000 = a / 1000000000 - k := by omega
  omega
theorem mul_step {d t u : Int} (hd : -100000 ≤ d) (h : t ≤ u) : t * d - (u - t) * 100000 ≤ u * d := by
  have h1 : (u - t) * (-100000) ≤ (u - t) * d := Int.mul_le_mul_of_nonneg_left hd (by omega)
  have h2 : (u - t) * d = u * d - t * d := Int.sub_mul u t d
  omega
/-- A clock never goes back. -/
theorem sh_mono {o d t u : Int} (hd : -100000 ≤ d) (h : t ≤ u) : sh o d t ≤ sh o d u := by
  have h1 := mul_step hd h
  have h2 := fl_step (a := t * d) (b := u * d) (k := u - t) (by omega) (by omega)
  unfold sh
  omega
/-- r is the least time at which x is reached, or one behind all times. -/
structure Rc (o d x r : Int) : Prop where
  lo : 0 ≤ r
  hi : r ≤ 1099511627777
  before : ∀ t, 0 ≤ t → t < r → sh o d t < x
  after : ∀ t, r ≤ t → t ≤ 1099511627776 → x ≤ sh o d t
theorem Rc.unique {o d x r s : Int} (h : Rc o d x r) (k : Rc o d x s) : r = s := by
  have a1 := h.lo; have a2 := h.hi; have b1 := k.lo; have b2 := k.hi
  by_cases h1 : r < s
  · have := h.after r (by omega) (by omega)
    have := k.before r (by omega) h1
    omega
  · by_cases h2 : s < r
    · have := k.after s (by omega) (by omega)
      have := h.before s (by omega) h2
      omega
    · omega
noncomputable def rch (o d x : Int) : Int := Classical.epsilon (Rc o d x)
theorem Rc.eq {o d x r : Int} (h : Rc o d x r) : rch o d x = r := (Classical.epsilon_spec (p := Rc o d x) ⟨r, h⟩).unique h

set_option maxHeartbeats 1000000 in
theorem above_any (o d x t : Int) (bc bd bx : Nat) (w : World) (hk : OkC o d) (t0 : 0 ≤ t) (t1 : t ≤ 1099511627776)
    (c0 : w.cell? ⟨bc, 0, none⟩ = some (.int .i64 o)) (c1 : w.cell? ⟨bc, 1, none⟩ = some (.int .i64 d))
    (c2 : w.cell? ⟨bd, 0, none⟩ = some (.func (.func 73) #[] #[.pointer (some ⟨bc, 0, none⟩)])) (c3 : w.cell? ⟨bx, 0, none⟩ = some (.int .i64 x)) :
    Calls Try.prog 76 (#[.int .i64 t] ++ #[.pointer (some ⟨bd, 0, none⟩), .pointer (some ⟨bx, 0, none⟩)]) w fun e w' => e = .returned (.bool (decide (x ≤ sh o d t))) ∧ ∃ q, w' = w.drewN q := by
  have HF := Lib.hid (fun q => shows_any o d t bc (w.drewN q) hk t0 t1 (by simpa using c0) (by simpa using c1))
  clear hk c0 c1
  generalize sh o d t = y at *
  have eg : ∀ args w, (callFunc 73 args).run Try.prog w = .ok (.enter 73 args) w := Go.Proofs.enters_of Try.func73 (by kernel_rfl) rfl
  go_enter Try.func76, Try.ntmps76
  go_wp2_with fail
  go_quiet ((go_at_fn 73; refine Calls.quiet_of (HF.out _)))
  rename_i nq
  go_wp2_with fail
  go_ret
  exact ⟨rfl, _, rfl⟩

set_option maxHeartbeats 1000000 in
/-- sort.Search over the times: the least one at which the dial shows x or more. -/
theorem search_any (o d x : Int) (bc bd bx : Nat) (w : World) (hk : OkC o d)
    (c0 : w.cell? ⟨bc, 0, none⟩ = some (.int .i64 o)) (c1 : w.cell? ⟨bc, 1, none⟩ = some (.int .i64 d))
    (c2 : w.cell? ⟨bd, 0, none⟩ = some (.func (.func 73) #[] #[.pointer (some ⟨bc, 0, none⟩)])) (c3 : w.cell? ⟨bx, 0, none⟩ = some (.int .i64 x)) :
    Calls Try.prog 75 #[.int .i64 1099511627777, .func (.func 76) #[] #[.pointer (some ⟨bd, 0, none⟩), .pointer (some ⟨bx, 0, none⟩)]] w fun e w' => (e = .returned (.int .i64 (rch o d x)) ∧ Hid (Rc o d x (rch o d x))) ∧ ∃ q, w' = w.drewN q := by
  have HA := Lib.hid (fun (t : Int) q t0 t1 => above_any o d x t bc bd bx (w.drewN q) hk t0 t1 (by simpa using c0) (by simpa using c1) (by simpa using c2) (by simpa using c3))
  have HM := Lib.hid (fun t u h => sh_mono (o := o) (d := d) (t := t) (u := u) hk.d1 h)
  clear hk c0 c1 c2 c3
  have eg : ∀ args w, (callFunc 76 args).run Try.prog w = .ok (.enter 76 args) w := Go.Proofs.enters_of Try.func76 (by kernel_rfl) rfl
  go_enter Try.func75, Try.ntmps75
  go_wp2_with fail
  go_loopw [5, 6, 7] (fun s5 s6 _ wr => ∃ (lo hi : Nat) (q : Nat), s5 = .int .i64 lo ∧ s6 = .int .i64 hi ∧ lo ≤ hi ∧ hi ≤ 1099511627777 ∧ wr = w.drewN q ∧
    Hid ((∀ t : Int, 0 ≤ t → t < lo → sh o d t < x) ∧ (∀ t : Int, hi ≤ t → t ≤ 1099511627776 → x ≤ sh o d t))) (fun a b _ _ => (intOf b - intOf a).toNat)
  case atStart => exact ⟨0, 1099511627777, 0, rfl, rfl, by omega, by omega, rfl, Lib.hid ⟨fun t h1 h2 => by omega, fun t h1 h2 => by omega⟩⟩
  case round =>
    obtain ⟨lo, hi, q, rfl, rfl, hlh, hin, rfl, I⟩ := hrel
    by_cases hlt : lo < hi
    · have hm : (((lo + hi) / 2 : Nat) : Int) = ((lo : Int) + (hi : Int)) / 2 := by omega
      have hc := HA.out (((lo + hi) / 2 : Nat) : Int) q (by omega) (by omega)
      rw [hm] at hc
      by_cases hp : x ≤ sh o d (((lo : Int) + (hi : Int)) / 2)
      · rw [decide_eq_true hp] at hc
        have HP := Lib.hid hp
        have HC := Lib.hid hc
        clear hp hc hm
        go_wp2_with fail
        refine HC.out.mono ?_
        rintro e w' ⟨rfl, q2, rfl⟩
        go_wp2_with fail
        go_roundw
        case rel => exact ⟨lo, (lo + hi) / 2, q + q2, by go_num, by go_num, by omega, by omega, rfl, Lib.hid ⟨I.out.1, fun t h1 h2 => Int.le_trans HP.out (HM.out _ _ (by omega))⟩⟩
        case measure => simp [intOf]; omega
      · rw [decide_eq_false hp] at hc
        have HP := Lib.hid hp
        have HC := Lib.hid hc
        clear hp hc hm
        go_wp2_with fail
        refine HC.out.mono ?_
        rintro e w' ⟨rfl, q2, rfl⟩
        go_wp2_with fail
        go_roundw
        case rel => exact ⟨(lo + hi) / 2 + 1, hi, q + q2, by go_num, rfl, by omega, by omega, rfl, Lib.hid ⟨fun t h1 h2 => by have := HM.out t (((lo : Int) + (hi : Int)) / 2) (by omega); have := HP.out; omega, I.out.2⟩⟩
        case measure => simp [intOf]; omega
    · obtain rfl : hi = lo := by omega
      have hR : Rc o d x (hi : Int) := ⟨by omega, by omega, I.out.1, I.out.2⟩
      have HE := Lib.hid hR.eq
      have HR := Lib.hid hR
      clear hR
      go_wp2_with fail
      go_ret
      rw [HE.out]
      exact ⟨⟨rfl, HR⟩, _, rfl⟩

/-- What Reach answers of a valid clock: value and error. -/
noncomputable def rcV (o d x : Int) : Int := if sh o d 1099511627776 < x then 0 else rch o d x
def rcE (o d x : Int) : Int := if sh o d 1099511627776 < x then 15 else 0
theorem rc_late {o d x r : Int} (h : Rc o d x r) : r > 1099511627776 ↔ sh o d 1099511627776 < x := by
  constructor
  · intro hr
    exact h.before _ (by omega) (by omega)
  · intro hx
    by_cases hr : r > 1099511627776
    · exact hr
    · have := h.after 1099511627776 (by omega) (by omega)
      omega
theorem rc_of {o d x : Int} (h : Rc o d x (rch o d x)) : (rch o d x > 1099511627776 → rcV o d x = 0 ∧ rcE o d x = 15) ∧ (rch o d x ≤ 1099511627776 → rcV o d x = rch o d x ∧ rcE o d x = 0) := by
  have := rc_late h
  unfold rcV rcE
  constructor
  · intro h1
    simp [this.1 h1]
  · intro h1
    have : ¬ sh o d 1099511627776 < x := fun hx => by have := this.2 hx; omega
    simp [this]
set_option maxHeartbeats 1000000 in
/-- dial.reach -/
theorem dreach_any (o d x : Int) (bc : Nat) (w : World) (hk : OkC o d)
    (c0 : w.cell? ⟨bc, 0, none⟩ = some (.int .i64 o)) (c1 : w.cell? ⟨bc, 1, none⟩ = some (.int .i64 d)) :
    Calls Try.prog 59 #[.agg #[.func (.func 73) #[] #[.pointer (some ⟨bc, 0, none⟩)]], .int .i64 x] w fun e w' => e = .returned (.tuple #[.int .i64 (rcV o d x), .int .i64 (rcE o d x)]) ∧ Fr no w w' := by
  obtain ⟨W, hW⟩ : ∃ W, W = (w.alloc (.cells #[.func (.func 73) #[] #[.pointer (some ⟨bc, 0, none⟩)]] 79 (0, 0))).alloc (.cells #[.int .i64 x] 3 (0, 0)) := ⟨_, rfl⟩
  have hF : Fr no w W := by rw [hW]; exact ((Fr.refl no w).alloc _).alloc _
  have b1 : W.heap[w.heap.size]? = some (.cells #[.func (.func 73) #[] #[.pointer (some ⟨bc, 0, none⟩)]] 79 (0, 0)) := by rw [hW]; exact alloc_keeps (heap_alloc_new w _) _
  have b2 : W.heap[w.heap.size + 1]? = some (.cells #[.int .i64 x] 3 (0, 0)) := by rw [hW]; simpa using heap_alloc_new (w.alloc (.cells #[.func (.func 73) #[] #[.pointer (some ⟨bc, 0, none⟩)]] 79 (0, 0))) (.cells #[.int .i64 x] 3 (0, 0))
  have HS := Lib.hid (search_any o d x bc w.heap.size (w.heap.size + 1) W hk (hF.keepc c0) (hF.keepc c1) (by simp [World.cell?, b1]) (by simp [World.cell?, b2]))
  have HW := Lib.hid hW
  have HF := Lib.hid hF
  clear hW hF b1 b2 c0 c1 hk
  go_enter Try.func59, Try.ntmps59
  go_wp2_with fail
  rw [← HW.out]
  refine HS.out.mono ?_
  rintro e w' ⟨⟨rfl, HR⟩, q, rfl⟩
  obtain ⟨hA, hB⟩ := rc_of HR.out
  have h0 := HR.out.lo
  have h1 := HR.out.hi
  generalize rch o d x = r at *
  by_cases hl : r > 1099511627776
  · have HA := Lib.hid (hA hl)
    clear hA hB HR
    go_wp2_with fail
    go_ret2
    rw [HA.out.1, HA.out.2]
    exact ⟨rfl, HF.out.drewN _⟩
  · have HB := Lib.hid (hB (by omega))
    clear hA hB HR
    go_wp2_with fail
    go_ret2
    rw [HB.out.1, HB.out.2]
    exact ⟨rfl, HF.out.drewN _⟩
end Go.Proofs.Ytmkmefcafpgphaa
