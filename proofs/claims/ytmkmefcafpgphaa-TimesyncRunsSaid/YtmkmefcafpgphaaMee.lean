/- Of a correction: facts. -/
import Derived.Test.YtmkmefcafpgphaaSyh
namespace Go.Proofs.Ytmkmefcafpgphaa
set_option linter.unusedVariables false
open Go.RowKit


theorem in_ok {o d s x : Int} (h : inE o d s x = 0) : OkC o d ∧ okC o d = true ∧ (0 ≤ s ∧ s ≤ 109951162) ∧ inV o d s x = rch o d (s * 10000 + x) ∧ (0 ≤ inV o d s x ∧ inV o d s x ≤ 1099511627776) ∧ Rc o d (s * 10000 + x) (inV o d s x) := by
  by_cases hc : csE o d s = 0
  · obtain ⟨hk, hi⟩ := csE_0' hc
    by_cases hl : sh o d 1099511627776 < s * 10000 + x
    · simp [inE, hc, rcE, hl] at h
    · have e : inV o d s x = rch o d (s * 10000 + x) := by simp [inV, hc, rcV, hl]
      have hr := rch_rc o d (s * 10000 + x) (OkC.of hk).d1
      have h2 : ¬ rch o d (s * 10000 + x) > 1099511627776 := fun h => hl ((rc_late hr).1 h)
      rw [e]
      exact ⟨OkC.of hk, hk, inR_t.1 hi, rfl, ⟨hr.lo, by omega⟩, hr⟩
  · simp [inE, hc] at h
theorem sh_next {o d t : Int} (h1 : d ≤ 100000) : sh o d t ≤ sh o d (t - 1) + 2 := by
  have e : t * d = (t - 1) * d + d := by rw [Int.sub_mul, Int.one_mul]; omega
  unfold sh fl
  rw [e]
  omega
theorem near {o d s : Int} (h : inE o d s 2120 = 0) (hv : 0 < inV o d s 2120) : s * 10000 + 2120 ≤ sh o d (inV o d s 2120) ∧ sh o d (inV o d s 2120) ≤ s * 10000 + 2121 := by
  obtain ⟨k, -, -, -, ⟨v0, v1⟩, r⟩ := in_ok h
  have h3 := r.after _ (Int.le_refl _) v1
  have h4 := r.before (inV o d s 2120 - 1) (by omega) (by omega)
  have h5 := sh_next (o := o) (t := inV o d s 2120) k.d2
  omega
theorem adE_c (o d b : Int) : adE o d b = 0 ∨ adE o d b = 1 := by unfold adE; split <;> simp
theorem co_c {o d s c sl df : Int} (h : coE o d s c sl df ≠ 0) : coE o d s c sl df = 5 ∨ coE o d s c sl df = 15 ∨ coE o d s c sl df = 13 ∨ coE o d s c sl df = 1 := by
  unfold coE at h ⊢
  by_cases h1 : sl ≤ s
  · simp [h1]
  · by_cases h2 : inR df (-4999) 4999 = true
    · by_cases h3 : c = 4096
      · simp [h1, h2, h3]
      · simp only [h1, h2, h3, if_true, if_false] at h ⊢
        rcases adE_c o d df with e | e
        · exact absurd e h
        · simp [e]
    · simp [h1, h2]
theorem co_0 {o d s c sl df : Int} (h : coE o d s c sl df = 0) : okC (o + df) d = true ∧ coO o d s c sl df = o + df ∧ coD o d s c sl df = d ∧ coS o d s c sl df = sl ∧ coC o d s c sl df = c + 1 := by
  refine ⟨?_, by simp [coO, h], by simp [coD, h], by simp [coS, h], by simp [coC, h]⟩
  unfold coE at h
  by_cases h1 : sl ≤ s
  · simp [h1] at h
  · by_cases h2 : inR df (-4999) 4999 = true
    · by_cases h3 : c = 4096
      · simp [h1, h2, h3] at h
      · simp only [h1, h2, h3, if_true, if_false] at h
        unfold adE at h
        cases x : adB o d df
        · rw [x] at h; cases h
        · unfold adB at x
          exact (Bool.and_eq_true_iff.1 x).2
    · simp [h1, h2] at h
theorem hear_0 {o d s c sl t : Int} (hk : okS o d s c = true) (hm : meE o d sl t = 0) : heE o d s c sl t = coE o d s c sl (-meV o d sl t) ∧ heZ o d s c sl t = true := by simp [heE, heZ, hk, hm]
theorem acked_0 {o d s c sl df : Int} (hk : okS o d s c = true) (hs : isS sl = true) : acE o d s c sl df = coE o d s c sl df ∧ acZ o d s c sl = true := by simp [acE, acZ, hk, hs]
theorem me_0 {o d s t : Int} (h1 : okC o d = true) (h2 : isS s = true) (h3 : isT t = true) : meE o d s t = 0 ∧ meV o d s t = sh o d t - (s * 10000 + 2120) := by simp [meE, meV, h1, h2, h3]
theorem ap_0 {oa da ob db t : Int} (h1 : okC oa da = true) (h2 : okC ob db = true) (h3 : isT t = true) : apE oa da ob db t = 0 ∧ apV oa da ob db t = sh ob db t - sh oa da t := by simp [apE, apV, h1, h2, h3]
theorem sh_off {o d t b : Int} : sh (o + b) d t = sh o d t + b := by unfold sh; omega
theorem two_sync (w : World) (o d s c a b e f : Int) : ∃ W, W = (w.alloc (.cells #[.int .i64 o, .int .i64 d, .int .i64 s, .int .i64 c] 25 (0, 0))).alloc (.cells #[.int .i64 a, .int .i64 b, .int .i64 e, .int .i64 f] 25 (0, 0)) ∧ Fr no w W ∧
    (W.cell? ⟨w.heap.size, 0, none⟩ = some (.int .i64 o) ∧ W.cell? ⟨w.heap.size, 1, none⟩ = some (.int .i64 d) ∧ W.cell? ⟨w.heap.size, 2, none⟩ = some (.int .i64 s) ∧ W.cell? ⟨w.heap.size, 3, none⟩ = some (.int .i64 c)) ∧
    (W.cell? ⟨w.heap.size + 1, 0, none⟩ = some (.int .i64 a) ∧ W.cell? ⟨w.heap.size + 1, 1, none⟩ = some (.int .i64 b) ∧ W.cell? ⟨w.heap.size + 1, 2, none⟩ = some (.int .i64 e) ∧ W.cell? ⟨w.heap.size + 1, 3, none⟩ = some (.int .i64 f)) := by
  have h1 := alloc_keeps (heap_alloc_new w (.cells #[.int .i64 o, .int .i64 d, .int .i64 s, .int .i64 c] 25 (0, 0))) (.cells #[.int .i64 a, .int .i64 b, .int .i64 e, .int .i64 f] 25 (0, 0))
  have h2 : ((w.alloc (.cells #[.int .i64 o, .int .i64 d, .int .i64 s, .int .i64 c] 25 (0, 0))).alloc (.cells #[.int .i64 a, .int .i64 b, .int .i64 e, .int .i64 f] 25 (0, 0))).heap[w.heap.size + 1]? = some (.cells #[.int .i64 a, .int .i64 b, .int .i64 e, .int .i64 f] 25 (0, 0)) := by
    simpa using heap_alloc_new (w.alloc (.cells #[.int .i64 o, .int .i64 d, .int .i64 s, .int .i64 c] 25 (0, 0))) (.cells #[.int .i64 a, .int .i64 b, .int .i64 e, .int .i64 f] 25 (0, 0))
  obtain ⟨a0, a1, a2, a3, -⟩ := four_cells h1
  obtain ⟨b0, b1, b2, b3, -⟩ := four_cells h2
  exact ⟨_, rfl, ((Fr.refl no w).alloc _).alloc _, ⟨a0, a1, a2, a3⟩, ⟨b0, b1, b2, b3⟩⟩

end Go.Proofs.Ytmkmefcafpgphaa
