/- Copies of corrections; equal lists; is a node named? -/
import Derived.Test.YtmkmefcafpgphaaRun
import Derived.BigQuiet
namespace Go.Proofs.Ytmkmefcafpgphaa
set_option linter.unusedVariables false
open Go.RowKit

def snVals (v : Sn) : List Value := [.int .i64 v.n, .int .i64 v.s, .bool v.a]
def flatN (l : List Sn) : List Value := l.flatMap snVals
theorem flatN_len (l : List Sn) : (flatN l).length = l.length * 3 := by
  induction l with
  | nil => rfl
  | cons v l ih => simp only [flatN, List.flatMap_cons, List.length_append] at *; rw [ih]; simp [snVals]; omega
theorem flatN_at (l : List Sn) (i j : Nat) (hi : i < l.length) (hj : j < 3) : (flatN l)[i * 3 + j]? = (snVals (snAt l i))[j]? := by
  induction l generalizing i with
  | nil => simp at hi
  | cons v l ih =>
    simp only [flatN, List.flatMap_cons] at *
    cases i with
    | zero =>
      rw [Nat.zero_mul, Nat.zero_add, List.getElem?_append_left (by simpa [snVals] using hj)]
      rfl
    | succ i =>
      rw [List.getElem?_append_right (by simp [snVals]; omega), show (i + 1) * 3 + j - (snVals v).length = i * 3 + j by simp [snVals]; omega, ih i (by simpa using hi)]
      rfl
theorem flatN_one (l : List Sn) : ∀ u ∈ flatN l, u.oneCell' = true := by
  intro u hu
  simp only [flatN, List.mem_flatMap] at hu
  obtain ⟨v, _, hv⟩ := hu
  simp only [snVals, List.mem_cons, List.not_mem_nil, or_false] at hv
  rcases hv with rfl | rfl | rfl <;> rfl
theorem sns_cells {w : World} {a : Addr} {len : Nat} {l : List Sn} (h : SnsIn w (some a) len l) : ∀ j u, (flatN l)[j]? = some u → w.cell? (a.add j) = some u := fun j u hu => by
  have hl := h.1
  have hj : j < (flatN l).length := (List.getElem?_eq_some_iff.1 hu).1
  rw [flatN_len] at hj
  obtain ⟨b, off, ha, c0, c1, c2⟩ := h.2 (j / 3) (by omega)
  cases ha
  have e : j = j / 3 * 3 + j % 3 := by omega
  rw [e, flatN_at l _ _ (by omega) (by omega)] at hu
  have hadd := add_at b off j
  rw [hadd]
  have hm : j % 3 < 3 := by omega
  generalize j / 3 = q at *
  generalize j % 3 = r at *
  subst e
  rw [← Nat.add_assoc]
  match r, hm, hu with
  | 0, _, hu => exact c0.trans hu
  | 1, _, hu => exact c1.trans hu
  | 2, _, hu => exact c2.trans hu
/-- A row of states of the call's own. -/
def RowN (B : Nat) (w : World) (v : Value) (l : List Sn) : Prop := w.ownsRow B 49 3 v l.length (flatN l)
theorem RowN.kept {B : Nat} {w w' : World} {v : Value} {l : List Sn} (h : RowN B w v l) (hf : Fr no w w') : RowN B w' v l := World.ownsRow.kept h hf.growNo (Classical.em _)
theorem RowN.mono {B B' : Nat} {w : World} {v : Value} {l : List Sn} (h : RowN B w v l) (hb : B' ≤ B) : RowN B' w v l := World.ownsRow.mono h hb
theorem rowN_in {B : Nat} {w : World} {v : Value} {l : List Sn} (h : RowN B w v l) : ∃ a c, v = .slice a l.length c ∧ l.length ≤ c ∧ SnsIn w a l.length l := by
  have h' : World.ownsRow w B 49 3 v l.length (flatN l) := h
  rcases h'.2 with ⟨rfl, h0⟩ | ⟨g, cap, cur, rfl, hq1, hq2, hq3, hq4, hq5⟩
  · have hl : l.length = 0 := h0
    exact ⟨none, 0, by rw [hl], by omega, rfl, fun i hi => by omega⟩
  · refine ⟨_, _, rfl, by omega, rfl, fun i hi => ⟨g, 0, rfl, ?_⟩⟩
    have hc : ∀ j, j < 3 → w.cell? ⟨g, 0 + i * 3 + j, none⟩ = (snVals (snAt l i))[j]? := fun j hj => by
      rw [Nat.zero_add, h'.cellAt (i * 3 + j) (by omega), flatN_at l i j (by omega) hj]
    exact ⟨hc 0 (by omega), hc 1 (by omega), hc 2 (by omega)⟩
theorem info49 : (Try.prog.info? 49).map (fun i => (i.zero, i.size, i.bytes)) = some (some (.agg #[.int .i64 0, .int .i64 0, .bool false]), 3, 24) := by kernel_rfl
def CloneN (w w' : World) (l : List Sn) (e : Ending) : Prop := ∃ v, e = .returned v ∧ RowN w.heap.size w' v l ∧ Fr no w w'
set_option maxHeartbeats 2000000 in
theorem cloneN_some (a : Addr) (len cap : Nat) (l : List Sn) (w : World) (hl : l.length = len) (hl2 : len ≤ 40) (hc : ∀ j u, (flatN l)[j]? = some u → w.cell? (a.add j) = some u) :
    Calls Try.prog 26 #[.slice (some a) len cap] w (fun e w' => CloneN w w' l e) := by
  obtain ⟨i0, hi, hz0, hz1, hz2⟩ := info_parts info49
  have A := Lib.hid hc
  have HL := Lib.hid hl
  have HL2 := Lib.hid hl2
  clear hc hl hl2
  have q40 : ∀ (w : World) (a : Option Addr) (n c n' c' : Nat), (binOp .eql 40 (.slice a n c) (.slice none n' c')).run Try.prog w = .ok (.bool a.isNone) w := fun w a n c n' c' => Lib.run_eql_slice_nil w _ _ a n c n' c' Try.underlying40
  go_enter Try.func26, Try.ntmps26
  go_wp2_with (at_builtin; refine wpList_append_own _ rfl _ _ 40 rfl w.heap.size 49 i0 _ 3 24 Try.underlying40 hi hz0 hz1 hz2 rfl (by decide) _ _ _ rfl (World.ownsRow_made w #[] 0 (Nat.le_refl _) (Nat.zero_le _) (by simp)) a len cap (flatN l) rfl ?qc1 ?qc2 ?qc3 ?qc4 ?qc5 ?qc6 ?_)
  case qc1 => rw [flatN_len, HL.out]
  case qc2 =>
    intro j u hj
    exact cell_alloc _ (A.out j u hj)
  case qc3 => exact flatN_one l
  case qc4 => have := HL2.out; unfold maxLen; omega
  case qc5 => have := HL2.out; omega
  case qc6 => simp
  intro v' w1 hown hgrow hnil
  go_wp2_with fail
  go_ret
  refine ⟨v', rfl, ?_, ((Fr.refl no w).alloc _).grown hgrow (fun k hk => ?_)⟩
  · unfold RowN
    rw [HL.out]
    simpa using hown
  · simp [Value.ownBlock] at hk
    exact .inr (by omega)
set_option maxHeartbeats 1000000 in
theorem cloneN_none (len cap : Nat) (w : World) (hl : len = 0) :
    Calls Try.prog 26 #[.slice none len cap] w (fun e w' => CloneN w w' [] e) := by
  subst hl
  have q40 : ∀ (w : World) (a : Option Addr) (n c n' c' : Nat), (binOp .eql 40 (.slice a n c) (.slice none n' c')).run Try.prog w = .ok (.bool a.isNone) w := fun w a n c n' c' => Lib.run_eql_slice_nil w _ _ a n c n' c' Try.underlying40
  go_enter Try.func26, Try.ntmps26
  go_wp2_with fail
  go_ret
  exact ⟨_, rfl, ⟨rfl, .inl ⟨rfl, rfl⟩⟩, Fr.refl no w⟩
theorem cloneN_any (ao : Option Addr) (len cap : Nat) (l : List Sn) (w : World) (h : SnsIn w ao len l) (hl : len ≤ 40) :
    Calls Try.prog 26 #[.slice ao len cap] w (fun e w' => CloneN w w' l e) := by
  cases ao with
  | none =>
    have h0 : len = 0 := by
      apply Classical.byContradiction
      intro hn
      obtain ⟨b, off, h1, _⟩ := h.2 0 (by omega)
      cases h1
    have h1 : l = [] := List.length_eq_zero_iff.1 (by rw [h.1, h0])
    rw [h1]
    exact cloneN_none len cap w h0
  | some a => exact cloneN_some a len cap l w h.1 hl (sns_cells h)

set_option maxHeartbeats 4000000 in
theorem equalS_same (a0 a1 : Option Addr) (len c0 c1 : Nat) (l : List Sy) (w : World) (h0 : SysIn w a0 len l) (h1 : SysIn w a1 len l) (hl : len ≤ 40) :
    Calls Try.prog 35 #[.slice a0 len c0, .slice a1 len c1] w fun e w' => e = .returned (.bool true) ∧ Fr no w w' := by
  have H0 := Lib.hid h0
  have H1 := Lib.hid h1
  clear h0 h1
  go_enter Try.func35, Try.ntmps35
  go_wp2_with fail
  go_loopw [5, 13] (fun _ i wr => ∃ k : Nat, k ≤ len ∧ i = .int .i64 k ∧ Hid (Fr no w wr)) (fun _ i _ => len - (intOf i).toNat)
  case atStart => exact ⟨0, by omega, rfl, Lib.hid (Fr.refl no _)⟩
  case round =>
    obtain ⟨k, hk, rfl, F⟩ := hrel
    by_cases hlt : k < len
    · obtain ⟨b, off, rfl, -, hc⟩ := sys_at (H0.out.kept F.out) (by omega)
      obtain ⟨x0, x1, x2, x3⟩ := hc k hlt
      obtain ⟨b', off', rfl, -, hc'⟩ := sys_at (H1.out.kept F.out) (by omega)
      obtain ⟨y0, y1, y2, y3⟩ := hc' k hlt
      have hkI : (k : Int) < (len : Int) := by omega
      generalize syAt l k = v at *
      clear hc hc'
      go_wp2_with fail
      go_quiet (fail)
      rename_i nq
      have HFq := Lib.hid (F.out.drewN nq)
      go_wp2_with fail
      go_roundw
      case rel => exact ⟨k + 1, by omega, by go_num, HFq⟩
      case measure => simp [intOf]; omega
    · have hkI : ¬ (k : Int) < (len : Int) := by omega
      go_wp2_with fail
      go_ret
      exact ⟨rfl, F.out⟩
theorem is_any (n s N : Int) (a : Bool) (b : Nat) (w : World) (hn : w.cell? ⟨b, 0, none⟩ = some (.int .i64 N)) :
    Calls Try.prog 37 (#[.agg #[.int .i64 n, .int .i64 s, .bool a]] ++ #[.pointer (some ⟨b, 0, none⟩)]) w fun e w' => e = .returned (.bool (decide (n = N))) ∧ Fr no w w' := by
  have hb := World.block_lt_of_cell? _ _ hn
  by_cases h : n = N
  · subst h
    go_enter Try.func37, Try.ntmps37
    go_wp2_with fail
    go_ret
    exact ⟨by simp, (Fr.refl no w).alloc _⟩
  · have h1 : decide (n = N) = false := by simpa using h
    have h2 : (n == N) = false := by simpa using h
    go_enter Try.func37, Try.ntmps37
    go_wp2_with fail
    go_ret
    exact ⟨by simp, (Fr.refl no w).alloc _⟩
def namB (xs : List Sn) (N : Int) : Bool := xs.any fun x => decide (x.n = N)
theorem nam_none {xs : List Sn} {N : Int} (h : ∀ j, j < xs.length → (snAt xs j).n ≠ N) : namB xs N = false := by
  simp only [namB, List.any_eq_false, decide_eq_true_eq]
  intro x hx
  obtain ⟨j, hj, rfl⟩ := List.mem_iff_getElem.1 hx
  have := h j hj
  simpa [snAt, List.getD_eq_getElem?_getD, List.getElem?_eq_getElem hj] using this
theorem nam_some {xs : List Sn} {N : Int} {j : Nat} (hj : j < xs.length) (h : (snAt xs j).n = N) : namB xs N = true := by
  simp only [namB, List.any_eq_true, decide_eq_true_eq]
  refine ⟨xs[j], List.getElem_mem hj, ?_⟩
  simpa [snAt, List.getD_eq_getElem?_getD, List.getElem?_eq_getElem hj] using h
theorem nam_no {xs : List Sn} {N : Int} (h : namB xs N = false) : ∀ j, j < xs.length → (snAt xs j).n ≠ N := fun j hj hn => by
  rw [nam_some hj hn] at h; cases h
set_option maxHeartbeats 4000000 in
/-- IndexFunc with the law's own function. -/
theorem index_any (ao : Option Addr) (len cap : Nat) (xs : List Sn) (N : Int) (B : Nat) (w : World) (h : SnsIn w ao len xs) (hn : w.cell? ⟨B, 0, none⟩ = some (.int .i64 N)) (hl : len ≤ 40) :
    Calls Try.prog 62 #[.slice ao len cap, .func (.func 37) #[] #[.pointer (some ⟨B, 0, none⟩)]] w fun e w' => ∃ i : Int, e = .returned (.int .i64 i) ∧ decide (0 ≤ i) = namB xs N ∧ Fr no w w' := by
  have H := Lib.hid h
  have hzl := h.1
  have HZL := Lib.hid hzl
  have HN := Lib.hid hn
  have KI := Lib.hid (fun n s a w' hc => is_any n s N a B w' hc)
  have eg : ∀ args w, (callFunc 37 args).run Try.prog w = .ok (.enter 37 args) w := Go.Proofs.enters_of Try.func37 (by kernel_rfl) rfl
  clear h hzl hn
  go_enter Try.func62, Try.ntmps62
  go_wp2_with fail
  go_loopw [5, 8] (fun _ i wr => ∃ k : Nat, k ≤ len ∧ i = .int .i64 k ∧ Hid (∀ j, j < k → (snAt xs j).n ≠ N) ∧ Hid (Fr no w wr)) (fun _ i _ => len - (intOf i).toNat)
  case atStart => exact ⟨0, by omega, rfl, Lib.hid (fun j hj => by omega), Lib.hid (Fr.refl no _)⟩
  case round =>
    obtain ⟨k, hk, rfl, I, F⟩ := hrel
    by_cases hlt : k < len
    · obtain ⟨b, off, rfl, -, hc⟩ := sns_at (H.out.kept F.out) (by omega)
      obtain ⟨x0, x1, x2⟩ := hc k hlt
      have hkI : (k : Int) < (len : Int) := by omega
      have K := Lib.hid (KI.out (snAt xs k).n (snAt xs k).s (snAt xs k).a _ (F.out.keepc HN.out))
      have HK := Lib.hid (show k < xs.length by have := HZL.out; omega)
      have HV := Lib.hid (show snAt xs k = snAt xs k from rfl)
      by_cases hN : (snAt xs k).n = N
      · have HR := Lib.hid (nam_some HK.out hN)
        rw [decide_eq_true hN] at K
        generalize snAt xs k = v at *
        clear hc hN HV
        go_wp2_with fail
        refine K.out.mono ?_
        rintro e w1 ⟨rfl, f1⟩
        have HF1 := Lib.hid (F.out.noTrans f1)
        clear f1
        go_wp2_with fail
        go_ret
        exact ⟨_, rfl, by rw [HR.out]; simp, HF1.out⟩
      · have HJ := Lib.hid (show ∀ j, j < k + 1 → (snAt xs j).n ≠ N from fun j hj => by
          by_cases e : j = k
          · rw [e]; exact hN
          · exact I.out j (by omega))
        rw [decide_eq_false hN] at K
        generalize snAt xs k = v at *
        clear hc hN HV
        go_wp2_with fail
        refine K.out.mono ?_
        rintro e w1 ⟨rfl, f1⟩
        have HF1 := Lib.hid (F.out.noTrans f1)
        clear f1
        go_wp2_with fail
        go_roundw
        case rel => exact ⟨k + 1, by omega, by go_num, HJ, HF1⟩
        case measure => simp [intOf]; omega
    · have hkI : ¬ (k : Int) < (len : Int) := by omega
      have HR := Lib.hid (nam_none (xs := xs) (N := N) (fun j hj => I.out j (by have := HZL.out; omega)))
      go_wp2_with fail
      go_ret
      exact ⟨_, rfl, by rw [HR.out]; rfl, F.out⟩
theorem contains_any (ao : Option Addr) (len cap : Nat) (xs : List Sn) (N : Int) (B : Nat) (w : World) (h : SnsIn w ao len xs) (hn : w.cell? ⟨B, 0, none⟩ = some (.int .i64 N)) (hl : len ≤ 40) :
    Calls Try.prog 36 #[.slice ao len cap, .func (.func 37) #[] #[.pointer (some ⟨B, 0, none⟩)]] w fun e w' => e = .returned (.bool (namB xs N)) ∧ Fr no w w' := by
  have K := Lib.hid (index_any ao len cap xs N B w h hn hl)
  clear h hn
  go_enter Try.func36, Try.ntmps36
  go_wp2_with fail
  refine K.out.mono ?_
  rintro e w1 ⟨i, rfl, hi, f1⟩
  have HF1 := Lib.hid f1
  have HI := Lib.hid hi
  clear f1 hi
  go_wp2_with fail
  go_ret
  rw [← HI.out]
  exact ⟨rfl, HF1.out⟩

end Go.Proofs.Ytmkmefcafpgphaa
