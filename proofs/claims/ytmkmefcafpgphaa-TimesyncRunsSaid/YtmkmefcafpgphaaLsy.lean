/- Lists of states; copies; areValid. -/
import Derived.Test.YtmkmefcafpgphaaDep
namespace Go.Proofs.Ytmkmefcafpgphaa
set_option linter.unusedVariables false
open Go.RowKit


structure Sy where
  o : Int
  d : Int
  s : Int
  c : Int
def syAt (l : List Sy) (i : Nat) : Sy := l.getD i ⟨0, 0, 0, 0⟩
def syOk (v : Sy) : Bool := okS v.o v.d v.s v.c
def syCells (w : World) (b off : Nat) (v : Sy) : Prop :=
  w.cell? ⟨b, off, none⟩ = some (.int .i64 v.o) ∧ w.cell? ⟨b, off + 1, none⟩ = some (.int .i64 v.d) ∧ w.cell? ⟨b, off + 2, none⟩ = some (.int .i64 v.s) ∧ w.cell? ⟨b, off + 3, none⟩ = some (.int .i64 v.c)
/-- A slice of states in memory. -/
def SysIn (w : World) (ao : Option Addr) (len : Nat) (l : List Sy) : Prop :=
  l.length = len ∧ ∀ i, i < len → ∃ b off, ao = some ⟨b, off, none⟩ ∧ syCells w b (off + i * 4) (syAt l i)
theorem SysIn.kept {w w' : World} {ao : Option Addr} {len : Nat} {l : List Sy} (h : SysIn w ao len l) (hf : Fr no w w') : SysIn w' ao len l := ⟨h.1, fun i hi => by
  obtain ⟨b, off, ha, h0, h1, h2, h3⟩ := h.2 i hi
  exact ⟨b, off, ha, hf.keepc h0, hf.keepc h1, hf.keepc h2, hf.keepc h3⟩⟩
theorem sys_at {w : World} {ao : Option Addr} {len : Nat} {l : List Sy} (h : SysIn w ao len l) (h0 : 0 < len) : ∃ b off, ao = some ⟨b, off, none⟩ ∧ l.length = len ∧ ∀ i, i < len → syCells w b (off + i * 4) (syAt l i) := by
  obtain ⟨b, off, ha, _⟩ := h.2 0 h0
  refine ⟨b, off, ha, h.1, fun i hi => ?_⟩
  obtain ⟨b', off', ha', hc⟩ := h.2 i hi
  rw [ha] at ha'
  cases ha'
  exact hc
def syVals (v : Sy) : List Value := [.int .i64 v.o, .int .i64 v.d, .int .i64 v.s, .int .i64 v.c]
def flatS (l : List Sy) : List Value := l.flatMap syVals
theorem flatS_len (l : List Sy) : (flatS l).length = l.length * 4 := by
  induction l with
  | nil => rfl
  | cons v l ih => simp only [flatS, List.flatMap_cons, List.length_append] at *; rw [ih]; simp [syVals]; omega
theorem flatS_at (l : List Sy) (i j : Nat) (hi : i < l.length) (hj : j < 4) : (flatS l)[i * 4 + j]? = (syVals (syAt l i))[j]? := by
  induction l generalizing i with
  | nil => simp at hi
  | cons v l ih =>
    simp only [flatS, List.flatMap_cons] at *
    cases i with
    | zero =>
      rw [Nat.zero_mul, Nat.zero_add, List.getElem?_append_left (by simpa [syVals] using hj)]
      rfl
    | succ i =>
      rw [List.getElem?_append_right (by simp [syVals]; omega), show (i + 1) * 4 + j - (syVals v).length = i * 4 + j by simp [syVals]; omega, ih i (by simpa using hi)]
      rfl
theorem flatS_one (l : List Sy) : ∀ u ∈ flatS l, u.oneCell' = true := by
  intro u hu
  simp only [flatS, List.mem_flatMap] at hu
  obtain ⟨v, _, hv⟩ := hu
  simp only [syVals, List.mem_cons, List.not_mem_nil, or_false] at hv
  rcases hv with rfl | rfl | rfl | rfl <;> rfl
theorem flatS_set (l : List Sy) (i : Nat) (v : Sy) (h : i < l.length) : ((((flatS l).set (i * 4) (.int .i64 v.o)).set (i * 4 + 1) (.int .i64 v.d)).set (i * 4 + 2) (.int .i64 v.s)).set (i * 4 + 3) (.int .i64 v.c) = flatS (l.set i v) := by
  induction l generalizing i with
  | nil => simp at h
  | cons a l ih =>
    cases i with
    | zero => simp [flatS, syVals]
    | succ i =>
      have := ih i (by simpa using h)
      simp only [flatS, List.flatMap_cons, List.set_cons_succ] at *
      rw [← this]
      have e : ∀ k, (i + 1) * 4 + k = i * 4 + k + 4 := fun k => by omega
      rw [show (i + 1) * 4 = i * 4 + 4 by omega]
      simp [syVals, show ∀ k, i * 4 + 4 + k = i * 4 + k + 4 from fun k => by omega]
theorem sys_cells {w : World} {a : Addr} {len : Nat} {l : List Sy} (h : SysIn w (some a) len l) : ∀ j u, (flatS l)[j]? = some u → w.cell? (a.add j) = some u := fun j u hu => by
  have hl := h.1
  have hj : j < (flatS l).length := (List.getElem?_eq_some_iff.1 hu).1
  rw [flatS_len] at hj
  obtain ⟨b, off, ha, c0, c1, c2, c3⟩ := h.2 (j / 4) (by omega)
  cases ha
  have e : j = j / 4 * 4 + j % 4 := by omega
  rw [e, flatS_at l _ _ (by omega) (by omega)] at hu
  have hadd := add_at b off j
  rw [hadd]
  have hm : j % 4 < 4 := by omega
  generalize j / 4 = q at *
  generalize j % 4 = r at *
  subst e
  rw [← Nat.add_assoc]
  match r, hm, hu with
  | 0, _, hu => exact c0.trans hu
  | 1, _, hu => exact c1.trans hu
  | 2, _, hu => exact c2.trans hu
  | 3, _, hu => exact c3.trans hu
/-- A row of states of the call's own. -/
def RowS (B : Nat) (w : World) (v : Value) (l : List Sy) : Prop := w.ownsRow B 25 4 v l.length (flatS l)
theorem RowS.kept {B : Nat} {w w' : World} {v : Value} {l : List Sy} (h : RowS B w v l) (hf : Fr no w w') : RowS B w' v l := World.ownsRow.kept h hf.growNo (Classical.em _)
theorem RowS.mono {B B' : Nat} {w : World} {v : Value} {l : List Sy} (h : RowS B w v l) (hb : B' ≤ B) : RowS B' w v l := World.ownsRow.mono h hb
theorem rowS_in {B : Nat} {w : World} {v : Value} {l : List Sy} (h : RowS B w v l) : ∃ a c, v = .slice a l.length c ∧ l.length ≤ c ∧ SysIn w a l.length l := by
  have h' : World.ownsRow w B 25 4 v l.length (flatS l) := h
  rcases h'.2 with ⟨rfl, h0⟩ | ⟨g, cap, cur, rfl, hq1, hq2, hq3, hq4, hq5⟩
  · have hl : l.length = 0 := h0
    exact ⟨none, 0, by rw [hl], by omega, rfl, fun i hi => by omega⟩
  · refine ⟨_, _, rfl, by omega, rfl, fun i hi => ⟨g, 0, rfl, ?_⟩⟩
    have hc : ∀ j, j < 4 → w.cell? ⟨g, 0 + i * 4 + j, none⟩ = (syVals (syAt l i))[j]? := fun j hj => by
      rw [Nat.zero_add, h'.cellAt (i * 4 + j) (by omega), flatS_at l i j (by omega) hj]
    exact ⟨hc 0 (by omega), hc 1 (by omega), hc 2 (by omega), hc 3 (by omega)⟩
theorem info25 : (Try.prog.info? 25).map (fun i => (i.zero, i.size, i.bytes)) = some (some (.agg #[.int .i64 0, .int .i64 0, .int .i64 0, .int .i64 0]), 4, 32) := by kernel_rfl
def CloneS (w w' : World) (l : List Sy) (e : Ending) : Prop := ∃ v, e = .returned v ∧ RowS w.heap.size w' v l ∧ Fr no w w'
set_option maxHeartbeats 2000000 in
theorem cloneS_some (a : Addr) (len cap : Nat) (l : List Sy) (w : World) (hl : l.length = len) (hl2 : len ≤ 40) (hc : ∀ j u, (flatS l)[j]? = some u → w.cell? (a.add j) = some u) :
    Calls Try.prog 25 #[.slice (some a) len cap] w (fun e w' => CloneS w w' l e) := by
  obtain ⟨i0, hi, hz0, hz1, hz2⟩ := info_parts info25
  have A := Lib.hid hc
  have HL := Lib.hid hl
  have HL2 := Lib.hid hl2
  clear hc hl hl2
  have q36 : ∀ (w : World) (a : Option Addr) (n c n' c' : Nat), (binOp .eql 36 (.slice a n c) (.slice none n' c')).run Try.prog w = .ok (.bool a.isNone) w := fun w a n c n' c' => Lib.run_eql_slice_nil w _ _ a n c n' c' Try.underlying36
  go_enter Try.func25, Try.ntmps25
  go_wp2_with (at_builtin; refine wpList_append_own _ rfl _ _ 36 rfl w.heap.size 25 i0 _ 4 32 Try.underlying36 hi hz0 hz1 hz2 rfl (by decide) _ _ _ rfl (World.ownsRow_made w #[] 0 (Nat.le_refl _) (Nat.zero_le _) (by simp)) a len cap (flatS l) rfl ?qc1 ?qc2 ?qc3 ?qc4 ?qc5 ?qc6 ?_)
  case qc1 => rw [flatS_len, HL.out]
  case qc2 =>
    intro j u hj
    exact cell_alloc _ (A.out j u hj)
  case qc3 => exact flatS_one l
  case qc4 => have := HL2.out; unfold maxLen; omega
  case qc5 => have := HL2.out; omega
  case qc6 => simp
  intro v' w1 hown hgrow hnil
  go_wp2_with fail
  go_ret
  refine ⟨v', rfl, ?_, ((Fr.refl no w).alloc _).grown hgrow (fun k hk => ?_)⟩
  · unfold RowS
    rw [HL.out]
    simpa using hown
  · simp [Value.ownBlock] at hk
    exact .inr (by omega)
set_option maxHeartbeats 1000000 in
theorem cloneS_none (len cap : Nat) (w : World) (hl : len = 0) :
    Calls Try.prog 25 #[.slice none len cap] w (fun e w' => CloneS w w' [] e) := by
  subst hl
  have q36 : ∀ (w : World) (a : Option Addr) (n c n' c' : Nat), (binOp .eql 36 (.slice a n c) (.slice none n' c')).run Try.prog w = .ok (.bool a.isNone) w := fun w a n c n' c' => Lib.run_eql_slice_nil w _ _ a n c n' c' Try.underlying36
  go_enter Try.func25, Try.ntmps25
  go_wp2_with fail
  go_ret
  exact ⟨_, rfl, ⟨rfl, .inl ⟨rfl, rfl⟩⟩, Fr.refl no w⟩
theorem cloneS_any (ao : Option Addr) (len cap : Nat) (l : List Sy) (w : World) (h : SysIn w ao len l) (hl : len ≤ 40) :
    Calls Try.prog 25 #[.slice ao len cap] w (fun e w' => CloneS w w' l e) := by
  cases ao with
  | none =>
    have h0 : len = 0 := by
      apply Classical.byContradiction
      intro hn
      obtain ⟨b, off, h1, _⟩ := h.2 0 (by omega)
      cases h1
    have h1 : l = [] := List.length_eq_zero_iff.1 (by rw [h.1, h0])
    rw [h1]
    exact cloneS_none len cap w h0
  | some a => exact cloneS_some a len cap l w h.1 hl (sys_cells h)
theorem all_takeS (l : List Sy) (k : Nat) (hk : k < l.length) : (l.take (k + 1)).all syOk = ((l.take k).all syOk && syOk (syAt l k)) := by
  rw [List.take_succ_eq_append_getElem hk, List.all_append]
  simp [syAt, List.getD_eq_getElem?_getD, List.getElem?_eq_getElem hk]
theorem all_noS (l : List Sy) (k : Nat) (hk : k < l.length) (h : syOk (syAt l k) = false) : l.all syOk = false := by
  rw [List.all_eq_false]
  refine ⟨syAt l k, ?_, by rw [h]; exact Bool.false_ne_true⟩
  rw [syAt, List.getD_eq_getElem?_getD, List.getElem?_eq_getElem hk]
  exact List.getElem_mem hk
set_option maxHeartbeats 4000000 in
theorem areValid_any (ao : Option Addr) (len cap : Nat) (l : List Sy) (w : World) (h : SysIn w ao len l) (hl : len ≤ 40) :
    Calls Try.prog 53 #[.slice ao len cap] w fun e w' => e = .returned (.bool (l.all syOk)) ∧ Fr no w w' := by
  have H := Lib.hid h
  have hzl := h.1
  have HZL := Lib.hid hzl
  clear h hzl
  go_enter Try.func53, Try.ntmps53
  go_wp2_with fail
  go_loopw [4, 7] (fun _ i wr => ∃ k : Nat, k ≤ len ∧ i = .int .i64 k ∧ Hid ((l.take k).all syOk = true) ∧ Hid (Fr no w wr)) (fun _ i _ => len - (intOf i).toNat)
  case atStart => exact ⟨0, by omega, rfl, Lib.hid (by simp), Lib.hid (Fr.refl no _)⟩
  case round =>
    obtain ⟨k, hk, rfl, I, F⟩ := hrel
    by_cases hlt : k < len
    · obtain ⟨b, off, rfl, -, hc⟩ := sys_at (H.out.kept F.out) (by omega)
      obtain ⟨c0, c1, c2, c3⟩ := hc k hlt
      have hkI : (k : Int) < (len : Int) := by omega
      have K := Lib.hid (fun w => ckS_any (syAt l k).o (syAt l k).d (syAt l k).s (syAt l k).c w)
      have HA := Lib.hid (all_takeS l k (by have := HZL.out; omega))
      have HN := Lib.hid (fun hx => all_noS l k (by have := HZL.out; omega) hx)
      have he : syOk (syAt l k) = okS (syAt l k).o (syAt l k).d (syAt l k).s (syAt l k).c := rfl
      cases ho : okS (syAt l k).o (syAt l k).d (syAt l k).s (syAt l k).c
      · rw [ckS_1 ho] at K
        have HR := Lib.hid (HN.out (he.trans ho))
        clear HA HN he ho hc
        generalize syAt l k = v at *
        go_wp2_with fail
        refine (K.out _).mono ?_
        rintro e w1 ⟨rfl, f1⟩
        have HF1 := Lib.hid ((F.out.alloc _).noTrans f1)
        clear f1
        go_wp2_with fail
        go_ret
        rw [HR.out]
        exact ⟨rfl, HF1.out⟩
      · rw [ckS_0 ho] at K
        have HJ := Lib.hid (show (l.take (k + 1)).all syOk = true by rw [HA.out, I.out, he, ho]; rfl)
        clear HA HN he ho hc
        generalize syAt l k = v at *
        go_wp2_with fail
        refine (K.out _).mono ?_
        rintro e w1 ⟨rfl, f1⟩
        have HF1 := Lib.hid ((F.out.alloc _).noTrans f1)
        clear f1
        go_wp2_with fail
        go_roundw
        case rel => exact ⟨k + 1, by omega, by go_num, HJ, HF1⟩
        case measure => simp [intOf]; omega
    · have hkI : ¬ (k : Int) < (len : Int) := by omega
      have HR := Lib.hid (show l.all syOk = true by rw [← I.out, List.take_of_length_le (by have := HZL.out; omega)])
      go_wp2_with fail
      go_ret
      rw [HR.out]
      exact ⟨rfl, F.out⟩

end Go.Proofs.Ytmkmefcafpgphaa
