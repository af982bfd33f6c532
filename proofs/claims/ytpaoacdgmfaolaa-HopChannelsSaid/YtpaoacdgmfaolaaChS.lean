/- The document: Channel, Meet. -/
import Derived.Test.YtpaoacdgmfaolaaChT
import Derived.Test.YtpaoacdgmfaolaaCha
namespace Go.Proofs.Ytpaoacdgmfaolaa
set_option linter.unusedVariables false
open Go.RowKit


set_option maxHeartbeats 8000000 in
theorem channelR_any (v f u : Int) (ca : Option Addr) (ck : Nat) (zs : List Int) (s o : Int) (w : World) (hz : IntsIn w ca zs.length zs) (hl : zs.length ≤ 100) (hlc : zs.length ≤ ck) :
    Calls Try.prog 13 #[.agg #[.int .i64 v, .int .i64 f, .int .i64 u, .slice ca zs.length ck], .int .i64 s, .int .i64 o] w fun e w' => e = .returned (.tuple #[.int .i64 (chV v f u zs s o), .int .i64 (useL v f u zs s [o])]) ∧ Fr no w w' := by
  obtain ⟨W, hW⟩ : ∃ W, W = w.alloc (.cells #[.int .i64 v, .int .i64 f, .int .i64 u, .slice ca zs.length ck] 24 (0, 0)) := ⟨_, rfl⟩
  have hF : Fr no w W := by rw [hW]; exact (Fr.refl no w).alloc _
  have h1 : W.heap[w.heap.size]? = some (.cells #[.int .i64 v, .int .i64 f, .int .i64 u, .slice ca zs.length ck] 24 (0, 0)) := by rw [hW]; exact heap_alloc_new w _
  obtain ⟨c0, c1, c2, c3⟩ := four_cells h1
  have HF := Lib.hid hF
  have HW := Lib.hid hW
  have H1 := Lib.hid h1
  have HZ := Lib.hid (hz.kept hF)
  have KC := Lib.hid (checkR_any v f u ca ck zs W (hz.kept hF) hl hlc)
  have HEQ := Lib.hid (show hlE v f u zs = if hlB v f u zs then 0 else 1 from rfl)
  have HNZ := Lib.hid (show hlB v f u zs = true → 1 ≤ zs.length ∧ zs.length ≤ 16 ∧ 0 ≤ f ∧ u ≤ 109951163 from fun h => by
    obtain ⟨-, -, a, b, c, d⟩ := hlB_t h
    obtain ⟨l1, l2, -, -⟩ := chB_t d
    exact ⟨l1, l2, a, c⟩)
  have HC := Lib.hid (show chV v f u zs s o = if useL v f u zs s [o] = 0 then cha zs s o else 0 from rfl)
  have HU := Lib.hid (show useL v f u zs s [o] = if !hlB v f u zs then 1 else if !(decide (f ≤ s) && decide (s < u)) then 12 else if inR o 0 ((zs.length : Int) - 1) then 0 else 2 by simp [useL])
  have HCH := Lib.hid (fun h => cha_at (zs := zs) h (s := s) (o := o))
  generalize hlE v f u zs = E at *
  obtain ⟨ln, hln⟩ : ∃ ln, ln = zs.length := ⟨_, rfl⟩
  simp only [← hln] at KC HNZ HU HCH HZ ⊢
  rw [← hln] at H1 HW c3
  clear hz hF h1 hW hl hlc hln
  go_enter Try.func13, Try.ntmps13
  go_wp2_with fail
  rw [← HW.out]
  go_wp2_with fail
  refine KC.out.mono ?_
  rintro e w1 ⟨rfl, f1⟩
  obtain ⟨d0, d1, d2, d3⟩ := four_cells (f1.blk H1.out (fun h => h))
  have HZ1 := Lib.hid (HZ.out.kept f1)
  have HF1 := Lib.hid (HF.out.noTrans f1)
  clear f1 c0 c1 c2 c3 KC HW
  cases hb : hlB v f u zs
  · rw [hb] at HEQ HU
    obtain rfl : E = 1 := HEQ.out
    have HU := Lib.hid (show useL v f u zs s [o] = 1 from HU.out)
    have HC := Lib.hid (show chV v f u zs s o = 0 by rw [HC.out, HU.out]; rfl)
    clear hb HEQ
    go_wp2_with fail
    go_ret2
    rw [HU.out, HC.out]
    exact ⟨rfl, HF1.out⟩
  · rw [hb] at HEQ HU
    obtain rfl : E = 0 := HEQ.out
    obtain ⟨l1, l2, f0, u1⟩ := HNZ.out hb
    clear hb HEQ HNZ
    by_cases h1 : f ≤ s
    · by_cases h2 : s < u
      · have HU := Lib.hid (show useL v f u zs s [o] = if inR o 0 ((ln : Int) - 1) then 0 else 2 by rw [HU.out, decide_eq_true h1, decide_eq_true h2]; rfl)
        have hn1 : ¬ (s < f) := by omega
        have hd1 : decide (s < f) = false := decide_eq_false hn1
        have hn2 : ¬ (u ≤ s) := by omega
        have hd2 : decide (u ≤ s) = false := decide_eq_false hn2
        by_cases h3 : 0 ≤ o
        · by_cases h4 : o < (ln : Int)
          · have HU := Lib.hid (show useL v f u zs s [o] = 0 by rw [HU.out, inR_t.2 ⟨h3, by omega⟩]; rfl)
            have HC := Lib.hid (show chV v f u zs s o = cha zs s o by rw [HC.out, HU.out]; rfl)
            have hn3 : ¬ (o < 0) := by omega
            have hd3 : decide (o < 0) = false := decide_eq_false hn3
            have hn4 : ¬ ((ln : Int) ≤ o) := by omega
            have hd4 : decide ((ln : Int) ≤ o) = false := decide_eq_false hn4
            obtain ⟨m, m1, m2, m3⟩ := HCH.out l1
            obtain ⟨b, off, rfl, e0⟩ := HZ1.out.2 m m1
            rw [← m3] at e0
            have HM3 := Lib.hid m3
            have hso : IntKind.i64.wrap (s + o) = s + o := IntWalk.i64_in _ (by omega)
            have hmt : Int.tmod (s + o) (ln : Int) = (m : Int) := by rw [Int.tmod_eq_emod_of_nonneg (by omega)]; exact m2.symm
            have hmod : (s + o) % (ln : Int) = (m : Int) := m2.symm
            have hmm : IntKind.i64.wrap (Int.tmod (s + o) (ln : Int)) = (m : Int) := by rw [hmt]; exact IntWalk.i64_in _ (by omega)
            have hmI : (m : Int) < (ln : Int) := by omega
            have hl0 : (ln == 0) = false := by simp; omega
            have hl0' : ((ln : Int) == 0) = false := by simp; omega
            have hl0d : decide ((ln : Int) = 0) = false := by simp; omega
            have hl0n : ¬ ((ln : Int) = 0) := by omega
            generalize cha zs s o = x at *
            clear m2 m3 hd1 hd2 hd3 hd4 h1 h2 HCH
            go_wp2_with fail
            go_quiet (fail)
            go_wp2_with fail
            go_ret2
            rw [HU.out, HC.out]
            exact ⟨rfl, HF1.out.drewN _⟩
          · have HU := Lib.hid (show useL v f u zs s [o] = 2 by
              rw [HU.out]
              cases q : inR o 0 ((ln : Int) - 1)
              · rfl
              · have := inR_t.1 q; omega)
            have HC := Lib.hid (show chV v f u zs s o = 0 by rw [HC.out, HU.out]; rfl)
            have hn3 : ¬ (o < 0) := by omega
            have hn4 : (ln : Int) ≤ o := by omega
            clear hd1 hd2 h1 h2 h3 h4
            go_wp2_with fail
            go_ret2
            rw [HU.out, HC.out]
            exact ⟨rfl, HF1.out⟩
        · have HU := Lib.hid (show useL v f u zs s [o] = 2 by
            rw [HU.out]
            cases q : inR o 0 ((ln : Int) - 1)
            · rfl
            · have := inR_t.1 q; omega)
          have HC := Lib.hid (show chV v f u zs s o = 0 by rw [HC.out, HU.out]; rfl)
          have hn3 : o < 0 := by omega
          clear hd1 hd2 h1 h2 h3
          go_wp2_with fail
          go_ret2
          rw [HU.out, HC.out]
          exact ⟨rfl, HF1.out⟩
      · have HU := Lib.hid (show useL v f u zs s [o] = 12 by rw [HU.out, decide_eq_false h2, Bool.and_false]; rfl)
        have HC := Lib.hid (show chV v f u zs s o = 0 by rw [HC.out, HU.out]; rfl)
        have hn1 : ¬ (s < f) := by omega
        have hn2 : u ≤ s := by omega
        clear h1 h2
        go_wp2_with fail
        go_ret2
        rw [HU.out, HC.out]
        exact ⟨rfl, HF1.out⟩
    · have HU := Lib.hid (show useL v f u zs s [o] = 12 by rw [HU.out, decide_eq_false h1]; rfl)
      have HC := Lib.hid (show chV v f u zs s o = 0 by rw [HC.out, HU.out]; rfl)
      have hn1 : s < f := by omega
      clear h1
      go_wp2_with fail
      go_ret2
      rw [HU.out, HC.out]
      exact ⟨rfl, HF1.out⟩
theorem use_2 (v f u : Int) (zs : List Int) (s a b : Int) : useL v f u zs s [a, b] = if useL v f u zs s [a] = 0 then useL v f u zs s [b] else useL v f u zs s [a] := by
  unfold useL
  cases hlB v f u zs <;> cases (decide (f ≤ s) && decide (s < u)) <;> cases h1 : inR a 0 ((zs.length : Int) - 1) <;> cases h2 : inR b 0 ((zs.length : Int) - 1) <;> simp [h1, h2]
set_option maxHeartbeats 4000000 in
theorem meetR_any (v f u : Int) (ca : Option Addr) (ck : Nat) (zs : List Int) (s a b : Int) (w : World) (hz : IntsIn w ca zs.length zs) (hl : zs.length ≤ 100) (hlc : zs.length ≤ ck) :
    Calls Try.prog 15 #[.agg #[.int .i64 v, .int .i64 f, .int .i64 u, .slice ca zs.length ck], .int .i64 s, .int .i64 a, .int .i64 b] w fun e w' => e = .returned (.tuple #[.bool (meV v f u zs s a b), .int .i64 (useL v f u zs s [a, b])]) ∧ Fr no w w' := by
  obtain ⟨W, hW⟩ : ∃ W, W = w.alloc (.cells #[.int .i64 v, .int .i64 f, .int .i64 u, .slice ca zs.length ck] 24 (0, 0)) := ⟨_, rfl⟩
  have hF : Fr no w W := by rw [hW]; exact (Fr.refl no w).alloc _
  have h1 : W.heap[w.heap.size]? = some (.cells #[.int .i64 v, .int .i64 f, .int .i64 u, .slice ca zs.length ck] 24 (0, 0)) := by rw [hW]; exact heap_alloc_new w _
  obtain ⟨c0, c1, c2, c3⟩ := four_cells h1
  have HF := Lib.hid hF
  have HW := Lib.hid hW
  have H1 := Lib.hid h1
  have HZ := Lib.hid (hz.kept hF)
  have KA := Lib.hid (fun w h => channelR_any v f u ca ck zs s a w h hl hlc)
  have KB := Lib.hid (fun w h => channelR_any v f u ca ck zs s b w h hl hlc)
  have H2 := Lib.hid (use_2 v f u zs s a b)
  have HM := Lib.hid (show meV v f u zs s a b = (decide (useL v f u zs s [a, b] = 0) && decide (cha zs s a = cha zs s b)) from rfl)
  have HA := Lib.hid (show chV v f u zs s a = if useL v f u zs s [a] = 0 then cha zs s a else 0 from rfl)
  have HB := Lib.hid (show chV v f u zs s b = if useL v f u zs s [b] = 0 then cha zs s b else 0 from rfl)
  generalize useL v f u zs s [a, b] = E at *
  generalize useL v f u zs s [a] = ea at *
  generalize useL v f u zs s [b] = eb at *
  generalize chV v f u zs s a = xa at *
  generalize chV v f u zs s b = xb at *
  generalize cha zs s a = ya at *
  generalize cha zs s b = yb at *
  obtain ⟨ln, hln⟩ : ∃ ln, ln = zs.length := ⟨_, rfl⟩
  simp only [← hln] at KA KB HZ ⊢
  rw [← hln] at H1 HW c3
  clear hz hF h1 hW hl hlc hln
  go_enter Try.func15, Try.ntmps15
  go_wp2_with fail
  rw [← HW.out]
  go_wp2_with fail
  refine (KA.out _ HZ.out).mono ?_
  rintro e w1 ⟨rfl, f1⟩
  obtain ⟨d0, d1, d2, d3⟩ := four_cells (f1.blk H1.out (fun h => h))
  have HZ1 := Lib.hid (HZ.out.kept f1)
  have HF1 := Lib.hid (HF.out.noTrans f1)
  clear f1 c0 c1 c2 c3 KA HW
  by_cases h1 : ea = 0
  · subst h1
    have H2 := Lib.hid (show E = eb from H2.out)
    have HA := Lib.hid (show xa = ya from HA.out)
    go_wp2_with fail
    refine (KB.out _ HZ1.out).mono ?_
    rintro e w2 ⟨rfl, f2⟩
    have HF2 := Lib.hid (HF1.out.noTrans f2)
    clear f2 KB d0 d1 d2 d3
    by_cases h2 : eb = 0
    · subst h2
      have HB := Lib.hid (show xb = yb from HB.out)
      have HV := Lib.hid (show meV v f u zs s a b = decide (xa = xb) by rw [HM.out, H2.out, HA.out, HB.out]; simp)
      go_wp2_with fail
      go_ret2
      rw [HV.out, H2.out]
      exact ⟨by first | rfl | (simp; done) | (simp; rw [Bool.eq_iff_iff]; simp), HF2.out⟩
    · have HV := Lib.hid (show meV v f u zs s a b = false by rw [HM.out, H2.out]; simp [h2])
      have hE1 : (eb == 0) = false := by simpa using h2
      have hE2 : decide (eb = 0) = false := by simpa using h2
      go_wp2_with fail
      go_ret2
      rw [HV.out, H2.out]
      exact ⟨rfl, HF2.out⟩
  · have H2 := Lib.hid (show E = ea from H2.out.trans (if_neg h1))
    have HV := Lib.hid (show meV v f u zs s a b = false by rw [HM.out, H2.out, decide_eq_false h1]; rfl)
    have hE1 : (ea == 0) = false := by simpa using h1
    have hE2 : decide (ea = 0) = false := by simpa using h1
    go_wp2_with fail
    go_ret2
    rw [HV.out, H2.out]
    exact ⟨rfl, HF1.out⟩

end Go.Proofs.Ytpaoacdgmfaolaa
