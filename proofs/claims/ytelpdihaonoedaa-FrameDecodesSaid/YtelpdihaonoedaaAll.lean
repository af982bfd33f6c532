/- The method that goes over all fields. -/
import Derived.Test.YtelpdihaonoedaaMet
namespace Go.Proofs.Ytelpdihaonoedaa
open Go.RowKit
set_option linter.unusedVariables false
set_option maxRecDepth 20000
variable {α : Type}

theorem Mach.Ok.cUp {M : Mach α} (ok : M.Ok) {w : World} {T : Nat → Prop} {x : Frm} {st : α} (h : M.LS w T x st) (i : Nat) (wd : Int) (hi : i ≤ 10) {x1 : Frm} {s1 : α} (hp : intF M i wd (x, st) = (x1, s1)) :
    Calls Try.prog M.g1 #[.int .i64 wd, .pointer (some ⟨M.F, i, none⟩), .pointer (some ⟨M.P, 0, none⟩)] w fun e w' => e = .returned (.tuple #[]) ∧ Stp M w T w' x1 s1 := by
  cases hp
  exact ok.cU h i wd hi
theorem target_pair (M : Mach α) (ok : M.Ok) {w : World} {T : Nat → Prop} {x : Frm} {st : α} (h : M.LS w T x st) {x1 : Frm} {s1 : α} (hp : tgtF M (x, st) = (x1, s1)) :
    Calls Try.prog 78 #[.agg (layA M)] w fun e w' => e = .returned (.tuple #[]) ∧ Stp M w T w' x1 s1 := by
  have := target_any M ok h
  rw [hp] at this
  exact this
theorem kEs_1 (w : World) (B : Nat) (hb : w.heap[B]? = some (.map kEs 4)) : (Instr.lookup 95 (.map (some B)) (.int .i64 1) true).run Try.prog w = .ok (.tuple #[.func (.func 118) #[] #[], .bool true]) w := run_find w B kEs 4 1 _ 0 hb rfl
theorem kEs_2 (w : World) (B : Nat) (hb : w.heap[B]? = some (.map kEs 4)) : (Instr.lookup 95 (.map (some B)) (.int .i64 2) true).run Try.prog w = .ok (.tuple #[.func (.func 119) #[] #[], .bool true]) w := run_find w B kEs 4 2 _ 1 hb rfl
theorem kEs_3 (w : World) (B : Nat) (hb : w.heap[B]? = some (.map kEs 4)) : (Instr.lookup 95 (.map (some B)) (.int .i64 3) true).run Try.prog w = .ok (.tuple #[.func (.func 120) #[] #[], .bool true]) w := run_find w B kEs 4 3 _ 2 hb rfl
theorem kEs_4 (w : World) (B : Nat) (hb : w.heap[B]? = some (.map kEs 4)) : (Instr.lookup 95 (.map (some B)) (.int .i64 4) true).run Try.prog w = .ok (.tuple #[.func (.func 121) #[] #[], .bool true]) w := run_find w B kEs 4 4 _ 3 hb rfl
theorem kEs_0 (w : World) (B : Nat) (k : Int) (h1 : k ≠ 1) (h2 : k ≠ 2) (h3 : k ≠ 3) (h4 : k ≠ 4) (hb : w.heap[B]? = some (.map kEs 4)) : (Instr.lookup 95 (.map (some B)) (.int .i64 k) true).run Try.prog w = .ok (.tuple #[.nilFunc, .bool false]) w := by
  refine run_miss w B kEs 4 k hb ?_
  have e1 : (k == 1) = false := by simpa using h1
  have e2 : (k == 2) = false := by simpa using h2
  have e3 : (k == 3) = false := by simpa using h3
  have e4 : (k == 4) = false := by simpa using h4
  simp [kEs, Instr.findNow, Instr.sameNow, e1, e2, e3, e4]
set_option maxHeartbeats 8000000 in
theorem all_any (M : Mach α) (ok : M.Ok) {w : World} {T : Nat → Prop} {x : Frm} {st : α} (h : M.LS w T x st) :
    Calls Try.prog 33 #[.agg (layA M)] w fun e w' => e = .returned (.tuple #[]) ∧ Stp M w T w' (allF M (x, st)).1 (allF M (x, st)).2 := by
  obtain ⟨W, hW⟩ : ∃ W, W = w.alloc (.cells (layA M) 53 (0, 0)) := ⟨_, rfl⟩
  have hF : Fr no w W := by rw [hW]; exact (Fr.refl no w).alloc _
  have hB0 : W.heap[w.heap.size]? = some (.cells (layA M) 53 (0, 0)) := by rw [hW]; exact heap_alloc_new w _
  have hn0 : ¬ T w.heap.size := fun hh => Nat.lt_irrefl _ (ok.bnd h _ hh)
  have hL0 := ok.kept h hF
  have OK := Lib.hid ok
  have SK0 := Lib.hid (fun (wz : World) (xz : Frm) (sz : α) (hs : Stp M W T wz xz sz) => (Stp.ofNo hF hs : Stp M w T wz xz sz))
  have HW := Lib.hid (show W = w.alloc (.cells #[.pointer (some ⟨M.F, 0, none⟩), .func (.func M.g1) #[] #[.pointer (some ⟨M.P, 0, none⟩)], .func (.func M.g2) #[] #[.pointer (some ⟨M.P, 0, none⟩)], .func (.func M.g3) #[] #[.pointer (some ⟨M.P, 0, none⟩)], .func (.func M.g4) #[] #[.pointer (some ⟨M.P, 0, none⟩)]] 53 (0, 0)) from hW)
  have e1 := ok.e1
  have e2 := ok.e2
  have e3 := ok.e3
  have e4 := ok.e4
  obtain ⟨c0, c1, c2, c3, c4⟩ := five_cells hB0
  have HB0 := Lib.hid hB0
  have HN0 := Lib.hid hn0
  have HL0 := Lib.hid hL0
  clear h hF hB0 hn0 hL0 hW ok
  simp only [layA]
  go_enter Try.func33, Try.ntmps33
  go_wp2_with fail
  rw [← HW.out]
  obtain ⟨x1, s1, hp1⟩ : ∃ xx ss, intF M 0 3 (x, st) = (xx, ss) := ⟨_, _, rfl⟩
  have HC1 := Lib.hid (OK.out.cUp (OK.out.kept HL0.out ((Fr.refl no _).drew)) 0 3 (by decide) hp1)
  refine still_tail_d 6 Try.mixed (by kernel_rfl) ?_
  simp only [List.take_succ_cons, List.take_zero, List.drop_succ_cons, List.drop_zero]
  repeat still_step
  refine wpStill_nil ?_
  go_wp2_with fail
  refine HC1.out.mono ?_
  rintro e w1 ⟨rfl, hs⟩
  clear HC1 c0 c1 c2 c3 c4
  have HP1 := Lib.hid hp1
  clear hp1
  obtain ⟨T1, l1, f1, n1, hB1, hn1⟩ := hs.keep (L := w.heap.size) (show _ from HB0.out) HN0.out
  obtain ⟨c0, c1, c2, c3, c4⟩ := five_cells hB1
  have HB1 := Lib.hid hB1
  have HN1 := Lib.hid hn1
  have HL1 := Lib.hid l1
  have SK1 := Lib.hid (fun (wz : World) (xz : Frm) (sz : α) (hs2 : Stp M w1 T1 wz xz sz) => SK0.out _ _ _ (Stp.ofNo ((Fr.refl no _).drew) (Stp.trans f1 n1 hs2)))
  clear hs l1 f1 n1 hB1 hn1 SK0 HL0 HB0 HN0
  go_wp2_with fail
  obtain ⟨x2, s2, hp2⟩ : ∃ xx ss, intF M 1 5 (x1, s1) = (xx, ss) := ⟨_, _, rfl⟩
  have HC2 := Lib.hid (OK.out.cUp (OK.out.kept HL1.out ((Fr.refl no _).drew)) 1 5 (by decide) hp2)
  refine still_tail_d 6 Try.mixed (by kernel_rfl) ?_
  simp only [List.take_succ_cons, List.take_zero, List.drop_succ_cons, List.drop_zero]
  repeat still_step
  refine wpStill_nil ?_
  go_wp2_with fail
  refine HC2.out.mono ?_
  rintro e w2 ⟨rfl, hs⟩
  clear HC2 c0 c1 c2 c3 c4
  have HP2 := Lib.hid hp2
  clear hp2
  obtain ⟨T2, l2, f2, n2, hB2, hn2⟩ := hs.keep (L := w.heap.size) (show _ from HB1.out) HN1.out
  obtain ⟨c0, c1, c2, c3, c4⟩ := five_cells hB2
  have HB2 := Lib.hid hB2
  have HN2 := Lib.hid hn2
  have HL2 := Lib.hid l2
  have SK2 := Lib.hid (fun (wz : World) (xz : Frm) (sz : α) (hs2 : Stp M w2 T2 wz xz sz) => SK1.out _ _ _ (Stp.ofNo ((Fr.refl no _).drew) (Stp.trans f2 n2 hs2)))
  clear hs l2 f2 n2 hB2 hn2 SK1 HL1 HB1 HN1
  go_wp2_with fail
  obtain ⟨x3, s3, hp3⟩ : ∃ xx ss, tgtF M (x2, s2) = (xx, ss) := ⟨_, _, rfl⟩
  refine (target_pair M OK.out HL2.out hp3).mono ?_
  rintro e w3 ⟨rfl, hs⟩
  clear c0 c1 c2 c3 c4
  have HP3 := Lib.hid hp3
  clear hp3
  obtain ⟨T3, l3, f3, n3, hB3, hn3⟩ := hs.keep (L := w.heap.size) (show _ from HB2.out) HN2.out
  obtain ⟨c0, c1, c2, c3, c4⟩ := five_cells hB3
  have HB3 := Lib.hid hB3
  have HN3 := Lib.hid hn3
  have HL3 := Lib.hid l3
  have SK3 := Lib.hid (fun (wz : World) (xz : Frm) (sz : α) (hs2 : Stp M w3 T3 wz xz sz) => SK2.out _ _ _ ((Stp.trans f3 n3 hs2)))
  clear hs l3 f3 n3 hB3 hn3 SK2 HL2 HB2 HN2
  go_wp2_with fail
  obtain ⟨x4, s4, hp4⟩ : ∃ xx ss, intF M 3 8 (x3, s3) = (xx, ss) := ⟨_, _, rfl⟩
  have HC4 := Lib.hid (OK.out.cUp (OK.out.kept HL3.out ((Fr.refl no _).drew)) 3 8 (by decide) hp4)
  refine still_tail_d 6 Try.mixed (by kernel_rfl) ?_
  simp only [List.take_succ_cons, List.take_zero, List.drop_succ_cons, List.drop_zero]
  repeat still_step
  refine wpStill_nil ?_
  go_wp2_with fail
  refine HC4.out.mono ?_
  rintro e w4 ⟨rfl, hs⟩
  clear HC4 c0 c1 c2 c3 c4
  have HP4 := Lib.hid hp4
  clear hp4
  obtain ⟨T4, l4, f4, n4, hB4, hn4⟩ := hs.keep (L := w.heap.size) (show _ from HB3.out) HN3.out
  obtain ⟨c0, c1, c2, c3, c4⟩ := five_cells hB4
  have HB4 := Lib.hid hB4
  have HN4 := Lib.hid hn4
  have HL4 := Lib.hid l4
  have SK4 := Lib.hid (fun (wz : World) (xz : Frm) (sz : α) (hs2 : Stp M w4 T4 wz xz sz) => SK3.out _ _ _ (Stp.ofNo ((Fr.refl no _).drew) (Stp.trans f4 n4 hs2)))
  clear hs l4 f4 n4 hB4 hn4 SK3 HL3 HB3 HN3
  go_wp2_with fail
  obtain ⟨x5, s5, hp5⟩ : ∃ xx ss, intF M 4 8 (x4, s4) = (xx, ss) := ⟨_, _, rfl⟩
  have HC5 := Lib.hid (OK.out.cUp (OK.out.kept HL4.out ((Fr.refl no _).drew)) 4 8 (by decide) hp5)
  refine still_tail_d 6 Try.mixed (by kernel_rfl) ?_
  simp only [List.take_succ_cons, List.take_zero, List.drop_succ_cons, List.drop_zero]
  repeat still_step
  refine wpStill_nil ?_
  go_wp2_with fail
  refine HC5.out.mono ?_
  rintro e w5 ⟨rfl, hs⟩
  clear HC5 c0 c1 c2 c3 c4
  have HP5 := Lib.hid hp5
  clear hp5
  obtain ⟨T5, l5, f5, n5, hB5, hn5⟩ := hs.keep (L := w.heap.size) (show _ from HB4.out) HN4.out
  obtain ⟨c0, c1, c2, c3, c4⟩ := five_cells hB5
  have HB5 := Lib.hid hB5
  have HN5 := Lib.hid hn5
  have HL5 := Lib.hid l5
  have SK5 := Lib.hid (fun (wz : World) (xz : Frm) (sz : α) (hs2 : Stp M w5 T5 wz xz sz) => SK4.out _ _ _ (Stp.ofNo ((Fr.refl no _).drew) (Stp.trans f5 n5 hs2)))
  clear hs l5 f5 n5 hB5 hn5 SK4 HL4 HB4 HN4
  go_wp2_with fail
  have HR := Lib.hid (show allF M (x, st) = kndF M (x5, s5) by unfold allF hdF; rw [HP1.out, HP2.out, HP3.out, HP4.out, HP5.out])
  clear HP1 HP2 HP3 HP4 HP5
  have HFB := Lib.hid (OK.out.blk HL5.out)
  obtain ⟨d0, d1, d2, d3, d4, d5, d6, d7, d8, d9, d10, d11⟩ := twelve_cells HFB.out
  clear d1 d2 d3 d4 d5 d6 d7 d8 d9 d10 d11 HFB
  by_cases hk1 : x5.k = 1
  · have HK := Lib.hid (show kndF M (x5, s5) = datF M (x5, s5) by simp [kndF, hk1])
    rw [hk1] at d0
    clear hk1
    go_region_held3 (fun w' => w'.cell? ⟨w.heap.size, 0, none⟩ = some (.pointer (some ⟨M.F, 0, none⟩)) ∧ w'.cell? ⟨M.F, 0, none⟩ = some (.int .i64 (1))) (go_keep) (first | (go_at_call 79; refine (kinds_any _).mono ?_; rintro e w6 ⟨rfl, hm, f6⟩; have hl := kEs_1 w6 w5.heap.size hm; have z0 := f6.keepc (show w5.drew.cell? ⟨w.heap.size, 0, none⟩ = _ from c0); have z1 := f6.keepc (show w5.drew.cell? ⟨M.F, 0, none⟩ = _ from d0)))
    all_goals
      have HF6 := Lib.hid ((Fr.refl no w5).drew.noTrans f6)
      have HL6 := Lib.hid (OK.out.kept HL5.out HF6.out)
      obtain ⟨y0, y1, y2, y3, y4⟩ := five_cells (HF6.out.blk HB5.out (fun hh => hh))
      clear f6 c0 c1 c2 c3 c4 d0 hm hl z0 z1
      go_wp2_with fail
      refine (data_any M OK.out HL6.out).mono ?_
      rintro e w7 ⟨rfl, hs⟩
      have HE := Lib.hid (SK5.out _ _ _ (Stp.ofNo HF6.out hs))
      clear hs y0 y1 y2 y3 y4
      go_wp2_with fail
      go_end0
      rw [HR.out, HK.out]
      exact ⟨rfl, HE.out⟩
  by_cases hk2 : x5.k = 2
  · have HK := Lib.hid (show kndF M (x5, s5) = sgnF M 7 16 (x5, s5) by simp [kndF, hk2])
    rw [hk2] at d0
    clear hk1 hk2
    go_region_held3 (fun w' => w'.cell? ⟨w.heap.size, 0, none⟩ = some (.pointer (some ⟨M.F, 0, none⟩)) ∧ w'.cell? ⟨M.F, 0, none⟩ = some (.int .i64 (2))) (go_keep) (first | (go_at_call 79; refine (kinds_any _).mono ?_; rintro e w6 ⟨rfl, hm, f6⟩; have hl := kEs_2 w6 w5.heap.size hm; have z0 := f6.keepc (show w5.drew.cell? ⟨w.heap.size, 0, none⟩ = _ from c0); have z1 := f6.keepc (show w5.drew.cell? ⟨M.F, 0, none⟩ = _ from d0)))
    all_goals
      have HF6 := Lib.hid ((Fr.refl no w5).drew.noTrans f6)
      have HL6 := Lib.hid (OK.out.kept HL5.out HF6.out)
      obtain ⟨y0, y1, y2, y3, y4⟩ := five_cells (HF6.out.blk HB5.out (fun hh => hh))
      clear f6 c0 c1 c2 c3 c4 d0 hm hl z0 z1
      go_wp2_with fail
      refine (ackm_any M OK.out HL6.out).mono ?_
      rintro e w7 ⟨rfl, hs⟩
      have HE := Lib.hid (SK5.out _ _ _ (Stp.ofNo HF6.out hs))
      clear hs y0 y1 y2 y3 y4
      go_wp2_with fail
      go_end0
      rw [HR.out, HK.out]
      exact ⟨rfl, HE.out⟩
  by_cases hk3 : x5.k = 3
  · have HK := Lib.hid (show kndF M (x5, s5) = beaF M (x5, s5) by simp [kndF, hk3])
    rw [hk3] at d0
    clear hk1 hk2 hk3
    go_region_held3 (fun w' => w'.cell? ⟨w.heap.size, 0, none⟩ = some (.pointer (some ⟨M.F, 0, none⟩)) ∧ w'.cell? ⟨M.F, 0, none⟩ = some (.int .i64 (3))) (go_keep) (first | (go_at_call 79; refine (kinds_any _).mono ?_; rintro e w6 ⟨rfl, hm, f6⟩; have hl := kEs_3 w6 w5.heap.size hm; have z0 := f6.keepc (show w5.drew.cell? ⟨w.heap.size, 0, none⟩ = _ from c0); have z1 := f6.keepc (show w5.drew.cell? ⟨M.F, 0, none⟩ = _ from d0)))
    all_goals
      have HF6 := Lib.hid ((Fr.refl no w5).drew.noTrans f6)
      have HL6 := Lib.hid (OK.out.kept HL5.out HF6.out)
      obtain ⟨y0, y1, y2, y3, y4⟩ := five_cells (HF6.out.blk HB5.out (fun hh => hh))
      clear f6 c0 c1 c2 c3 c4 d0 hm hl z0 z1
      go_wp2_with fail
      refine (beacon_any M OK.out HL6.out).mono ?_
      rintro e w7 ⟨rfl, hs⟩
      have HE := Lib.hid (SK5.out _ _ _ (Stp.ofNo HF6.out hs))
      clear hs y0 y1 y2 y3 y4
      go_wp2_with fail
      go_end0
      rw [HR.out, HK.out]
      exact ⟨rfl, HE.out⟩
  by_cases hk4 : x5.k = 4
  · have HK := Lib.hid (show kndF M (x5, s5) = txtF M (x5, s5) by simp [kndF, hk4])
    rw [hk4] at d0
    clear hk1 hk2 hk3 hk4
    go_region_held3 (fun w' => w'.cell? ⟨w.heap.size, 0, none⟩ = some (.pointer (some ⟨M.F, 0, none⟩)) ∧ w'.cell? ⟨M.F, 0, none⟩ = some (.int .i64 (4))) (go_keep) (first | (go_at_call 79; refine (kinds_any _).mono ?_; rintro e w6 ⟨rfl, hm, f6⟩; have hl := kEs_4 w6 w5.heap.size hm; have z0 := f6.keepc (show w5.drew.cell? ⟨w.heap.size, 0, none⟩ = _ from c0); have z1 := f6.keepc (show w5.drew.cell? ⟨M.F, 0, none⟩ = _ from d0)))
    all_goals
      have HF6 := Lib.hid ((Fr.refl no w5).drew.noTrans f6)
      have HL6 := Lib.hid (OK.out.kept HL5.out HF6.out)
      obtain ⟨y0, y1, y2, y3, y4⟩ := five_cells (HF6.out.blk HB5.out (fun hh => hh))
      clear f6 c0 c1 c2 c3 c4 d0 hm hl z0 z1
      go_wp2_with fail
      refine (message_any M OK.out HL6.out).mono ?_
      rintro e w7 ⟨rfl, hs⟩
      have HE := Lib.hid (SK5.out _ _ _ (Stp.ofNo HF6.out hs))
      clear hs y0 y1 y2 y3 y4
      go_wp2_with fail
      go_end0
      rw [HR.out, HK.out]
      exact ⟨rfl, HE.out⟩
  · have HK := Lib.hid (show kndF M (x5, s5) = (x5, s5) by simp [kndF, hk1, hk2, hk3, hk4])
    have HKS := Lib.hid (And.intro hk1 (And.intro hk2 (And.intro hk3 hk4)))
    clear hk1 hk2 hk3 hk4
    go_region_held3 (fun w' => w'.cell? ⟨w.heap.size, 0, none⟩ = some (.pointer (some ⟨M.F, 0, none⟩)) ∧ w'.cell? ⟨M.F, 0, none⟩ = some (.int .i64 x5.k)) (go_keep) (first | (go_at_call 79; refine (kinds_any _).mono ?_; rintro e w6 ⟨rfl, hm, f6⟩; have hl := kEs_0 w6 w5.heap.size x5.k HKS.out.1 HKS.out.2.1 HKS.out.2.2.1 HKS.out.2.2.2 hm; have z0 := f6.keepc (show w5.drew.cell? ⟨w.heap.size, 0, none⟩ = _ from c0); have z1 := f6.keepc (show w5.drew.cell? ⟨M.F, 0, none⟩ = _ from d0)))
    all_goals
      have HF6 := Lib.hid ((Fr.refl no w5).drew.noTrans f6)
      have HL6 := Lib.hid (OK.out.kept HL5.out HF6.out)
      obtain ⟨y0, y1, y2, y3, y4⟩ := five_cells (HF6.out.blk HB5.out (fun hh => hh))
      clear f6 c0 c1 c2 c3 c4 d0 hm hl z0 z1
      go_wp2_with fail
      have HE := Lib.hid (SK5.out _ _ _ ⟨T5, HL6.out, HF6.out.mono (fun _ _ hh => hh.elim), fun _ _ hh => hh⟩)
      go_end0
      rw [HR.out, HK.out]
      exact ⟨rfl, HE.out⟩
end Go.Proofs.Ytelpdihaonoedaa
