/- The methods of layouts. -/
import Derived.Test.YtelpdihaonoedaaLay
namespace Go.Proofs.Ytelpdihaonoedaa
open Go.RowKit
set_option linter.unusedVariables false
set_option maxRecDepth 20000
variable {α : Type}

set_option maxHeartbeats 4000000 in
theorem ackm_any (M : Mach α) (ok : M.Ok) {w : World} {T : Nat → Prop} {x : Frm} {st : α} (h : M.LS w T x st) :
    Calls Try.prog 119 #[.agg (layA M)] w fun e w' => e = .returned (.tuple #[]) ∧ Stp M w T w' (sgnF M 7 16 (x, st)).1 (sgnF M 7 16 (x, st)).2 := by
  obtain ⟨W, hW⟩ : ∃ W, W = w.alloc (.cells (layA M) 53 (0, 0)) := ⟨_, rfl⟩
  have hF : Fr no w W := by rw [hW]; exact (Fr.refl no w).alloc _
  have hB0 : W.heap[w.heap.size]? = some (.cells (layA M) 53 (0, 0)) := by rw [hW]; exact heap_alloc_new w _
  have hn0 : ¬ T w.heap.size := fun hh => Nat.lt_irrefl _ (ok.bnd h _ hh)
  have hL0 := ok.kept h hF
  have OK := Lib.hid ok
  have SK0 := Lib.hid (fun (wz : World) (xz : Frm) (sz : α) (hs : Stp M W T wz xz sz) => (Stp.ofNo hF hs : Stp M w T wz xz sz))
  have HW := Lib.hid (show W = w.alloc (.cells #[.pointer (some ⟨M.F, 0, none⟩), .func (.func M.g1) #[] #[.pointer (some ⟨M.P, 0, none⟩)], .func (.func M.g2) #[] #[.pointer (some ⟨M.P, 0, none⟩)], .func (.func M.g3) #[] #[.pointer (some ⟨M.P, 0, none⟩)], .func (.func M.g4) #[] #[.pointer (some ⟨M.P, 0, none⟩)]] 53 (0, 0)) from hW)
  have e1 := ok.e1
  have e2 := ok.e2
  have e3 := ok.e3
  have e4 := ok.e4
  obtain ⟨c0, c1, c2, c3, c4⟩ := five_cells hB0
  have HB0 := Lib.hid hB0
  have HN0 := Lib.hid hn0
  have HL0 := Lib.hid hL0
  clear h hF hB0 hn0 hL0 hW ok
  simp only [layA]
  go_enter Try.func119, Try.ntmps119
  go_wp2_with fail
  rw [← HW.out]
  have HC1 := Lib.hid (OK.out.cS (OK.out.kept HL0.out ((Fr.refl no _).drew)) 7 16 (by decide))
  refine still_tail_d 6 Try.mixed (by kernel_rfl) ?_
  simp only [List.take_succ_cons, List.take_zero, List.drop_succ_cons, List.drop_zero]
  repeat still_step
  refine wpStill_nil ?_
  go_wp2_with fail
  refine HC1.out.mono ?_
  rintro e w1 ⟨rfl, hs⟩
  clear HC1 c0 c1 c2 c3 c4
  have HE := Lib.hid (SK0.out _ _ _ (Stp.ofNo ((Fr.refl no _).drew) hs))
  clear hs
  go_wp2_with fail
  go_end0
  exact ⟨rfl, HE.out⟩
set_option maxHeartbeats 4000000 in
theorem data_any (M : Mach α) (ok : M.Ok) {w : World} {T : Nat → Prop} {x : Frm} {st : α} (h : M.LS w T x st) :
    Calls Try.prog 118 #[.agg (layA M)] w fun e w' => e = .returned (.tuple #[]) ∧ Stp M w T w' (datF M (x, st)).1 (datF M (x, st)).2 := by
  obtain ⟨W, hW⟩ : ∃ W, W = w.alloc (.cells (layA M) 53 (0, 0)) := ⟨_, rfl⟩
  have hF : Fr no w W := by rw [hW]; exact (Fr.refl no w).alloc _
  have hB0 : W.heap[w.heap.size]? = some (.cells (layA M) 53 (0, 0)) := by rw [hW]; exact heap_alloc_new w _
  have hn0 : ¬ T w.heap.size := fun hh => Nat.lt_irrefl _ (ok.bnd h _ hh)
  have hL0 := ok.kept h hF
  have OK := Lib.hid ok
  have SK0 := Lib.hid (fun (wz : World) (xz : Frm) (sz : α) (hs : Stp M W T wz xz sz) => (Stp.ofNo hF hs : Stp M w T wz xz sz))
  have HW := Lib.hid (show W = w.alloc (.cells #[.pointer (some ⟨M.F, 0, none⟩), .func (.func M.g1) #[] #[.pointer (some ⟨M.P, 0, none⟩)], .func (.func M.g2) #[] #[.pointer (some ⟨M.P, 0, none⟩)], .func (.func M.g3) #[] #[.pointer (some ⟨M.P, 0, none⟩)], .func (.func M.g4) #[] #[.pointer (some ⟨M.P, 0, none⟩)]] 53 (0, 0)) from hW)
  have e1 := ok.e1
  have e2 := ok.e2
  have e3 := ok.e3
  have e4 := ok.e4
  obtain ⟨c0, c1, c2, c3, c4⟩ := five_cells hB0
  have HB0 := Lib.hid hB0
  have HN0 := Lib.hid hn0
  have HL0 := Lib.hid hL0
  clear h hF hB0 hn0 hL0 hW ok
  simp only [layA]
  go_enter Try.func118, Try.ntmps118
  go_wp2_with fail
  rw [← HW.out]
  have HC1 := Lib.hid (OK.out.cU (OK.out.kept HL0.out ((Fr.refl no _).drew)) 5 8 (by decide))
  refine still_tail_d 6 Try.mixed (by kernel_rfl) ?_
  simp only [List.take_succ_cons, List.take_zero, List.drop_succ_cons, List.drop_zero]
  repeat still_step
  refine wpStill_nil ?_
  go_wp2_with fail
  refine HC1.out.mono ?_
  rintro e w1 ⟨rfl, hs⟩
  clear HC1 c0 c1 c2 c3 c4
  obtain ⟨T1, l1, f1, n1, hB1, hn1⟩ := hs.keep (L := w.heap.size) (show _ from HB0.out) HN0.out
  obtain ⟨c0, c1, c2, c3, c4⟩ := five_cells hB1
  have HB1 := Lib.hid hB1
  have HN1 := Lib.hid hn1
  have HL1 := Lib.hid l1
  have SK1 := Lib.hid (fun (wz : World) (xz : Frm) (sz : α) (hs2 : Stp M w1 T1 wz xz sz) => SK0.out _ _ _ (Stp.ofNo ((Fr.refl no _).drew) (Stp.trans f1 n1 hs2)))
  clear hs l1 f1 n1 hB1 hn1 SK0 HL0 HB0 HN0
  go_wp2_with fail
  have HC2 := Lib.hid (OK.out.cU (OK.out.kept HL1.out ((Fr.refl no _).drew)) 6 16 (by decide))
  refine still_tail_d 6 Try.mixed (by kernel_rfl) ?_
  simp only [List.take_succ_cons, List.take_zero, List.drop_succ_cons, List.drop_zero]
  repeat still_step
  refine wpStill_nil ?_
  go_wp2_with fail
  refine HC2.out.mono ?_
  rintro e w2 ⟨rfl, hs⟩
  clear HC2 c0 c1 c2 c3 c4
  obtain ⟨T2, l2, f2, n2, hB2, hn2⟩ := hs.keep (L := w.heap.size) (show _ from HB1.out) HN1.out
  obtain ⟨c0, c1, c2, c3, c4⟩ := five_cells hB2
  have HB2 := Lib.hid hB2
  have HN2 := Lib.hid hn2
  have HL2 := Lib.hid l2
  have SK2 := Lib.hid (fun (wz : World) (xz : Frm) (sz : α) (hs2 : Stp M w2 T2 wz xz sz) => SK1.out _ _ _ (Stp.ofNo ((Fr.refl no _).drew) (Stp.trans f2 n2 hs2)))
  clear hs l2 f2 n2 hB2 hn2 SK1 HL1 HB1 HN1
  go_wp2_with fail
  refine (message_any M OK.out HL2.out).mono ?_
  rintro e w3 ⟨rfl, hs⟩
  clear c0 c1 c2 c3 c4
  have HE := Lib.hid (SK2.out _ _ _ hs)
  clear hs
  go_wp2_with fail
  go_end0
  exact ⟨rfl, HE.out⟩
set_option maxHeartbeats 4000000 in
theorem beacon_any (M : Mach α) (ok : M.Ok) {w : World} {T : Nat → Prop} {x : Frm} {st : α} (h : M.LS w T x st) :
    Calls Try.prog 120 #[.agg (layA M)] w fun e w' => e = .returned (.tuple #[]) ∧ Stp M w T w' (beaF M (x, st)).1 (beaF M (x, st)).2 := by
  obtain ⟨W, hW⟩ : ∃ W, W = w.alloc (.cells (layA M) 53 (0, 0)) := ⟨_, rfl⟩
  have hF : Fr no w W := by rw [hW]; exact (Fr.refl no w).alloc _
  have hB0 : W.heap[w.heap.size]? = some (.cells (layA M) 53 (0, 0)) := by rw [hW]; exact heap_alloc_new w _
  have hn0 : ¬ T w.heap.size := fun hh => Nat.lt_irrefl _ (ok.bnd h _ hh)
  have hL0 := ok.kept h hF
  have OK := Lib.hid ok
  have SK0 := Lib.hid (fun (wz : World) (xz : Frm) (sz : α) (hs : Stp M W T wz xz sz) => (Stp.ofNo hF hs : Stp M w T wz xz sz))
  have HW := Lib.hid (show W = w.alloc (.cells #[.pointer (some ⟨M.F, 0, none⟩), .func (.func M.g1) #[] #[.pointer (some ⟨M.P, 0, none⟩)], .func (.func M.g2) #[] #[.pointer (some ⟨M.P, 0, none⟩)], .func (.func M.g3) #[] #[.pointer (some ⟨M.P, 0, none⟩)], .func (.func M.g4) #[] #[.pointer (some ⟨M.P, 0, none⟩)]] 53 (0, 0)) from hW)
  have e1 := ok.e1
  have e2 := ok.e2
  have e3 := ok.e3
  have e4 := ok.e4
  obtain ⟨c0, c1, c2, c3, c4⟩ := five_cells hB0
  have HB0 := Lib.hid hB0
  have HN0 := Lib.hid hn0
  have HL0 := Lib.hid hL0
  clear h hF hB0 hn0 hL0 hW ok
  simp only [layA]
  go_enter Try.func120, Try.ntmps120
  go_wp2_with fail
  rw [← HW.out]
  have HC1 := Lib.hid (OK.out.cU (OK.out.kept HL0.out ((Fr.refl no _).drew)) 8 27 (by decide))
  refine still_tail_d 6 Try.mixed (by kernel_rfl) ?_
  simp only [List.take_succ_cons, List.take_zero, List.drop_succ_cons, List.drop_zero]
  repeat still_step
  refine wpStill_nil ?_
  go_wp2_with fail
  refine HC1.out.mono ?_
  rintro e w1 ⟨rfl, hs⟩
  clear HC1 c0 c1 c2 c3 c4
  obtain ⟨T1, l1, f1, n1, hB1, hn1⟩ := hs.keep (L := w.heap.size) (show _ from HB0.out) HN0.out
  obtain ⟨c0, c1, c2, c3, c4⟩ := five_cells hB1
  have HB1 := Lib.hid hB1
  have HN1 := Lib.hid hn1
  have HL1 := Lib.hid l1
  have SK1 := Lib.hid (fun (wz : World) (xz : Frm) (sz : α) (hs2 : Stp M w1 T1 wz xz sz) => SK0.out _ _ _ (Stp.ofNo ((Fr.refl no _).drew) (Stp.trans f1 n1 hs2)))
  clear hs l1 f1 n1 hB1 hn1 SK0 HL0 HB0 HN0
  go_wp2_with fail
  have HC2 := Lib.hid (OK.out.cU (OK.out.kept HL1.out ((Fr.refl no _).drew)) 9 16 (by decide))
  refine still_tail_d 6 Try.mixed (by kernel_rfl) ?_
  simp only [List.take_succ_cons, List.take_zero, List.drop_succ_cons, List.drop_zero]
  repeat still_step
  refine wpStill_nil ?_
  go_wp2_with fail
  refine HC2.out.mono ?_
  rintro e w2 ⟨rfl, hs⟩
  clear HC2 c0 c1 c2 c3 c4
  obtain ⟨T2, l2, f2, n2, hB2, hn2⟩ := hs.keep (L := w.heap.size) (show _ from HB1.out) HN1.out
  obtain ⟨c0, c1, c2, c3, c4⟩ := five_cells hB2
  have HB2 := Lib.hid hB2
  have HN2 := Lib.hid hn2
  have HL2 := Lib.hid l2
  have SK2 := Lib.hid (fun (wz : World) (xz : Frm) (sz : α) (hs2 : Stp M w2 T2 wz xz sz) => SK1.out _ _ _ (Stp.ofNo ((Fr.refl no _).drew) (Stp.trans f2 n2 hs2)))
  clear hs l2 f2 n2 hB2 hn2 SK1 HL1 HB1 HN1
  go_wp2_with fail
  have HC3 := Lib.hid (OK.out.cU (OK.out.kept HL2.out ((Fr.refl no _).drew)) 10 16 (by decide))
  refine still_tail_d 6 Try.mixed (by kernel_rfl) ?_
  simp only [List.take_succ_cons, List.take_zero, List.drop_succ_cons, List.drop_zero]
  repeat still_step
  refine wpStill_nil ?_
  go_wp2_with fail
  refine HC3.out.mono ?_
  rintro e w3 ⟨rfl, hs⟩
  clear HC3 c0 c1 c2 c3 c4
  obtain ⟨T3, l3, f3, n3, hB3, hn3⟩ := hs.keep (L := w.heap.size) (show _ from HB2.out) HN2.out
  obtain ⟨c0, c1, c2, c3, c4⟩ := five_cells hB3
  have HB3 := Lib.hid hB3
  have HN3 := Lib.hid hn3
  have HL3 := Lib.hid l3
  have SK3 := Lib.hid (fun (wz : World) (xz : Frm) (sz : α) (hs2 : Stp M w3 T3 wz xz sz) => SK2.out _ _ _ (Stp.ofNo ((Fr.refl no _).drew) (Stp.trans f3 n3 hs2)))
  clear hs l3 f3 n3 hB3 hn3 SK2 HL2 HB2 HN2
  go_wp2_with fail
  refine (message_any M OK.out HL3.out).mono ?_
  rintro e w4 ⟨rfl, hs⟩
  clear c0 c1 c2 c3 c4
  have HE := Lib.hid (SK3.out _ _ _ hs)
  clear hs
  go_wp2_with fail
  go_end0
  exact ⟨rfl, HE.out⟩
set_option maxHeartbeats 4000000 in
theorem target_any (M : Mach α) (ok : M.Ok) {w : World} {T : Nat → Prop} {x : Frm} {st : α} (h : M.LS w T x st) :
    Calls Try.prog 78 #[.agg (layA M)] w fun e w' => e = .returned (.tuple #[]) ∧ Stp M w T w' (tgtF M (x, st)).1 (tgtF M (x, st)).2 := by
  obtain ⟨d0, d1, d2, d3, d4, d5, d6, d7, d8, d9, d10, d11⟩ := twelve_cells (ok.blk h)
  obtain ⟨W, hW⟩ : ∃ W, W = w.alloc (.cells (layA M) 53 (0, 0)) := ⟨_, rfl⟩
  have hF : Fr no w W := by rw [hW]; exact (Fr.refl no w).alloc _
  have hB0 : W.heap[w.heap.size]? = some (.cells (layA M) 53 (0, 0)) := by rw [hW]; exact heap_alloc_new w _
  have hn0 : ¬ T w.heap.size := fun hh => Nat.lt_irrefl _ (ok.bnd h _ hh)
  have hL0 := ok.kept h hF
  have OK := Lib.hid ok
  have SK0 := Lib.hid (fun (wz : World) (xz : Frm) (sz : α) (hs : Stp M W T wz xz sz) => (Stp.ofNo hF hs : Stp M w T wz xz sz))
  have HW := Lib.hid (show W = w.alloc (.cells #[.pointer (some ⟨M.F, 0, none⟩), .func (.func M.g1) #[] #[.pointer (some ⟨M.P, 0, none⟩)], .func (.func M.g2) #[] #[.pointer (some ⟨M.P, 0, none⟩)], .func (.func M.g3) #[] #[.pointer (some ⟨M.P, 0, none⟩)], .func (.func M.g4) #[] #[.pointer (some ⟨M.P, 0, none⟩)]] 53 (0, 0)) from hW)
  have y2 := hF.keepc d2
  have e1 := ok.e1
  have e2 := ok.e2
  have e3 := ok.e3
  have e4 := ok.e4
  obtain ⟨c0, c1, c2, c3, c4⟩ := five_cells hB0
  have HB0 := Lib.hid hB0
  have HN0 := Lib.hid hn0
  have HL0 := Lib.hid hL0
  clear h hF hB0 hn0 hL0 hW ok
  simp only [layA]
  go_enter Try.func78, Try.ntmps78
  go_wp2_with fail
  rw [← HW.out]
  clear d0 d1 d2 d3 d4 d5 d6 d7 d8 d9 d10 d11
  have HC1 := Lib.hid (OK.out.cF (OK.out.kept HL0.out ((Fr.refl no _).drew)) (x.t != -1))
  have HR := Lib.hid (show tgtF M (x, st) = if (M.fl (x.t != -1) st).1 then intF M 2 5 (x, (M.fl (x.t != -1) st).2) else (setI x 2 (-1), (M.fl (x.t != -1) st).2) from rfl)
  refine still_tail_d 8 Try.mixed (by kernel_rfl) ?_
  simp only [List.take_succ_cons, List.take_zero, List.drop_succ_cons, List.drop_zero]
  repeat still_step
  refine wpStill_nil ?_
  go_wp2_with fail
  refine HC1.out.mono ?_
  rintro e w1 ⟨rfl, hs⟩
  clear HC1 c0 c1 c2 c3 c4 y2
  generalize M.fl (x.t != -1) st = r at *
  obtain ⟨b, s1⟩ := r
  simp only at hs
  obtain ⟨T1, l1, f1, n1, hB1, hn1⟩ := hs.keep (L := w.heap.size) (show _ from HB0.out) HN0.out
  obtain ⟨c0, c1, c2, c3, c4⟩ := five_cells hB1
  have HB1 := Lib.hid hB1
  have HN1 := Lib.hid hn1
  have HL1 := Lib.hid l1
  have SK1 := Lib.hid (fun (wz : World) (xz : Frm) (sz : α) (hs2 : Stp M w1 T1 wz xz sz) => SK0.out _ _ _ (Stp.ofNo ((Fr.refl no _).drew) (Stp.trans f1 n1 hs2)))
  clear hs l1 f1 n1 hB1 hn1 SK0 HL0 HB0 HN0
  cases b
  · have HK := Lib.hid (OK.out.setT HL1.out)
    obtain ⟨d0, d1, d2, d3, d4, d5, d6, d7, d8, d9, d10, d11⟩ := twelve_cells (OK.out.blk HL1.out)
    have hfz : w1.frozen? ⟨M.F, 2, none⟩ = false := by simp [World.frozen?, OK.out.blk HL1.out]
    have HT := Lib.hid (OK.out.hF HL1.out)
    have HFR := Lib.hid ((Fr.refl T1 w1).setCell (p := ⟨M.F, 2, none⟩) (.inl HT.out) (.int .i64 (-1)))
    have HE := Lib.hid (SK1.out _ _ _ ⟨T1, HK.out, HFR.out, fun _ _ hh => hh⟩)
    clear d0 d1 d3 d4 d5 d6 d7 d8 d9 d10 d11 HK HFR
    go_wp2_with fail
    go_end0
    rw [HR.out]
    exact ⟨rfl, HE.out⟩
  · go_wp2_with fail
    have HC2 := Lib.hid (OK.out.cU (OK.out.kept HL1.out ((Fr.refl no _).drew)) 2 5 (by decide))
    refine still_tail_d 6 Try.mixed (by kernel_rfl) ?_
    simp only [List.take_succ_cons, List.take_zero, List.drop_succ_cons, List.drop_zero]
    repeat still_step
    refine wpStill_nil ?_
    go_wp2_with fail
    refine HC2.out.mono ?_
    rintro e w2 ⟨rfl, hs⟩
    clear HC2 c0 c1 c2 c3 c4
    have HE := Lib.hid (SK1.out _ _ _ (Stp.ofNo ((Fr.refl no _).drew) hs))
    clear hs
    go_wp2_with fail
    go_end0
    rw [HR.out]
    exact ⟨rfl, HE.out⟩
end Go.Proofs.Ytelpdihaonoedaa
