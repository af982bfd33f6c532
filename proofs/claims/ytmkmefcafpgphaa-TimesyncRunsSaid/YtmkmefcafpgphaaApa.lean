/- Apart. -/
import Derived.Test.YtmkmefcafpgphaaAdj
import Derived.Deep.RegionHeld3
import Derived.StillTailTactics
import Derived.BigRegion
import Derived.Deep.RegionWith
namespace Go.Proofs.Ytmkmefcafpgphaa
set_option linter.unusedVariables false
open Go.RowKit

def apV (oa da ob db t : Int) : Int := if okC oa da && okC ob db && isT t then sh ob db t - sh oa da t else 0
def apE (oa da ob db t : Int) : Int := if okC oa da && okC ob db then (if isT t then 0 else 2) else 1
/-- Two boxed clocks. -/
structure Two (w W : World) (oa da ob db : Int) : Prop where
  f : Fr no w W
  a0 : W.cell? ⟨w.heap.size, 0, none⟩ = some (.int .i64 oa)
  a1 : W.cell? ⟨w.heap.size, 1, none⟩ = some (.int .i64 da)
  b0 : W.cell? ⟨w.heap.size + 1, 0, none⟩ = some (.int .i64 ob)
  b1 : W.cell? ⟨w.heap.size + 1, 1, none⟩ = some (.int .i64 db)
theorem two_box (w : World) (oa da ob db : Int) : Two w ((w.alloc (.cells #[.int .i64 oa, .int .i64 da] 23 (0, 0))).alloc (.cells #[.int .i64 ob, .int .i64 db] 23 (0, 0))) oa da ob db := by
  have h1 := alloc_keeps (heap_alloc_new w (.cells #[.int .i64 oa, .int .i64 da] 23 (0, 0))) (.cells #[.int .i64 ob, .int .i64 db] 23 (0, 0))
  have h2 : ((w.alloc (.cells #[.int .i64 oa, .int .i64 da] 23 (0, 0))).alloc (.cells #[.int .i64 ob, .int .i64 db] 23 (0, 0))).heap[w.heap.size + 1]? = some (.cells #[.int .i64 ob, .int .i64 db] 23 (0, 0)) := by
    simpa using heap_alloc_new (w.alloc (.cells #[.int .i64 oa, .int .i64 da] 23 (0, 0))) (.cells #[.int .i64 ob, .int .i64 db] 23 (0, 0))
  exact ⟨((Fr.refl no w).alloc _).alloc _, (two_cells h1).1, (two_cells h1).2.1, (two_cells h2).1, (two_cells h2).2.1⟩
theorem Two.past {w W W' : World} {oa da ob db : Int} (h : Two w W oa da ob db) (k : Fr no W W') : Two w W' oa da ob db :=
  ⟨h.f.noTrans k, k.keepc h.a0, k.keepc h.a1, k.keepc h.b0, k.keepc h.b1⟩
set_option maxHeartbeats 4000000 in
theorem apart_any (oa da ob db t : Int) (w : World) : Calls Try.prog 33 #[.agg #[.int .i64 oa, .int .i64 da], .agg #[.int .i64 ob, .int .i64 db], .int .i64 t] w fun e w' => e = .returned (.tuple #[.int .i64 (apV oa da ob db t), .int .i64 (apE oa da ob db t)]) ∧ Fr no w w' := by
  have hT := two_box w oa da ob db
  obtain ⟨W, hW⟩ : ∃ W, W = (w.alloc (.cells #[.int .i64 oa, .int .i64 da] 23 (0, 0))).alloc (.cells #[.int .i64 ob, .int .i64 db] 23 (0, 0)) := ⟨_, rfl⟩
  rw [← hW] at hT
  have HW := Lib.hid hW
  have HT := Lib.hid hT
  clear hW hT
  have HC := Lib.hid (check_any oa da W)
  have HD := Lib.hid (fun w => check_any ob db w)
  have HI := Lib.hid (fun w => isTime_any t w)
  cases ka : okC oa da
  · rw [erC_1 ka] at HC
    have HR := Lib.hid (show apV oa da ob db t = 0 ∧ apE oa da ob db t = 1 by simp [apV, apE, ka])
    clear ka
    go_enter Try.func33, Try.ntmps33
    go_wp2_with fail
    rw [← HW.out]
    obtain ⟨f, a0, a1, b0, b1⟩ := HT.out
    refine HC.out.mono ?_
    rintro e w1 ⟨rfl, f1⟩
    have HF1 := Lib.hid (f.noTrans f1)
    clear f1 f
    go_wp2_with fail
    go_ret2
    rw [HR.out.1, HR.out.2]
    exact ⟨rfl, HF1.out⟩
  · rw [erC_0 ka] at HC
    cases kb : okC ob db
    · rw [erC_1 kb] at HD
      have HR := Lib.hid (show apV oa da ob db t = 0 ∧ apE oa da ob db t = 1 by simp [apV, apE, ka, kb])
      clear ka kb
      go_enter Try.func33, Try.ntmps33
      obtain ⟨f, a0, a1, b0, b1⟩ := HT.out
      go_wp2_with fail
      rw [← HW.out]
      refine HC.out.mono ?_
      rintro e w1 ⟨rfl, f1⟩
      have HF1 := Lib.hid (HT.out.past f1)
      obtain ⟨f, a0, a1, b0, b1⟩ := HF1.out
      clear f1 f
      go_wp2_with fail
      refine (HD.out _).mono ?_
      rintro e w2 ⟨rfl, f2⟩
      have HF2 := Lib.hid (HF1.out.f.noTrans f2)
      clear f2
      go_wp2_with fail
      go_ret2
      rw [HR.out.1, HR.out.2]
      exact ⟨rfl, HF2.out⟩
    · rw [erC_0 kb] at HD
      cases kt : isT t
      · rw [kt] at HI
        have HR := Lib.hid (show apV oa da ob db t = 0 ∧ apE oa da ob db t = 2 by simp [apV, apE, ka, kb, kt])
        clear ka kb kt
        go_enter Try.func33, Try.ntmps33
        obtain ⟨f, a0, a1, b0, b1⟩ := HT.out
        go_wp2_with fail
        rw [← HW.out]
        refine HC.out.mono ?_
        rintro e w1 ⟨rfl, f1⟩
        have HF1 := Lib.hid (HT.out.past f1)
        obtain ⟨f, a0, a1, b0, b1⟩ := HF1.out
        clear f1 f
        go_wp2_with fail
        refine (HD.out _).mono ?_
        rintro e w2 ⟨rfl, f2⟩
        have HF2 := Lib.hid (HF1.out.f.noTrans f2)
        clear f2
        go_wp2_with fail
        refine (HI.out _).mono ?_
        rintro e w3 ⟨rfl, rfl⟩
        go_wp2_with fail
        go_ret2
        rw [HR.out.1, HR.out.2]
        exact ⟨rfl, HF2.out⟩
      · rw [kt] at HI
        obtain ⟨t0, t1⟩ := isT_t.1 kt
        have HR := Lib.hid (show apV oa da ob db t = sh ob db t - sh oa da t ∧ apE oa da ob db t = 0 by simp [apV, apE, ka, kb, kt])
        have KA := Lib.hid (OkC.of ka)
        have KB := Lib.hid (OkC.of kb)
        obtain ⟨u1, u2⟩ := fl_bd2 KA.out t0 t1
        obtain ⟨u3, u4⟩ := fl_bd2 KB.out t0 t1
        clear ka kb kt
        by_cases he : oa = ob ∧ da = db
        · obtain ⟨rfl, rfl⟩ := he
          rw [Int.sub_self] at HR
          go_enter Try.func33, Try.ntmps33
          obtain ⟨f, a0, a1, b0, b1⟩ := HT.out
          go_wp2_with fail
          rw [← HW.out]
          refine HC.out.mono ?_
          rintro e w1 ⟨rfl, f1⟩
          have HF1 := Lib.hid (HT.out.past f1)
          obtain ⟨f, a0, a1, b0, b1⟩ := HF1.out
          clear f1 f
          go_wp2_with fail
          refine (HD.out _).mono ?_
          rintro e w2 ⟨rfl, f2⟩
          have HF2 := Lib.hid (HF1.out.past f2)
          clear f2 a0 a1 b0 b1
          go_wp2_with fail
          refine (HI.out _).mono ?_
          rintro e w3 ⟨rfl, rfl⟩
          obtain ⟨f, a0, a1, b0, b1⟩ := HF2.out
          clear f
          go_wp2_with fail
          go_ret2
          rw [HR.out.1, HR.out.2]
          exact ⟨rfl, HF2.out.f⟩
        by_cases he1 : oa = ob
        · subst he1
          have he2 : ¬ da = db := fun h => he ⟨rfl, h⟩
          clear he
          have HSA := Lib.hid (fun bc w c0 c1 => shows_any oa da t bc w KA.out t0 t1 c0 c1)
          have HSB := Lib.hid (fun bc w c0 c1 => shows_any oa db t bc w KB.out t0 t1 c0 c1)
          generalize sh oa da t = x at *
          generalize sh oa db t = y at *
          have hw1 : IntKind.i64.wrap (y - x) = y - x := IntWalk.i64_in _ (by omega)
          go_enter Try.func33, Try.ntmps33
          obtain ⟨f, a0, a1, b0, b1⟩ := HT.out
          go_wp2_with fail
          rw [← HW.out]
          refine HC.out.mono ?_
          rintro e w1 ⟨rfl, f1⟩
          have HF1 := Lib.hid (HT.out.past f1)
          obtain ⟨f, a0, a1, b0, b1⟩ := HF1.out
          clear f1 f
          go_wp2_with fail
          refine (HD.out _).mono ?_
          rintro e w2 ⟨rfl, f2⟩
          have HF2 := Lib.hid (HF1.out.past f2)
          clear f2 a0 a1 b0 b1
          go_wp2_with fail
          refine (HI.out _).mono ?_
          rintro e w3 ⟨rfl, rfl⟩
          obtain ⟨f, a0, a1, b0, b1⟩ := HF2.out
          clear f
          have efd := field_dial
          have eg := enter39
          go_wp2_with fail
          have tA : True := trivial
          have tB : True := trivial
          have tC : True := trivial
          go_region_held3 (fun w' => w'.cell? ⟨w.heap.size, 0, none⟩ = some (.int .i64 oa) ∧ w'.cell? ⟨w.heap.size, 1, none⟩ = some (.int .i64 da) ∧ w'.cell? ⟨w.heap.size + 1, 0, none⟩ = some (.int .i64 oa) ∧ w'.cell? ⟨w.heap.size + 1, 1, none⟩ = some (.int .i64 db)) (go_keep)
            (first
              | (go_at_call_of 58 db; have _tk := tA; refine (dialOf_any oa db _).mono ?_; rintro e w4 ⟨rfl, h4, f4⟩; clear _tk tA; have j0 := f4.keepc a0; have j1 := f4.keepc a1; have j2 := f4.keepc b0; have j3 := f4.keepc b1; have j4 := (two_cells h4).1; have j5 := (two_cells h4).2.1)
              | (go_at_fn 73; have _tk := tB; refine (HSB.out _ _ j4 j5).mono ?_; rintro e w5 ⟨rfl, q5, rfl⟩; clear _tk tB)
              | (go_at_call_of 58 da; refine (dialOf_any oa da _).mono ?_; rintro e w6 ⟨rfl, h6, f6⟩; have i0 := f6.keepc j0; have i1 := f6.keepc j1; have i2 := f6.keepc j2; have i3 := f6.keepc j3; have i4 := (two_cells h6).1; have i5 := (two_cells h6).2.1)
              | (go_at_fn 73; have _tk := tC; refine (HSA.out _ _ i4 i5).mono ?_; rintro e w7 ⟨rfl, q7, rfl⟩; clear _tk tC))
          have HF7 := Lib.hid ((((HF2.out.f.drew.noTrans f4).drewN q5).noTrans f6).drewN q7)
          clear f4 f6
          go_wp2_with fail
          go_ret2
          rw [HR.out.1, HR.out.2]
          exact ⟨rfl, HF7.out⟩
        · clear he
          have HSA := Lib.hid (fun bc w c0 c1 => shows_any oa da t bc w KA.out t0 t1 c0 c1)
          have HSB := Lib.hid (fun bc w c0 c1 => shows_any ob db t bc w KB.out t0 t1 c0 c1)
          generalize sh oa da t = x at *
          generalize sh ob db t = y at *
          have hw1 : IntKind.i64.wrap (y - x) = y - x := IntWalk.i64_in _ (by omega)
          go_enter Try.func33, Try.ntmps33
          obtain ⟨f, a0, a1, b0, b1⟩ := HT.out
          go_wp2_with fail
          rw [← HW.out]
          refine HC.out.mono ?_
          rintro e w1 ⟨rfl, f1⟩
          have HF1 := Lib.hid (HT.out.past f1)
          obtain ⟨f, a0, a1, b0, b1⟩ := HF1.out
          clear f1 f
          go_wp2_with fail
          refine (HD.out _).mono ?_
          rintro e w2 ⟨rfl, f2⟩
          have HF2 := Lib.hid (HF1.out.past f2)
          clear f2 a0 a1 b0 b1
          go_wp2_with fail
          refine (HI.out _).mono ?_
          rintro e w3 ⟨rfl, rfl⟩
          obtain ⟨f, a0, a1, b0, b1⟩ := HF2.out
          clear f
          have efd := field_dial
          have eg := enter39
          go_wp2_with fail
          have tA : True := trivial
          have tB : True := trivial
          have tC : True := trivial
          go_region_held3 (fun w' => w'.cell? ⟨w.heap.size, 0, none⟩ = some (.int .i64 oa) ∧ w'.cell? ⟨w.heap.size, 1, none⟩ = some (.int .i64 da) ∧ w'.cell? ⟨w.heap.size + 1, 0, none⟩ = some (.int .i64 ob) ∧ w'.cell? ⟨w.heap.size + 1, 1, none⟩ = some (.int .i64 db)) (go_keep)
            (first
              | (go_at_call_of 58 db; have _tk := tA; refine (dialOf_any ob db _).mono ?_; rintro e w4 ⟨rfl, h4, f4⟩; clear _tk tA; have j0 := f4.keepc a0; have j1 := f4.keepc a1; have j2 := f4.keepc b0; have j3 := f4.keepc b1; have j4 := (two_cells h4).1; have j5 := (two_cells h4).2.1)
              | (go_at_fn 73; have _tk := tB; refine (HSB.out _ _ j4 j5).mono ?_; rintro e w5 ⟨rfl, q5, rfl⟩; clear _tk tB)
              | (go_at_call_of 58 da; refine (dialOf_any oa da _).mono ?_; rintro e w6 ⟨rfl, h6, f6⟩; have i0 := f6.keepc j0; have i1 := f6.keepc j1; have i2 := f6.keepc j2; have i3 := f6.keepc j3; have i4 := (two_cells h6).1; have i5 := (two_cells h6).2.1)
              | (go_at_fn 73; have _tk := tC; refine (HSA.out _ _ i4 i5).mono ?_; rintro e w7 ⟨rfl, q7, rfl⟩; clear _tk tC))
          have HF7 := Lib.hid ((((HF2.out.f.drew.noTrans f4).drewN q5).noTrans f6).drewN q7)
          clear f4 f6
          go_wp2_with fail
          go_ret2
          rw [HR.out.1, HR.out.2]
          exact ⟨rfl, HF7.out⟩
end Go.Proofs.Ytmkmefcafpgphaa
