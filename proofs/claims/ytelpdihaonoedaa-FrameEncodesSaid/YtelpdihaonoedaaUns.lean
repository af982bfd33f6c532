/- Unsigned, Signed, Flag. -/
import Derived.Test.YtelpdihaonoedaaField
namespace Go.Proofs.Ytelpdihaonoedaa
open Go.RowKit

theorem still_tail_d {P : Program} {w : World} {id : Nat} {Q : Exit → Act → World → Prop} {a : Act} {l : List Oper} (n : Nat) (hm : P.follows .mixedOrders = true) (hB : Region.lexTailB .any l.toArray n = true)
    (h : wpStill P l.toArray w.drew (fun a' => wpList P l.toArray Q (l.drop n) a' w.drew) (l.take n) a) : (Code.region id l.toArray true).wp P Q a w := wp_region_still_tail n hm hB h

theorem Try.mixed : Try.prog.follows .mixedOrders = true := by kernel_rfl

set_option maxHeartbeats 400000 in
theorem un1_any (base B q0 q1 q2 : Nat) (v : Value) (bs : List Bool) (width : Nat) (n : Int) (w : World) (hw : width ≤ 63) (h1 : -9223372036854775808 ≤ n) (h2 : n ≤ 9223372036854775807)
    (hn : bs.length + width ≤ 524288) (hbase : base ≤ w.heap.size) (h : Wr base w B v bs)
    (c0 : w.cell? ⟨q0, 0, none⟩ = some (.int .i64 width)) (c1 : w.cell? ⟨q1, 0, none⟩ = some (.int .i64 n)) (c2 : w.cell? ⟨q2, 0, none⟩ = some (.pointer (some ⟨B, 0, none⟩))) :
    Calls Try.prog 109 #[.pointer (some ⟨q0, 0, none⟩), .pointer (some ⟨q1, 0, none⟩), .pointer (some ⟨q2, 0, none⟩)] w fun e w' => e = .returned (.tuple #[]) ∧ ∃ v', Wr base w' B v' (bs ++ ibits width n) ∧ Adv w w' B v v' := by
  have H := Lib.hid h
  clear h
  go_enter Try.func109, Try.ntmps109
  go_wp2_with fail
  refine (eachBit_any base B v bs width n w hw h1 h2 hn hbase H.out).mono ?_
  rintro e w' ⟨rfl, hr⟩
  have HR := Lib.hid hr
  clear hr
  go_wp2_with fail
  go_end0
  exact ⟨rfl, HR.out⟩
theorem sg1_any (base B q0 q1 q2 : Nat) (v : Value) (bs : List Bool) (width : Nat) (n : Int) (w : World) (hw : width ≤ 63) (h1 : -9223372036854775808 ≤ n) (h2 : n ≤ 9223372036854775807)
    (hn : bs.length + width ≤ 524288) (hbase : base ≤ w.heap.size) (h : Wr base w B v bs)
    (c0 : w.cell? ⟨q0, 0, none⟩ = some (.int .i64 width)) (c1 : w.cell? ⟨q1, 0, none⟩ = some (.int .i64 n)) (c2 : w.cell? ⟨q2, 0, none⟩ = some (.pointer (some ⟨B, 0, none⟩))) :
    Calls Try.prog 113 #[.pointer (some ⟨q0, 0, none⟩), .pointer (some ⟨q1, 0, none⟩), .pointer (some ⟨q2, 0, none⟩)] w fun e w' => e = .returned (.tuple #[]) ∧ ∃ v', Wr base w' B v' (bs ++ ibits width n) ∧ Adv w w' B v v' := by
  have H := Lib.hid h
  clear h
  go_enter Try.func113, Try.ntmps113
  go_wp2_with fail
  refine (eachBit_any base B v bs width n w hw h1 h2 hn hbase H.out).mono ?_
  rintro e w' ⟨rfl, hr⟩
  have HR := Lib.hid hr
  clear hr
  go_wp2_with fail
  go_end0
  exact ⟨rfl, HR.out⟩
theorem fl1_any (base B q0 q1 : Nat) (v : Value) (bs : List Bool) (b : Bool) (w : World)
    (hn : bs.length + 1 ≤ 524288) (hbase : base ≤ w.heap.size) (h : Wr base w B v bs)
    (c0 : w.cell? ⟨q0, 0, none⟩ = some (.pointer (some ⟨B, 0, none⟩))) (c1 : w.cell? ⟨q1, 0, none⟩ = some (.bool b)) :
    Calls Try.prog 114 #[.pointer (some ⟨q0, 0, none⟩), .pointer (some ⟨q1, 0, none⟩)] w fun e w' => e = .returned (.tuple #[]) ∧ ∃ v', Wr base w' B v' (bs ++ [b]) ∧ Adv w w' B v v' := by
  have H := Lib.hid h
  clear h
  go_enter Try.func114, Try.ntmps114
  go_wp2_with fail
  refine (push_any base B v bs b w (by omega) hbase H.out).mono ?_
  rintro e w' ⟨rfl, hr⟩
  have HR := Lib.hid hr
  clear hr
  go_wp2_with fail
  go_end0
  exact ⟨rfl, HR.out⟩

theorem uErr_zero {width n : Int} (h : uErr width n = 0) : 1 ≤ width ∧ width ≤ 63 := by
  unfold uErr at h; split at h
  · assumption
  · cases h
theorem sErr_zero {width n : Int} (h : sErr width n = 0) : 2 ≤ width ∧ width ≤ 63 := by
  unfold sErr at h; split at h
  · assumption
  · cases h

/-- 'field' with any of its closures. -/
theorem field_any (base B : Nat) (v : Value) (st : WSt) (err size : Int) (new : List Bool) (f : Nat) (cs : Array Value) (w : World) (h : WrS base w B v st) (hsz : err = 0 → size = new.length)
    (hf : ∀ w, Sem.run Try.prog (callFunc f cs) w = .ok (.enter f cs) w)
    (hc : err = 0 → Wr base w B v st.bs → st.bs.length + new.length ≤ 524288 → Calls Try.prog f cs w fun x w' => x = .returned (.tuple #[]) ∧ ∃ v', Wr base w' B v' (st.bs ++ new) ∧ Adv w w' B v v') :
    Calls Try.prog 107 #[.pointer (some ⟨B, 0, none⟩), .int .i64 err, .int .i64 size, .func (.func f) #[] cs] w fun x w' => x = .returned (.tuple #[]) ∧ ∃ v', WrS base w' B v' (wField err size new st) ∧ Adv w w' B v v' := by
  obtain ⟨bs, e⟩ := st
  by_cases he : e = 0
  · subst he
    by_cases he2 : err = 0
    · subst he2
      by_cases hs : size > 524288 - (bs.length : Int)
      · simp only [wField, hs, if_true, ne_eq, not_true, if_false]
        exact field_full base B v bs size _ w hs h
      · simp only [wField, hs, ne_eq, not_true, if_false]
        refine (field_ok base B v bs size f cs w hs h hf (hc rfl h.good (by have := hsz rfl; simp only; omega))).mono ?_
        rintro x w' ⟨rfl, v', h1, h2⟩
        exact ⟨rfl, v', h1.st (by have := hsz rfl; simp; omega), h2⟩
    · simp only [wField, he2, ne_eq, not_true, not_false_eq_true, if_false, if_true]
      exact field_err base B v bs err size _ w (by simpa using he2) h
  · simp only [wField, he, ne_eq, not_false_eq_true, if_true]
    refine (field_dead base B v bs e err size _ w (by simpa using he) h).mono ?_
    rintro x w' ⟨rfl, rfl⟩
    exact ⟨rfl, v, h, Adv.refl _ _ _⟩

def wUnsigned (width n : Int) (st : WSt) : WSt := wField (uErr width n) width (ibits width.toNat n) st
def wSigned (width n : Int) (st : WSt) : WSt := wField (sErr width n) width (ibits width.toNat n) st
def wFlag (b : Bool) (st : WSt) : WSt := wField 0 1 [b] st

set_option maxHeartbeats 400000 in
set_option maxRecDepth 20000 in
theorem unsigned_any (base B : Nat) (v : Value) (st : WSt) (width n : Int) (w : World) (h1 : -9223372036854775808 ≤ n) (h2 : n ≤ 9223372036854775807) (h : WrS base w B v st) :
    Calls Try.prog 71 #[.pointer (some ⟨B, 0, none⟩), .int .i64 width, .int .i64 n] w fun e w' => e = .returned (.tuple #[]) ∧ ∃ v', WrS base w' B v' (wUnsigned width n st) ∧ Adv w w' B v v' := by
  have H := Lib.hid h
  clear h
  go_enter Try.func71, Try.ntmps71
  go_wp2
  obtain ⟨w1, hw1⟩ : ∃ w1, w1 = (((w.alloc (Obj.cells #[Value.pointer (some { block := B, off := 0 })] 46)).alloc (Obj.cells #[Value.int IntKind.i64 width] 3)).alloc (Obj.cells #[Value.int IntKind.i64 n] 3)) := ⟨_, rfl⟩
  rw [← hw1]
  have hs : w1.heap.size = w.heap.size + 3 := by rw [hw1]; simp
  have HS := Lib.hid hs
  have c0 : w1.cell? ⟨w.heap.size, 0, none⟩ = some (.pointer (some ⟨B, 0, none⟩)) := by rw [hw1]; simp [go_sem]
  have c1 : w1.cell? ⟨w.heap.size + 1, 0, none⟩ = some (.int .i64 width) := by rw [hw1]; simp [go_sem]
  have c2 : w1.cell? ⟨w.heap.size + 1 + 1, 0, none⟩ = some (.int .i64 n) := by rw [hw1]; simp [go_sem]
  have H1 : WrS base w1 B v st := by rw [hw1]; exact ((H.out.alloc _).alloc _).alloc _
  have A1 : Adv w w1 B v v := by rw [hw1]; exact (((Adv.refl _ _ _).alloc _).alloc _).alloc _
  have HH := Lib.hid H1
  have AA := Lib.hid A1
  clear hw1 hs H1 A1
  refine still_tail_d 6 Try.mixed (by kernel_rfl) ?_
  simp only [List.take_succ_cons, List.take_zero, List.drop_succ_cons, List.drop_zero]
  repeat still_step
  still_call (checkUnsigned_any width n _)
  repeat still_step
  refine wpStill_nil ?_
  go_wp2_with fail
  refine (field_any base B v st (uErr width n) width (ibits width.toNat n) 109 _ _ HH.out.drew (fun he => ?_) (fun wx => ?_) (fun he hwr hle => ?_)).mono ?_
  · have := uErr_zero he; rw [ibits_len]; omega
  · simp [go_sem]
  · have hb := uErr_zero he
    obtain ⟨m, rfl⟩ := Int.eq_ofNat_of_zero_le (show 0 ≤ width by omega)
    rw [ibits_len] at hle
    have := HS.out
    have := H.out.hB
    have := lt_of_blk H.out.blk
    exact un1_any base B _ _ _ v st.bs m n _ (by omega) h1 h2 hle (by simp; omega) hwr c1 c2 c0
  rintro e w' ⟨rfl, v', hr, ha⟩
  have HR := Lib.hid hr
  have HA := Lib.hid ha
  clear hr ha
  go_wp2_with fail
  go_end0
  exact ⟨rfl, v', HR.out, AA.out.drew.trans HA.out⟩
set_option maxHeartbeats 400000 in
set_option maxRecDepth 20000 in
theorem signed_any (base B : Nat) (v : Value) (st : WSt) (width n : Int) (w : World) (h1 : -9223372036854775808 ≤ n) (h2 : n ≤ 9223372036854775807) (h : WrS base w B v st) :
    Calls Try.prog 73 #[.pointer (some ⟨B, 0, none⟩), .int .i64 width, .int .i64 n] w fun e w' => e = .returned (.tuple #[]) ∧ ∃ v', WrS base w' B v' (wSigned width n st) ∧ Adv w w' B v v' := by
  have H := Lib.hid h
  clear h
  go_enter Try.func73, Try.ntmps73
  go_wp2
  obtain ⟨w1, hw1⟩ : ∃ w1, w1 = (((w.alloc (Obj.cells #[Value.pointer (some { block := B, off := 0 })] 46)).alloc (Obj.cells #[Value.int IntKind.i64 width] 3)).alloc (Obj.cells #[Value.int IntKind.i64 n] 3)) := ⟨_, rfl⟩
  rw [← hw1]
  have hs : w1.heap.size = w.heap.size + 3 := by rw [hw1]; simp
  have HS := Lib.hid hs
  have c0 : w1.cell? ⟨w.heap.size, 0, none⟩ = some (.pointer (some ⟨B, 0, none⟩)) := by rw [hw1]; simp [go_sem]
  have c1 : w1.cell? ⟨w.heap.size + 1, 0, none⟩ = some (.int .i64 width) := by rw [hw1]; simp [go_sem]
  have c2 : w1.cell? ⟨w.heap.size + 1 + 1, 0, none⟩ = some (.int .i64 n) := by rw [hw1]; simp [go_sem]
  have H1 : WrS base w1 B v st := by rw [hw1]; exact ((H.out.alloc _).alloc _).alloc _
  have A1 : Adv w w1 B v v := by rw [hw1]; exact (((Adv.refl _ _ _).alloc _).alloc _).alloc _
  have HH := Lib.hid H1
  have AA := Lib.hid A1
  clear hw1 hs H1 A1
  refine still_tail_d 6 Try.mixed (by kernel_rfl) ?_
  simp only [List.take_succ_cons, List.take_zero, List.drop_succ_cons, List.drop_zero]
  repeat still_step
  still_call (checkSigned_any width n _)
  repeat still_step
  refine wpStill_nil ?_
  go_wp2_with fail
  refine (field_any base B v st (sErr width n) width (ibits width.toNat n) 113 _ _ HH.out.drew (fun he => ?_) (fun wx => ?_) (fun he hwr hle => ?_)).mono ?_
  · have := sErr_zero he; rw [ibits_len]; omega
  · simp [go_sem]
  · have hb := sErr_zero he
    obtain ⟨m, rfl⟩ := Int.eq_ofNat_of_zero_le (show 0 ≤ width by omega)
    rw [ibits_len] at hle
    have := HS.out
    have := H.out.hB
    have := lt_of_blk H.out.blk
    exact sg1_any base B _ _ _ v st.bs m n _ (by omega) h1 h2 hle (by simp; omega) hwr c1 c2 c0
  rintro e w' ⟨rfl, v', hr, ha⟩
  have HR := Lib.hid hr
  have HA := Lib.hid ha
  clear hr ha
  go_wp2_with fail
  go_end0
  exact ⟨rfl, v', HR.out, AA.out.drew.trans HA.out⟩

set_option maxHeartbeats 400000 in
set_option maxRecDepth 20000 in
theorem flag_any (base B : Nat) (v : Value) (st : WSt) (b : Bool) (w : World) (h : WrS base w B v st) :
    Calls Try.prog 75 #[.pointer (some ⟨B, 0, none⟩), .bool b] w fun e w' => e = .returned (.tuple #[]) ∧ ∃ v', WrS base w' B v' (wFlag b st) ∧ Adv w w' B v v' := by
  have H := Lib.hid h
  clear h
  go_enter Try.func75, Try.ntmps75
  go_wp2_with fail
  have H1 : WrS base ((w.alloc (.cells #[.pointer (some ⟨B, 0, none⟩)] 46)).alloc (.cells #[.bool b] 4)) B v st := (H.out.alloc _).alloc _
  refine (field_any base B v st 0 1 [b] 114 _ _ H1 (fun _ => rfl) (fun wx => ?_) (fun _ hwr hle => ?_)).mono ?_
  · simp [go_sem]
  · have := H.out.hB
    have := lt_of_blk H.out.blk
    exact fl1_any base B _ _ v st.bs b _ hle (by simp; omega) hwr (by simp [go_sem]) (by simp [go_sem])
  rintro e w' ⟨rfl, v', hr, ha⟩
  have HR := Lib.hid hr
  have HA := Lib.hid ha
  clear hr ha H1
  go_wp2_with fail
  go_end0
  exact ⟨rfl, v', HR.out, (((Adv.refl _ _ _).alloc _).alloc _).trans HA.out⟩

end Go.Proofs.Ytelpdihaonoedaa
