/- The document's own crossing. -/
import Derived.Test.YtdenlinehjigaaaWit
namespace Go.Proofs.Ytdenlinehjigaaa
open Go.RowKit

def crV (pq rs p0 q0 r0 s0 b1 b2 b3 b4 : Bool) : Bool := (pq && rs) || (p0 && b1) || (q0 && b2) || (r0 && b3) || (s0 && b4)
def crR (ax ay bx by_ cx cy dx dy : Int) : Bool :=
  crV (decide (tn ax ay bx by_ cx cy * tn ax ay bx by_ dx dy < 0)) (decide (tn cx cy dx dy ax ay * tn cx cy dx dy bx by_ < 0)) (tn ax ay bx by_ cx cy == 0) (tn ax ay bx by_ dx dy == 0) (tn cx cy dx dy ax ay == 0) (tn cx cy dx dy bx by_ == 0)
    (inB ax ay bx by_ cx cy) (inB ax ay bx by_ dx dy) (inB cx cy dx dy ax ay) (inB cx cy dx dy bx by_)
theorem tri_wrap {p q : Int} (hp : tri p) (hq : tri q) : IntKind.i64.wrap (p * q) = p * q := by
  rcases hp with rfl | rfl | rfl <;> rcases hq with rfl | rfl | rfl <;> rfl
set_option maxHeartbeats 40000000 in
theorem crossesR_in (ax ay bx by_ cx cy dx dy f p q r s : Int) (w : World) (hp : tri p) (hq : tri q) (hr : tri r) (hs : tri s)
    (KT0 : Hid (∀ w, Calls Try.prog 159 #[.agg #[.int .i64 ax, .int .i64 ay], .agg #[.int .i64 bx, .int .i64 by_], .agg #[.int .i64 cx, .int .i64 cy]] w fun e w' => e = .returned (.int .i64 p) ∧ Fr no w w'))
    (KT1 : Hid (∀ w, Calls Try.prog 159 #[.agg #[.int .i64 ax, .int .i64 ay], .agg #[.int .i64 bx, .int .i64 by_], .agg #[.int .i64 dx, .int .i64 dy]] w fun e w' => e = .returned (.int .i64 q) ∧ Fr no w w'))
    (KT2 : Hid (∀ w, Calls Try.prog 159 #[.agg #[.int .i64 cx, .int .i64 cy], .agg #[.int .i64 dx, .int .i64 dy], .agg #[.int .i64 ax, .int .i64 ay]] w fun e w' => e = .returned (.int .i64 r) ∧ Fr no w w'))
    (KT3 : Hid (∀ w, Calls Try.prog 159 #[.agg #[.int .i64 cx, .int .i64 cy], .agg #[.int .i64 dx, .int .i64 dy], .agg #[.int .i64 bx, .int .i64 by_]] w fun e w' => e = .returned (.int .i64 s) ∧ Fr no w w')) :
    Calls Try.prog 155 #[.agg #[.int .i64 ax, .int .i64 ay], .agg #[.int .i64 bx, .int .i64 by_], .agg #[.int .i64 cx, .int .i64 cy, .int .i64 dx, .int .i64 dy, .int .i64 f]] w fun e w' => e = .returned (.bool (crV (decide (p * q < 0)) (decide (r * s < 0)) (p == 0) (q == 0) (r == 0) (s == 0) (inB ax ay bx by_ cx cy) (inB ax ay bx by_ dx dy) (inB cx cy dx dy ax ay) (inB cx cy dx dy bx by_))) ∧ Fr no w w' := by
  have KW0 := Lib.hid (fun w => withinR_any ax ay bx by_ cx cy w)
  have KW1 := Lib.hid (fun w => withinR_any ax ay bx by_ dx dy w)
  have KW2 := Lib.hid (fun w => withinR_any cx cy dx dy ax ay w)
  have KW3 := Lib.hid (fun w => withinR_any cx cy dx dy bx by_ w)
  have wr1 := tri_wrap hp hq
  have wr2 := tri_wrap hr hs
  clear hp hq hr hs
  have KS := Lib.hid (show ∀ w0 w' : World, Fr no w0 w' → w0.cell? ⟨w.heap.size, 0, none⟩ = some (.int .i64 ax) → w0.cell? ⟨w.heap.size, 1, none⟩ = some (.int .i64 ay) → w0.cell? ⟨w.heap.size + 1, 0, none⟩ = some (.int .i64 bx) → w0.cell? ⟨w.heap.size + 1, 1, none⟩ = some (.int .i64 by_) → w0.cell? ⟨w.heap.size + 1 + 1, 0, none⟩ = some (.int .i64 cx) → w0.cell? ⟨w.heap.size + 1 + 1, 1, none⟩ = some (.int .i64 cy) → w0.cell? ⟨w.heap.size + 1 + 1, 2, none⟩ = some (.int .i64 dx) → w0.cell? ⟨w.heap.size + 1 + 1, 3, none⟩ = some (.int .i64 dy) → w0.cell? ⟨w.heap.size + 1 + 1, 4, none⟩ = some (.int .i64 f) → (w'.cell? ⟨w.heap.size, 0, none⟩ = some (.int .i64 ax) ∧ w'.cell? ⟨w.heap.size, 1, none⟩ = some (.int .i64 ay) ∧ w'.cell? ⟨w.heap.size + 1, 0, none⟩ = some (.int .i64 bx) ∧ w'.cell? ⟨w.heap.size + 1, 1, none⟩ = some (.int .i64 by_) ∧ w'.cell? ⟨w.heap.size + 1 + 1, 0, none⟩ = some (.int .i64 cx) ∧ w'.cell? ⟨w.heap.size + 1 + 1, 1, none⟩ = some (.int .i64 cy) ∧ w'.cell? ⟨w.heap.size + 1 + 1, 2, none⟩ = some (.int .i64 dx) ∧ w'.cell? ⟨w.heap.size + 1 + 1, 3, none⟩ = some (.int .i64 dy) ∧ w'.cell? ⟨w.heap.size + 1 + 1, 4, none⟩ = some (.int .i64 f)) from fun _ _ h a0 a1 a2 a3 a4 a5 a6 a7 a8 => ⟨h.keepc a0, h.keepc a1, h.keepc a2, h.keepc a3, h.keepc a4, h.keepc a5, h.keepc a6, h.keepc a7, h.keepc a8⟩)
  obtain ⟨W, hW⟩ : ∃ W, W = (((w.alloc (.cells #[.int .i64 ax, .int .i64 ay] 42 (0, 0))).alloc (.cells #[.int .i64 bx, .int .i64 by_] 42 (0, 0))).alloc (.cells #[.int .i64 cx, .int .i64 cy, .int .i64 dx, .int .i64 dy, .int .i64 f] 101 (0, 0))) := ⟨_, rfl⟩
  have HF := Lib.hid (show Fr no w W by rw [hW]; exact (((Fr.refl no w).alloc _).alloc _).alloc _)
  have c0 : W.cell? ⟨w.heap.size, 0, none⟩ = some (.int .i64 ax) := by rw [hW]; go_simp
  have c1 : W.cell? ⟨w.heap.size, 1, none⟩ = some (.int .i64 ay) := by rw [hW]; go_simp
  have c2 : W.cell? ⟨w.heap.size + 1, 0, none⟩ = some (.int .i64 bx) := by rw [hW]; go_simp
  have c3 : W.cell? ⟨w.heap.size + 1, 1, none⟩ = some (.int .i64 by_) := by rw [hW]; go_simp
  have c4 : W.cell? ⟨w.heap.size + 1 + 1, 0, none⟩ = some (.int .i64 cx) := by rw [hW]; go_simp
  have c5 : W.cell? ⟨w.heap.size + 1 + 1, 1, none⟩ = some (.int .i64 cy) := by rw [hW]; go_simp
  have c6 : W.cell? ⟨w.heap.size + 1 + 1, 2, none⟩ = some (.int .i64 dx) := by rw [hW]; go_simp
  have c7 : W.cell? ⟨w.heap.size + 1 + 1, 3, none⟩ = some (.int .i64 dy) := by rw [hW]; go_simp
  have c8 : W.cell? ⟨w.heap.size + 1 + 1, 4, none⟩ = some (.int .i64 f) := by rw [hW]; go_simp
  have HW := Lib.hid hW
  clear hW
  go_enter Try.func155, Try.ntmps155
  go_wp2_with fail
  rw [← HW.out]
  have tokf3 : True := trivial
  have tokf4 : True := trivial
  go_region_held3 (fun w' => w'.cell? ⟨w.heap.size, 0, none⟩ = some (.int .i64 ax) ∧ w'.cell? ⟨w.heap.size, 1, none⟩ = some (.int .i64 ay) ∧ w'.cell? ⟨w.heap.size + 1, 0, none⟩ = some (.int .i64 bx) ∧ w'.cell? ⟨w.heap.size + 1, 1, none⟩ = some (.int .i64 by_) ∧ w'.cell? ⟨w.heap.size + 1 + 1, 0, none⟩ = some (.int .i64 cx) ∧ w'.cell? ⟨w.heap.size + 1 + 1, 1, none⟩ = some (.int .i64 cy) ∧ w'.cell? ⟨w.heap.size + 1 + 1, 2, none⟩ = some (.int .i64 dx) ∧ w'.cell? ⟨w.heap.size + 1 + 1, 3, none⟩ = some (.int .i64 dy) ∧ w'.cell? ⟨w.heap.size + 1 + 1, 4, none⟩ = some (.int .i64 f)) (go_keep)
    (first
      | (go_at_call 159; have _tk := tokf3; refine (KT0.out _).mono ?_; rintro e w3 ⟨rfl, f3⟩; clear _tk tokf3; obtain ⟨kf30, kf31, kf32, kf33, kf34, kf35, kf36, kf37, kf38⟩ := KS.out _ _ f3 c0 c1 c2 c3 c4 c5 c6 c7 c8)
      | (go_at_call 159; have _tk := tokf4; refine (KT1.out _).mono ?_; rintro e w4 ⟨rfl, f4⟩; clear _tk tokf4; obtain ⟨kf40, kf41, kf42, kf43, kf44, kf45, kf46, kf47, kf48⟩ := KS.out _ _ f4 kf30 kf31 kf32 kf33 kf34 kf35 kf36 kf37 kf38))
  have HF4 := Lib.hid ((HF.out.drew.noTrans f3).noTrans f4)
  clear f3 f4 c0 kf30 c1 kf31 c2 kf32 c3 kf33 c4 kf34 c5 kf35 c6 kf36 c7 kf37 c8 kf38
  go_wp2_with fail
  have tokf5 : True := trivial
  have tokf6 : True := trivial
  go_region_held3 (fun w' => w'.cell? ⟨w.heap.size, 0, none⟩ = some (.int .i64 ax) ∧ w'.cell? ⟨w.heap.size, 1, none⟩ = some (.int .i64 ay) ∧ w'.cell? ⟨w.heap.size + 1, 0, none⟩ = some (.int .i64 bx) ∧ w'.cell? ⟨w.heap.size + 1, 1, none⟩ = some (.int .i64 by_) ∧ w'.cell? ⟨w.heap.size + 1 + 1, 0, none⟩ = some (.int .i64 cx) ∧ w'.cell? ⟨w.heap.size + 1 + 1, 1, none⟩ = some (.int .i64 cy) ∧ w'.cell? ⟨w.heap.size + 1 + 1, 2, none⟩ = some (.int .i64 dx) ∧ w'.cell? ⟨w.heap.size + 1 + 1, 3, none⟩ = some (.int .i64 dy) ∧ w'.cell? ⟨w.heap.size + 1 + 1, 4, none⟩ = some (.int .i64 f)) (go_keep)
    (first
      | (go_at_call 159; have _tk := tokf5; refine (KT2.out _).mono ?_; rintro e w5 ⟨rfl, f5⟩; clear _tk tokf5; obtain ⟨kf50, kf51, kf52, kf53, kf54, kf55, kf56, kf57, kf58⟩ := KS.out _ _ f5 kf40 kf41 kf42 kf43 kf44 kf45 kf46 kf47 kf48)
      | (go_at_call 159; have _tk := tokf6; refine (KT3.out _).mono ?_; rintro e w6 ⟨rfl, f6⟩; clear _tk tokf6; obtain ⟨kf60, kf61, kf62, kf63, kf64, kf65, kf66, kf67, kf68⟩ := KS.out _ _ f6 kf50 kf51 kf52 kf53 kf54 kf55 kf56 kf57 kf58))
  have HF6 := Lib.hid ((HF4.out.drew.noTrans f5).noTrans f6)
  clear f5 f6 kf40 kf50 kf41 kf51 kf42 kf52 kf43 kf53 kf44 kf54 kf45 kf55 kf46 kf56 kf47 kf57 kf48 kf58
  by_cases hpq : p * q < 0
  · by_cases hrs : r * s < 0
    · go_wp2_with fail
      go_ret
      exact ⟨ret_bool (by first | (simp [crV, *]; done) | (simp [crV, *]; omega)), HF6.out⟩
    · have hrs' : 0 ≤ r * s := by omega
      cases hb0 : (p == 0)
      · skip
        cases hb1 : (q == 0)
        · skip
          cases hb2 : (r == 0)
          · skip
            cases hb3 : (s == 0)
            · skip
              go_wp2_with fail
              go_ret
              exact ⟨ret_bool (by first | (simp [crV, *]; done) | (simp [crV, *]; omega)), HF6.out⟩
            · cases hv3 : inB cx cy dx dy bx by_
              · go_wp2_with fail
                refine (KW3.out _).mono ?_
                rintro e y1 ⟨rfl, f⟩
                obtain ⟨m1_0, m1_1, m1_2, m1_3, m1_4, m1_5, m1_6, m1_7, m1_8⟩ := KS.out _ _ f kf60 kf61 kf62 kf63 kf64 kf65 kf66 kf67 kf68
                have HF1 := Lib.hid (HF6.out.noTrans f)
                clear f kf60 kf61 kf62 kf63 kf64 kf65 kf66 kf67 kf68
                go_wp2_with fail
                go_ret
                exact ⟨ret_bool (by first | (simp [crV, *]; done) | (simp [crV, *]; omega)), HF1.out⟩
              · go_wp2_with fail
                refine (KW3.out _).mono ?_
                rintro e y1 ⟨rfl, f⟩
                have HF1 := Lib.hid (HF6.out.noTrans f)
                clear f
                go_wp2_with fail
                go_ret
                exact ⟨ret_bool (by first | (simp [crV, *]; done) | (simp [crV, *]; omega)), HF1.out⟩
          · cases hv2 : inB cx cy dx dy ax ay
            · go_wp2_with fail
              refine (KW2.out _).mono ?_
              rintro e y2 ⟨rfl, f⟩
              obtain ⟨m2_0, m2_1, m2_2, m2_3, m2_4, m2_5, m2_6, m2_7, m2_8⟩ := KS.out _ _ f kf60 kf61 kf62 kf63 kf64 kf65 kf66 kf67 kf68
              have HF2 := Lib.hid (HF6.out.noTrans f)
              clear f kf60 kf61 kf62 kf63 kf64 kf65 kf66 kf67 kf68
              cases hb3 : (s == 0)
              · skip
                go_wp2_with fail
                go_ret
                exact ⟨ret_bool (by first | (simp [crV, *]; done) | (simp [crV, *]; omega)), HF2.out⟩
              · cases hv3 : inB cx cy dx dy bx by_
                · go_wp2_with fail
                  refine (KW3.out _).mono ?_
                  rintro e y3 ⟨rfl, f⟩
                  obtain ⟨m3_0, m3_1, m3_2, m3_3, m3_4, m3_5, m3_6, m3_7, m3_8⟩ := KS.out _ _ f m2_0 m2_1 m2_2 m2_3 m2_4 m2_5 m2_6 m2_7 m2_8
                  have HF3 := Lib.hid (HF2.out.noTrans f)
                  clear f m2_0 m2_1 m2_2 m2_3 m2_4 m2_5 m2_6 m2_7 m2_8
                  go_wp2_with fail
                  go_ret
                  exact ⟨ret_bool (by first | (simp [crV, *]; done) | (simp [crV, *]; omega)), HF3.out⟩
                · go_wp2_with fail
                  refine (KW3.out _).mono ?_
                  rintro e y3 ⟨rfl, f⟩
                  have HF3 := Lib.hid (HF2.out.noTrans f)
                  clear f
                  go_wp2_with fail
                  go_ret
                  exact ⟨ret_bool (by first | (simp [crV, *]; done) | (simp [crV, *]; omega)), HF3.out⟩
            · go_wp2_with fail
              refine (KW2.out _).mono ?_
              rintro e y2 ⟨rfl, f⟩
              have HF2 := Lib.hid (HF6.out.noTrans f)
              clear f
              go_wp2_with fail
              go_ret
              exact ⟨ret_bool (by first | (simp [crV, *]; done) | (simp [crV, *]; omega)), HF2.out⟩
        · cases hv1 : inB ax ay bx by_ dx dy
          · go_wp2_with fail
            refine (KW1.out _).mono ?_
            rintro e y4 ⟨rfl, f⟩
            obtain ⟨m4_0, m4_1, m4_2, m4_3, m4_4, m4_5, m4_6, m4_7, m4_8⟩ := KS.out _ _ f kf60 kf61 kf62 kf63 kf64 kf65 kf66 kf67 kf68
            have HF4 := Lib.hid (HF6.out.noTrans f)
            clear f kf60 kf61 kf62 kf63 kf64 kf65 kf66 kf67 kf68
            cases hb2 : (r == 0)
            · skip
              cases hb3 : (s == 0)
              · skip
                go_wp2_with fail
                go_ret
                exact ⟨ret_bool (by first | (simp [crV, *]; done) | (simp [crV, *]; omega)), HF4.out⟩
              · cases hv3 : inB cx cy dx dy bx by_
                · go_wp2_with fail
                  refine (KW3.out _).mono ?_
                  rintro e y5 ⟨rfl, f⟩
                  obtain ⟨m5_0, m5_1, m5_2, m5_3, m5_4, m5_5, m5_6, m5_7, m5_8⟩ := KS.out _ _ f m4_0 m4_1 m4_2 m4_3 m4_4 m4_5 m4_6 m4_7 m4_8
                  have HF5 := Lib.hid (HF4.out.noTrans f)
                  clear f m4_0 m4_1 m4_2 m4_3 m4_4 m4_5 m4_6 m4_7 m4_8
                  go_wp2_with fail
                  go_ret
                  exact ⟨ret_bool (by first | (simp [crV, *]; done) | (simp [crV, *]; omega)), HF5.out⟩
                · go_wp2_with fail
                  refine (KW3.out _).mono ?_
                  rintro e y5 ⟨rfl, f⟩
                  have HF5 := Lib.hid (HF4.out.noTrans f)
                  clear f
                  go_wp2_with fail
                  go_ret
                  exact ⟨ret_bool (by first | (simp [crV, *]; done) | (simp [crV, *]; omega)), HF5.out⟩
            · cases hv2 : inB cx cy dx dy ax ay
              · go_wp2_with fail
                refine (KW2.out _).mono ?_
                rintro e y6 ⟨rfl, f⟩
                obtain ⟨m6_0, m6_1, m6_2, m6_3, m6_4, m6_5, m6_6, m6_7, m6_8⟩ := KS.out _ _ f m4_0 m4_1 m4_2 m4_3 m4_4 m4_5 m4_6 m4_7 m4_8
                have HF6 := Lib.hid (HF4.out.noTrans f)
                clear f m4_0 m4_1 m4_2 m4_3 m4_4 m4_5 m4_6 m4_7 m4_8
                cases hb3 : (s == 0)
                · skip
                  go_wp2_with fail
                  go_ret
                  exact ⟨ret_bool (by first | (simp [crV, *]; done) | (simp [crV, *]; omega)), HF6.out⟩
                · cases hv3 : inB cx cy dx dy bx by_
                  · go_wp2_with fail
                    refine (KW3.out _).mono ?_
                    rintro e y7 ⟨rfl, f⟩
                    obtain ⟨m7_0, m7_1, m7_2, m7_3, m7_4, m7_5, m7_6, m7_7, m7_8⟩ := KS.out _ _ f m6_0 m6_1 m6_2 m6_3 m6_4 m6_5 m6_6 m6_7 m6_8
                    have HF7 := Lib.hid (HF6.out.noTrans f)
                    clear f m6_0 m6_1 m6_2 m6_3 m6_4 m6_5 m6_6 m6_7 m6_8
                    go_wp2_with fail
                    go_ret
                    exact ⟨ret_bool (by first | (simp [crV, *]; done) | (simp [crV, *]; omega)), HF7.out⟩
                  · go_wp2_with fail
                    refine (KW3.out _).mono ?_
                    rintro e y7 ⟨rfl, f⟩
                    have HF7 := Lib.hid (HF6.out.noTrans f)
                    clear f
                    go_wp2_with fail
                    go_ret
                    exact ⟨ret_bool (by first | (simp [crV, *]; done) | (simp [crV, *]; omega)), HF7.out⟩
              · go_wp2_with fail
                refine (KW2.out _).mono ?_
                rintro e y6 ⟨rfl, f⟩
                have HF6 := Lib.hid (HF4.out.noTrans f)
                clear f
                go_wp2_with fail
                go_ret
                exact ⟨ret_bool (by first | (simp [crV, *]; done) | (simp [crV, *]; omega)), HF6.out⟩
          · go_wp2_with fail
            refine (KW1.out _).mono ?_
            rintro e y4 ⟨rfl, f⟩
            have HF4 := Lib.hid (HF6.out.noTrans f)
            clear f
            go_wp2_with fail
            go_ret
            exact ⟨ret_bool (by first | (simp [crV, *]; done) | (simp [crV, *]; omega)), HF4.out⟩
      · cases hv0 : inB ax ay bx by_ cx cy
        · go_wp2_with fail
          refine (KW0.out _).mono ?_
          rintro e y8 ⟨rfl, f⟩
          obtain ⟨m8_0, m8_1, m8_2, m8_3, m8_4, m8_5, m8_6, m8_7, m8_8⟩ := KS.out _ _ f kf60 kf61 kf62 kf63 kf64 kf65 kf66 kf67 kf68
          have HF8 := Lib.hid (HF6.out.noTrans f)
          clear f kf60 kf61 kf62 kf63 kf64 kf65 kf66 kf67 kf68
          cases hb1 : (q == 0)
          · skip
            cases hb2 : (r == 0)
            · skip
              cases hb3 : (s == 0)
              · skip
                go_wp2_with fail
                go_ret
                exact ⟨ret_bool (by first | (simp [crV, *]; done) | (simp [crV, *]; omega)), HF8.out⟩
              · cases hv3 : inB cx cy dx dy bx by_
                · go_wp2_with fail
                  refine (KW3.out _).mono ?_
                  rintro e y9 ⟨rfl, f⟩
                  obtain ⟨m9_0, m9_1, m9_2, m9_3, m9_4, m9_5, m9_6, m9_7, m9_8⟩ := KS.out _ _ f m8_0 m8_1 m8_2 m8_3 m8_4 m8_5 m8_6 m8_7 m8_8
                  have HF9 := Lib.hid (HF8.out.noTrans f)
                  clear f m8_0 m8_1 m8_2 m8_3 m8_4 m8_5 m8_6 m8_7 m8_8
                  go_wp2_with fail
                  go_ret
                  exact ⟨ret_bool (by first | (simp [crV, *]; done) | (simp [crV, *]; omega)), HF9.out⟩
                · go_wp2_with fail
                  refine (KW3.out _).mono ?_
                  rintro e y9 ⟨rfl, f⟩
                  have HF9 := Lib.hid (HF8.out.noTrans f)
                  clear f
                  go_wp2_with fail
                  go_ret
                  exact ⟨ret_bool (by first | (simp [crV, *]; done) | (simp [crV, *]; omega)), HF9.out⟩
            · cases hv2 : inB cx cy dx dy ax ay
              · go_wp2_with fail
                refine (KW2.out _).mono ?_
                rintro e y10 ⟨rfl, f⟩
                obtain ⟨m10_0, m10_1, m10_2, m10_3, m10_4, m10_5, m10_6, m10_7, m10_8⟩ := KS.out _ _ f m8_0 m8_1 m8_2 m8_3 m8_4 m8_5 m8_6 m8_7 m8_8
                have HF10 := Lib.hid (HF8.out.noTrans f)
                clear f m8_0 m8_1 m8_2 m8_3 m8_4 m8_5 m8_6 m8_7 m8_8
                cases hb3 : (s == 0)
                · skip
                  go_wp2_with fail
                  go_ret
                  exact ⟨ret_bool (by first | (simp [crV, *]; done) | (simp [crV, *]; omega)), HF10.out⟩
                · cases hv3 : inB cx cy dx dy bx by_
                  · go_wp2_with fail
                    refine (KW3.out _).mono ?_
                    rintro e y11 ⟨rfl, f⟩
                    obtain ⟨m11_0, m11_1, m11_2, m11_3, m11_4, m11_5, m11_6, m11_7, m11_8⟩ := KS.out _ _ f m10_0 m10_1 m10_2 m10_3 m10_4 m10_5 m10_6 m10_7 m10_8
                    have HF11 := Lib.hid (HF10.out.noTrans f)
                    clear f m10_0 m10_1 m10_2 m10_3 m10_4 m10_5 m10_6 m10_7 m10_8
                    go_wp2_with fail
                    go_ret
                    exact ⟨ret_bool (by first | (simp [crV, *]; done) | (simp [crV, *]; omega)), HF11.out⟩
                  · go_wp2_with fail
                    refine (KW3.out _).mono ?_
                    rintro e y11 ⟨rfl, f⟩
                    have HF11 := Lib.hid (HF10.out.noTrans f)
                    clear f
                    go_wp2_with fail
                    go_ret
                    exact ⟨ret_bool (by first | (simp [crV, *]; done) | (simp [crV, *]; omega)), HF11.out⟩
              · go_wp2_with fail
                refine (KW2.out _).mono ?_
                rintro e y10 ⟨rfl, f⟩
                have HF10 := Lib.hid (HF8.out.noTrans f)
                clear f
                go_wp2_with fail
                go_ret
                exact ⟨ret_bool (by first | (simp [crV, *]; done) | (simp [crV, *]; omega)), HF10.out⟩
          · cases hv1 : inB ax ay bx by_ dx dy
            · go_wp2_with fail
              refine (KW1.out _).mono ?_
              rintro e y12 ⟨rfl, f⟩
              obtain ⟨m12_0, m12_1, m12_2, m12_3, m12_4, m12_5, m12_6, m12_7, m12_8⟩ := KS.out _ _ f m8_0 m8_1 m8_2 m8_3 m8_4 m8_5 m8_6 m8_7 m8_8
              have HF12 := Lib.hid (HF8.out.noTrans f)
              clear f m8_0 m8_1 m8_2 m8_3 m8_4 m8_5 m8_6 m8_7 m8_8
              cases hb2 : (r == 0)
              · skip
                cases hb3 : (s == 0)
                · skip
                  go_wp2_with fail
                  go_ret
                  exact ⟨ret_bool (by first | (simp [crV, *]; done) | (simp [crV, *]; omega)), HF12.out⟩
                · cases hv3 : inB cx cy dx dy bx by_
                  · go_wp2_with fail
                    refine (KW3.out _).mono ?_
                    rintro e y13 ⟨rfl, f⟩
                    obtain ⟨m13_0, m13_1, m13_2, m13_3, m13_4, m13_5, m13_6, m13_7, m13_8⟩ := KS.out _ _ f m12_0 m12_1 m12_2 m12_3 m12_4 m12_5 m12_6 m12_7 m12_8
                    have HF13 := Lib.hid (HF12.out.noTrans f)
                    clear f m12_0 m12_1 m12_2 m12_3 m12_4 m12_5 m12_6 m12_7 m12_8
                    go_wp2_with fail
                    go_ret
                    exact ⟨ret_bool (by first | (simp [crV, *]; done) | (simp [crV, *]; omega)), HF13.out⟩
                  · go_wp2_with fail
                    refine (KW3.out _).mono ?_
                    rintro e y13 ⟨rfl, f⟩
                    have HF13 := Lib.hid (HF12.out.noTrans f)
                    clear f
                    go_wp2_with fail
                    go_ret
                    exact ⟨ret_bool (by first | (simp [crV, *]; done) | (simp [crV, *]; omega)), HF13.out⟩
              · cases hv2 : inB cx cy dx dy ax ay
                · go_wp2_with fail
                  refine (KW2.out _).mono ?_
                  rintro e y14 ⟨rfl, f⟩
                  obtain ⟨m14_0, m14_1, m14_2, m14_3, m14_4, m14_5, m14_6, m14_7, m14_8⟩ := KS.out _ _ f m12_0 m12_1 m12_2 m12_3 m12_4 m12_5 m12_6 m12_7 m12_8
                  have HF14 := Lib.hid (HF12.out.noTrans f)
                  clear f m12_0 m12_1 m12_2 m12_3 m12_4 m12_5 m12_6 m12_7 m12_8
                  cases hb3 : (s == 0)
                  · skip
                    go_wp2_with fail
                    go_ret
                    exact ⟨ret_bool (by first | (simp [crV, *]; done) | (simp [crV, *]; omega)), HF14.out⟩
                  · cases hv3 : inB cx cy dx dy bx by_
                    · go_wp2_with fail
                      refine (KW3.out _).mono ?_
                      rintro e y15 ⟨rfl, f⟩
                      obtain ⟨m15_0, m15_1, m15_2, m15_3, m15_4, m15_5, m15_6, m15_7, m15_8⟩ := KS.out _ _ f m14_0 m14_1 m14_2 m14_3 m14_4 m14_5 m14_6 m14_7 m14_8
                      have HF15 := Lib.hid (HF14.out.noTrans f)
                      clear f m14_0 m14_1 m14_2 m14_3 m14_4 m14_5 m14_6 m14_7 m14_8
                      go_wp2_with fail
                      go_ret
                      exact ⟨ret_bool (by first | (simp [crV, *]; done) | (simp [crV, *]; omega)), HF15.out⟩
                    · go_wp2_with fail
                      refine (KW3.out _).mono ?_
                      rintro e y15 ⟨rfl, f⟩
                      have HF15 := Lib.hid (HF14.out.noTrans f)
                      clear f
                      go_wp2_with fail
                      go_ret
                      exact ⟨ret_bool (by first | (simp [crV, *]; done) | (simp [crV, *]; omega)), HF15.out⟩
                · go_wp2_with fail
                  refine (KW2.out _).mono ?_
                  rintro e y14 ⟨rfl, f⟩
                  have HF14 := Lib.hid (HF12.out.noTrans f)
                  clear f
                  go_wp2_with fail
                  go_ret
                  exact ⟨ret_bool (by first | (simp [crV, *]; done) | (simp [crV, *]; omega)), HF14.out⟩
            · go_wp2_with fail
              refine (KW1.out _).mono ?_
              rintro e y12 ⟨rfl, f⟩
              have HF12 := Lib.hid (HF8.out.noTrans f)
              clear f
              go_wp2_with fail
              go_ret
              exact ⟨ret_bool (by first | (simp [crV, *]; done) | (simp [crV, *]; omega)), HF12.out⟩
        · go_wp2_with fail
          refine (KW0.out _).mono ?_
          rintro e y8 ⟨rfl, f⟩
          have HF8 := Lib.hid (HF6.out.noTrans f)
          clear f
          go_wp2_with fail
          go_ret
          exact ⟨ret_bool (by first | (simp [crV, *]; done) | (simp [crV, *]; omega)), HF8.out⟩
  · have hpq' : 0 ≤ p * q := by omega
    cases hb0 : (p == 0)
    · skip
      cases hb1 : (q == 0)
      · skip
        cases hb2 : (r == 0)
        · skip
          cases hb3 : (s == 0)
          · skip
            go_wp2_with fail
            go_ret
            exact ⟨ret_bool (by first | (simp [crV, *]; done) | (simp [crV, *]; omega)), HF6.out⟩
          · cases hv3 : inB cx cy dx dy bx by_
            · go_wp2_with fail
              refine (KW3.out _).mono ?_
              rintro e y16 ⟨rfl, f⟩
              obtain ⟨m16_0, m16_1, m16_2, m16_3, m16_4, m16_5, m16_6, m16_7, m16_8⟩ := KS.out _ _ f kf60 kf61 kf62 kf63 kf64 kf65 kf66 kf67 kf68
              have HF16 := Lib.hid (HF6.out.noTrans f)
              clear f kf60 kf61 kf62 kf63 kf64 kf65 kf66 kf67 kf68
              go_wp2_with fail
              go_ret
              exact ⟨ret_bool (by first | (simp [crV, *]; done) | (simp [crV, *]; omega)), HF16.out⟩
            · go_wp2_with fail
              refine (KW3.out _).mono ?_
              rintro e y16 ⟨rfl, f⟩
              have HF16 := Lib.hid (HF6.out.noTrans f)
              clear f
              go_wp2_with fail
              go_ret
              exact ⟨ret_bool (by first | (simp [crV, *]; done) | (simp [crV, *]; omega)), HF16.out⟩
        · cases hv2 : inB cx cy dx dy ax ay
          · go_wp2_with fail
            refine (KW2.out _).mono ?_
            rintro e y17 ⟨rfl, f⟩
            obtain ⟨m17_0, m17_1, m17_2, m17_3, m17_4, m17_5, m17_6, m17_7, m17_8⟩ := KS.out _ _ f kf60 kf61 kf62 kf63 kf64 kf65 kf66 kf67 kf68
            have HF17 := Lib.hid (HF6.out.noTrans f)
            clear f kf60 kf61 kf62 kf63 kf64 kf65 kf66 kf67 kf68
            cases hb3 : (s == 0)
            · skip
              go_wp2_with fail
              go_ret
              exact ⟨ret_bool (by first | (simp [crV, *]; done) | (simp [crV, *]; omega)), HF17.out⟩
            · cases hv3 : inB cx cy dx dy bx by_
              · go_wp2_with fail
                refine (KW3.out _).mono ?_
                rintro e y18 ⟨rfl, f⟩
                obtain ⟨m18_0, m18_1, m18_2, m18_3, m18_4, m18_5, m18_6, m18_7, m18_8⟩ := KS.out _ _ f m17_0 m17_1 m17_2 m17_3 m17_4 m17_5 m17_6 m17_7 m17_8
                have HF18 := Lib.hid (HF17.out.noTrans f)
                clear f m17_0 m17_1 m17_2 m17_3 m17_4 m17_5 m17_6 m17_7 m17_8
                go_wp2_with fail
                go_ret
                exact ⟨ret_bool (by first | (simp [crV, *]; done) | (simp [crV, *]; omega)), HF18.out⟩
              · go_wp2_with fail
                refine (KW3.out _).mono ?_
                rintro e y18 ⟨rfl, f⟩
                have HF18 := Lib.hid (HF17.out.noTrans f)
                clear f
                go_wp2_with fail
                go_ret
                exact ⟨ret_bool (by first | (simp [crV, *]; done) | (simp [crV, *]; omega)), HF18.out⟩
          · go_wp2_with fail
            refine (KW2.out _).mono ?_
            rintro e y17 ⟨rfl, f⟩
            have HF17 := Lib.hid (HF6.out.noTrans f)
            clear f
            go_wp2_with fail
            go_ret
            exact ⟨ret_bool (by first | (simp [crV, *]; done) | (simp [crV, *]; omega)), HF17.out⟩
      · cases hv1 : inB ax ay bx by_ dx dy
        · go_wp2_with fail
          refine (KW1.out _).mono ?_
          rintro e y19 ⟨rfl, f⟩
          obtain ⟨m19_0, m19_1, m19_2, m19_3, m19_4, m19_5, m19_6, m19_7, m19_8⟩ := KS.out _ _ f kf60 kf61 kf62 kf63 kf64 kf65 kf66 kf67 kf68
          have HF19 := Lib.hid (HF6.out.noTrans f)
          clear f kf60 kf61 kf62 kf63 kf64 kf65 kf66 kf67 kf68
          cases hb2 : (r == 0)
          · skip
            cases hb3 : (s == 0)
            · skip
              go_wp2_with fail
              go_ret
              exact ⟨ret_bool (by first | (simp [crV, *]; done) | (simp [crV, *]; omega)), HF19.out⟩
            · cases hv3 : inB cx cy dx dy bx by_
              · go_wp2_with fail
                refine (KW3.out _).mono ?_
                rintro e y20 ⟨rfl, f⟩
                obtain ⟨m20_0, m20_1, m20_2, m20_3, m20_4, m20_5, m20_6, m20_7, m20_8⟩ := KS.out _ _ f m19_0 m19_1 m19_2 m19_3 m19_4 m19_5 m19_6 m19_7 m19_8
                have HF20 := Lib.hid (HF19.out.noTrans f)
                clear f m19_0 m19_1 m19_2 m19_3 m19_4 m19_5 m19_6 m19_7 m19_8
                go_wp2_with fail
                go_ret
                exact ⟨ret_bool (by first | (simp [crV, *]; done) | (simp [crV, *]; omega)), HF20.out⟩
              · go_wp2_with fail
                refine (KW3.out _).mono ?_
                rintro e y20 ⟨rfl, f⟩
                have HF20 := Lib.hid (HF19.out.noTrans f)
                clear f
                go_wp2_with fail
                go_ret
                exact ⟨ret_bool (by first | (simp [crV, *]; done) | (simp [crV, *]; omega)), HF20.out⟩
          · cases hv2 : inB cx cy dx dy ax ay
            · go_wp2_with fail
              refine (KW2.out _).mono ?_
              rintro e y21 ⟨rfl, f⟩
              obtain ⟨m21_0, m21_1, m21_2, m21_3, m21_4, m21_5, m21_6, m21_7, m21_8⟩ := KS.out _ _ f m19_0 m19_1 m19_2 m19_3 m19_4 m19_5 m19_6 m19_7 m19_8
              have HF21 := Lib.hid (HF19.out.noTrans f)
              clear f m19_0 m19_1 m19_2 m19_3 m19_4 m19_5 m19_6 m19_7 m19_8
              cases hb3 : (s == 0)
              · skip
                go_wp2_with fail
                go_ret
                exact ⟨ret_bool (by first | (simp [crV, *]; done) | (simp [crV, *]; omega)), HF21.out⟩
              · cases hv3 : inB cx cy dx dy bx by_
                · go_wp2_with fail
                  refine (KW3.out _).mono ?_
                  rintro e y22 ⟨rfl, f⟩
                  obtain ⟨m22_0, m22_1, m22_2, m22_3, m22_4, m22_5, m22_6, m22_7, m22_8⟩ := KS.out _ _ f m21_0 m21_1 m21_2 m21_3 m21_4 m21_5 m21_6 m21_7 m21_8
                  have HF22 := Lib.hid (HF21.out.noTrans f)
                  clear f m21_0 m21_1 m21_2 m21_3 m21_4 m21_5 m21_6 m21_7 m21_8
                  go_wp2_with fail
                  go_ret
                  exact ⟨ret_bool (by first | (simp [crV, *]; done) | (simp [crV, *]; omega)), HF22.out⟩
                · go_wp2_with fail
                  refine (KW3.out _).mono ?_
                  rintro e y22 ⟨rfl, f⟩
                  have HF22 := Lib.hid (HF21.out.noTrans f)
                  clear f
                  go_wp2_with fail
                  go_ret
                  exact ⟨ret_bool (by first | (simp [crV, *]; done) | (simp [crV, *]; omega)), HF22.out⟩
            · go_wp2_with fail
              refine (KW2.out _).mono ?_
              rintro e y21 ⟨rfl, f⟩
              have HF21 := Lib.hid (HF19.out.noTrans f)
              clear f
              go_wp2_with fail
              go_ret
              exact ⟨ret_bool (by first | (simp [crV, *]; done) | (simp [crV, *]; omega)), HF21.out⟩
        · go_wp2_with fail
          refine (KW1.out _).mono ?_
          rintro e y19 ⟨rfl, f⟩
          have HF19 := Lib.hid (HF6.out.noTrans f)
          clear f
          go_wp2_with fail
          go_ret
          exact ⟨ret_bool (by first | (simp [crV, *]; done) | (simp [crV, *]; omega)), HF19.out⟩
    · cases hv0 : inB ax ay bx by_ cx cy
      · go_wp2_with fail
        refine (KW0.out _).mono ?_
        rintro e y23 ⟨rfl, f⟩
        obtain ⟨m23_0, m23_1, m23_2, m23_3, m23_4, m23_5, m23_6, m23_7, m23_8⟩ := KS.out _ _ f kf60 kf61 kf62 kf63 kf64 kf65 kf66 kf67 kf68
        have HF23 := Lib.hid (HF6.out.noTrans f)
        clear f kf60 kf61 kf62 kf63 kf64 kf65 kf66 kf67 kf68
        cases hb1 : (q == 0)
        · skip
          cases hb2 : (r == 0)
          · skip
            cases hb3 : (s == 0)
            · skip
              go_wp2_with fail
              go_ret
              exact ⟨ret_bool (by first | (simp [crV, *]; done) | (simp [crV, *]; omega)), HF23.out⟩
            · cases hv3 : inB cx cy dx dy bx by_
              · go_wp2_with fail
                refine (KW3.out _).mono ?_
                rintro e y24 ⟨rfl, f⟩
                obtain ⟨m24_0, m24_1, m24_2, m24_3, m24_4, m24_5, m24_6, m24_7, m24_8⟩ := KS.out _ _ f m23_0 m23_1 m23_2 m23_3 m23_4 m23_5 m23_6 m23_7 m23_8
                have HF24 := Lib.hid (HF23.out.noTrans f)
                clear f m23_0 m23_1 m23_2 m23_3 m23_4 m23_5 m23_6 m23_7 m23_8
                go_wp2_with fail
                go_ret
                exact ⟨ret_bool (by first | (simp [crV, *]; done) | (simp [crV, *]; omega)), HF24.out⟩
              · go_wp2_with fail
                refine (KW3.out _).mono ?_
                rintro e y24 ⟨rfl, f⟩
                have HF24 := Lib.hid (HF23.out.noTrans f)
                clear f
                go_wp2_with fail
                go_ret
                exact ⟨ret_bool (by first | (simp [crV, *]; done) | (simp [crV, *]; omega)), HF24.out⟩
          · cases hv2 : inB cx cy dx dy ax ay
            · go_wp2_with fail
              refine (KW2.out _).mono ?_
              rintro e y25 ⟨rfl, f⟩
              obtain ⟨m25_0, m25_1, m25_2, m25_3, m25_4, m25_5, m25_6, m25_7, m25_8⟩ := KS.out _ _ f m23_0 m23_1 m23_2 m23_3 m23_4 m23_5 m23_6 m23_7 m23_8
              have HF25 := Lib.hid (HF23.out.noTrans f)
              clear f m23_0 m23_1 m23_2 m23_3 m23_4 m23_5 m23_6 m23_7 m23_8
              cases hb3 : (s == 0)
              · skip
                go_wp2_with fail
                go_ret
                exact ⟨ret_bool (by first | (simp [crV, *]; done) | (simp [crV, *]; omega)), HF25.out⟩
              · cases hv3 : inB cx cy dx dy bx by_
                · go_wp2_with fail
                  refine (KW3.out _).mono ?_
                  rintro e y26 ⟨rfl, f⟩
                  obtain ⟨m26_0, m26_1, m26_2, m26_3, m26_4, m26_5, m26_6, m26_7, m26_8⟩ := KS.out _ _ f m25_0 m25_1 m25_2 m25_3 m25_4 m25_5 m25_6 m25_7 m25_8
                  have HF26 := Lib.hid (HF25.out.noTrans f)
                  clear f m25_0 m25_1 m25_2 m25_3 m25_4 m25_5 m25_6 m25_7 m25_8
                  go_wp2_with fail
                  go_ret
                  exact ⟨ret_bool (by first | (simp [crV, *]; done) | (simp [crV, *]; omega)), HF26.out⟩
                · go_wp2_with fail
                  refine (KW3.out _).mono ?_
                  rintro e y26 ⟨rfl, f⟩
                  have HF26 := Lib.hid (HF25.out.noTrans f)
                  clear f
                  go_wp2_with fail
                  go_ret
                  exact ⟨ret_bool (by first | (simp [crV, *]; done) | (simp [crV, *]; omega)), HF26.out⟩
            · go_wp2_with fail
              refine (KW2.out _).mono ?_
              rintro e y25 ⟨rfl, f⟩
              have HF25 := Lib.hid (HF23.out.noTrans f)
              clear f
              go_wp2_with fail
              go_ret
              exact ⟨ret_bool (by first | (simp [crV, *]; done) | (simp [crV, *]; omega)), HF25.out⟩
        · cases hv1 : inB ax ay bx by_ dx dy
          · go_wp2_with fail
            refine (KW1.out _).mono ?_
            rintro e y27 ⟨rfl, f⟩
            obtain ⟨m27_0, m27_1, m27_2, m27_3, m27_4, m27_5, m27_6, m27_7, m27_8⟩ := KS.out _ _ f m23_0 m23_1 m23_2 m23_3 m23_4 m23_5 m23_6 m23_7 m23_8
            have HF27 := Lib.hid (HF23.out.noTrans f)
            clear f m23_0 m23_1 m23_2 m23_3 m23_4 m23_5 m23_6 m23_7 m23_8
            cases hb2 : (r == 0)
            · skip
              cases hb3 : (s == 0)
              · skip
                go_wp2_with fail
                go_ret
                exact ⟨ret_bool (by first | (simp [crV, *]; done) | (simp [crV, *]; omega)), HF27.out⟩
              · cases hv3 : inB cx cy dx dy bx by_
                · go_wp2_with fail
                  refine (KW3.out _).mono ?_
                  rintro e y28 ⟨rfl, f⟩
                  obtain ⟨m28_0, m28_1, m28_2, m28_3, m28_4, m28_5, m28_6, m28_7, m28_8⟩ := KS.out _ _ f m27_0 m27_1 m27_2 m27_3 m27_4 m27_5 m27_6 m27_7 m27_8
                  have HF28 := Lib.hid (HF27.out.noTrans f)
                  clear f m27_0 m27_1 m27_2 m27_3 m27_4 m27_5 m27_6 m27_7 m27_8
                  go_wp2_with fail
                  go_ret
                  exact ⟨ret_bool (by first | (simp [crV, *]; done) | (simp [crV, *]; omega)), HF28.out⟩
                · go_wp2_with fail
                  refine (KW3.out _).mono ?_
                  rintro e y28 ⟨rfl, f⟩
                  have HF28 := Lib.hid (HF27.out.noTrans f)
                  clear f
                  go_wp2_with fail
                  go_ret
                  exact ⟨ret_bool (by first | (simp [crV, *]; done) | (simp [crV, *]; omega)), HF28.out⟩
            · cases hv2 : inB cx cy dx dy ax ay
              · go_wp2_with fail
                refine (KW2.out _).mono ?_
                rintro e y29 ⟨rfl, f⟩
                obtain ⟨m29_0, m29_1, m29_2, m29_3, m29_4, m29_5, m29_6, m29_7, m29_8⟩ := KS.out _ _ f m27_0 m27_1 m27_2 m27_3 m27_4 m27_5 m27_6 m27_7 m27_8
                have HF29 := Lib.hid (HF27.out.noTrans f)
                clear f m27_0 m27_1 m27_2 m27_3 m27_4 m27_5 m27_6 m27_7 m27_8
                cases hb3 : (s == 0)
                · skip
                  go_wp2_with fail
                  go_ret
                  exact ⟨ret_bool (by first | (simp [crV, *]; done) | (simp [crV, *]; omega)), HF29.out⟩
                · cases hv3 : inB cx cy dx dy bx by_
                  · go_wp2_with fail
                    refine (KW3.out _).mono ?_
                    rintro e y30 ⟨rfl, f⟩
                    obtain ⟨m30_0, m30_1, m30_2, m30_3, m30_4, m30_5, m30_6, m30_7, m30_8⟩ := KS.out _ _ f m29_0 m29_1 m29_2 m29_3 m29_4 m29_5 m29_6 m29_7 m29_8
                    have HF30 := Lib.hid (HF29.out.noTrans f)
                    clear f m29_0 m29_1 m29_2 m29_3 m29_4 m29_5 m29_6 m29_7 m29_8
                    go_wp2_with fail
                    go_ret
                    exact ⟨ret_bool (by first | (simp [crV, *]; done) | (simp [crV, *]; omega)), HF30.out⟩
                  · go_wp2_with fail
                    refine (KW3.out _).mono ?_
                    rintro e y30 ⟨rfl, f⟩
                    have HF30 := Lib.hid (HF29.out.noTrans f)
                    clear f
                    go_wp2_with fail
                    go_ret
                    exact ⟨ret_bool (by first | (simp [crV, *]; done) | (simp [crV, *]; omega)), HF30.out⟩
              · go_wp2_with fail
                refine (KW2.out _).mono ?_
                rintro e y29 ⟨rfl, f⟩
                have HF29 := Lib.hid (HF27.out.noTrans f)
                clear f
                go_wp2_with fail
                go_ret
                exact ⟨ret_bool (by first | (simp [crV, *]; done) | (simp [crV, *]; omega)), HF29.out⟩
          · go_wp2_with fail
            refine (KW1.out _).mono ?_
            rintro e y27 ⟨rfl, f⟩
            have HF27 := Lib.hid (HF23.out.noTrans f)
            clear f
            go_wp2_with fail
            go_ret
            exact ⟨ret_bool (by first | (simp [crV, *]; done) | (simp [crV, *]; omega)), HF27.out⟩
      · go_wp2_with fail
        refine (KW0.out _).mono ?_
        rintro e y23 ⟨rfl, f⟩
        have HF23 := Lib.hid (HF6.out.noTrans f)
        clear f
        go_wp2_with fail
        go_ret
        exact ⟨ret_bool (by first | (simp [crV, *]; done) | (simp [crV, *]; omega)), HF23.out⟩
theorem crossesR_any (ax ay bx by_ cx cy dx dy f : Int) (w : World) (h1 : nr ax) (h2 : nr ay) (h3 : nr bx) (h4 : nr by_) (h5 : nr cx) (h6 : nr cy) (h7 : nr dx) (h8 : nr dy) :
    Calls Try.prog 155 #[.agg #[.int .i64 ax, .int .i64 ay], .agg #[.int .i64 bx, .int .i64 by_], .agg #[.int .i64 cx, .int .i64 cy, .int .i64 dx, .int .i64 dy, .int .i64 f]] w fun e w' => e = .returned (.bool (crR ax ay bx by_ cx cy dx dy)) ∧ Fr no w w' :=
  crossesR_in ax ay bx by_ cx cy dx dy f _ _ _ _ w (tn_tri ..) (tn_tri ..) (tn_tri ..) (tn_tri ..) (Lib.hid (fun w => turnR_any ax ay bx by_ cx cy w h1 h2 h3 h4 h5 h6)) (Lib.hid (fun w => turnR_any ax ay bx by_ dx dy w h1 h2 h3 h4 h7 h8))
    (Lib.hid (fun w => turnR_any cx cy dx dy ax ay w h5 h6 h7 h8 h1 h2)) (Lib.hid (fun w => turnR_any cx cy dx dy bx by_ w h5 h6 h7 h8 h3 h4))
end Go.Proofs.Ytdenlinehjigaaa
