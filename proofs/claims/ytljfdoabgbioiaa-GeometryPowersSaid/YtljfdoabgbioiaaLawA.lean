/- near; the law of shapes. -/
import Derived.Test.YtljfdoabgbioiaaAwk
namespace Go.Proofs.Ytljfdoabgbioiaa
open Go.RowKit

def nrB (p : Pt) : Bool := decide ((-20000 ≤ p.x ∧ p.x ≤ 20000) ∧ -20000 ≤ p.y ∧ p.y ≤ 20000)
set_option maxHeartbeats 1000000 in
theorem near1_any (x y : Int) (w : World) : Calls Try.prog 39 #[.agg #[.int .i64 x, .int .i64 y]] w fun e w' => e = .returned (.bool (!nrB ⟨x, y⟩)) ∧ Fr no w w' := by
  go_enter Try.func39, Try.ntmps39
  go_wp2_with fail
  all_goals
    go_ret
    refine ⟨ret_bool ?_, (Fr.refl no w).alloc _⟩
    rw [Bool.eq_iff_iff]
    simp only [nrB, decide_eq_true_eq, true_iff, Bool.not_eq_true', decide_eq_false_iff_not, Bool.or_eq_true]
    omega
def IdxRes (b : Bool) (w : World) (e : Ending) (w' : World) : Prop := (∃ n : Int, e = .returned (.int .i64 n) ∧ (if b then n = -1 else 0 ≤ n)) ∧ Fr no w w'
set_option maxHeartbeats 4000000 in
theorem index_near (ao : Option Addr) (len cap : Nat) (ps : List Pt) (w : World) (hz : PtsIn w ao len ps) (hl : len ≤ 40) :
    Calls Try.prog 63 #[.slice ao len cap, .func (.func 39) #[] #[]] w (IdxRes (ps.all nrB) w) := by
  have HZ := Lib.hid hz
  have HL := Lib.hid hl
  clear hz hl
  go_enter Try.func63, Try.ntmps63
  go_wp2_with fail
  go_loopw [5, 8] (fun _ i wr => ∃ k : Nat, k ≤ len ∧ i = .int .i64 k ∧ (ps.take k).all nrB = true ∧ Fr no w wr) (fun _ i _ => len - (intOf i).toNat)
  case atStart => exact ⟨0, Nat.zero_le _, rfl, by simp, Fr.refl _ _⟩
  case round =>
    obtain ⟨k, hk, rfl, ha, hf⟩ := hrel
    have HA := Lib.hid ha
    have HF := Lib.hid hf
    clear ha hf
    by_cases hlt : k < len
    · obtain ⟨b, off, rfl, hc0, hc1⟩ := (HZ.out.kept HF.out).2 k hlt
      have HT := Lib.hid (all_take nrB ⟨0, 0⟩ ps k (by have := HZ.out.1; omega))
      have HN := Lib.hid (all_no nrB ⟨0, 0⟩ ps k (by have := HZ.out.1; omega))
      have hkI : (k : Int) ≤ 39 := by have := HL.out; omega
      have HK := fun w => near1_any (ptAt ps k).x (ptAt ps k).y w
      rw [show ps.getD k ⟨0, 0⟩ = ptAt ps k from rfl] at HT HN
      generalize ptAt ps k = p at *
      obtain ⟨x, y⟩ := p
      simp only at HK hc0 hc1
      cases hp : nrB ⟨x, y⟩
      · have HV := Lib.hid (HN.out hp)
        rw [hp] at HK
        have HK := Lib.hid HK
        clear hp
        go_wp2_with fail
        refine (HK.out _).mono ?_
        rintro e w3 ⟨rfl, f3⟩
        have HF3 := Lib.hid (HF.out.noTrans f3)
        clear f3
        go_wp2_with fail
        go_ret
        exact ⟨⟨k, rfl, by rw [HV.out]; simp⟩, HF3.out⟩
      · rw [hp] at HK
        rw [HA.out, hp] at HT
        have HK := Lib.hid HK
        clear hp
        go_wp2_with fail
        refine (HK.out _).mono ?_
        rintro e w3 ⟨rfl, f3⟩
        have HF3 := Lib.hid (HF.out.noTrans f3)
        clear f3
        go_wp2_with fail
        go_roundw
        case rel => exact ⟨k + 1, by omega, by go_num, HT.out, HF3.out⟩
        case measure => simp [intOf]; omega
    · have HV := Lib.hid (show ps.all nrB = true by have := HA.out; rwa [List.take_of_length_le (by have := HZ.out.1; omega)] at this)
      go_wp2_with fail
      go_ret
      exact ⟨⟨-1, rfl, by rw [HV.out]; simp⟩, HF.out⟩
theorem containsFunc_near (ao : Option Addr) (len cap : Nat) (ps : List Pt) (w : World) (hz : PtsIn w ao len ps) (hl : len ≤ 40) :
    Calls Try.prog 38 #[.slice ao len cap, .func (.func 39) #[] #[]] w fun e w' => e = .returned (.bool (!(ps.all nrB))) ∧ Fr no w w' := by
  have K := Lib.hid (index_near ao len cap ps w hz hl)
  clear hz hl
  go_enter Try.func38, Try.ntmps38
  go_wp2_with fail
  refine K.out.mono ?_
  rintro e w3 ⟨⟨n, rfl, hn⟩, f3⟩
  have HN := Lib.hid hn
  have HF3 := Lib.hid f3
  clear hn f3
  go_wp2_with fail
  go_ret
  refine ⟨ret_bool ?_, HF3.out⟩
  have := HN.out
  cases h : ps.all nrB
  · rw [h] at this
    simp at this
    simp [this]
  · rw [h] at this
    simp at this
    simp [this]
theorem near_any (ao : Option Addr) (len cap : Nat) (ps : List Pt) (w : World) (hz : PtsIn w ao len ps) (hl : len ≤ 40) :
    Calls Try.prog 12 #[.slice ao len cap] w fun e w' => e = .returned (.bool (ps.all nrB)) ∧ Fr no w w' := by
  have K := Lib.hid (containsFunc_near ao len cap ps w hz hl)
  clear hz hl
  go_enter Try.func12, Try.ntmps12
  go_wp2_with fail
  refine K.out.mono ?_
  rintro e w3 ⟨rfl, f3⟩
  have HF3 := Lib.hid f3
  clear f3
  go_wp2_with fail
  go_ret
  refine ⟨ret_bool ?_, HF3.out⟩
  simp
theorem pts4 {w : World} {b : Nat} {ax ay bx by_ cx cy dx dy : Int} (h0 : w.cell? ⟨b, 0, none⟩ = some (.int .i64 ax)) (h1 : w.cell? ⟨b, 1, none⟩ = some (.int .i64 ay)) (h2 : w.cell? ⟨b, 2, none⟩ = some (.int .i64 bx)) (h3 : w.cell? ⟨b, 3, none⟩ = some (.int .i64 by_))
    (h4 : w.cell? ⟨b, 4, none⟩ = some (.int .i64 cx)) (h5 : w.cell? ⟨b, 5, none⟩ = some (.int .i64 cy)) (h6 : w.cell? ⟨b, 6, none⟩ = some (.int .i64 dx)) (h7 : w.cell? ⟨b, 7, none⟩ = some (.int .i64 dy)) : PtsIn w (some ⟨b, 0, none⟩) 4 [⟨ax, ay⟩, ⟨bx, by_⟩, ⟨cx, cy⟩, ⟨dx, dy⟩] :=
  ⟨rfl, fun i hi => ⟨b, 0, rfl, by
    match i, hi with
    | 0, _ => exact ⟨h0, h1⟩
    | 1, _ => exact ⟨h2, h3⟩
    | 2, _ => exact ⟨h4, h5⟩
    | 3, _ => exact ⟨h6, h7⟩⟩⟩
theorem nrB_t {x y : Int} : nrB ⟨x, y⟩ = true ↔ nr x ∧ nr y := by simp [nrB, nr]
set_option maxHeartbeats 8000000 in
theorem shapes_out (ax ay bx by_ cx cy dx dy f : Int) (w : World) (g : ([⟨ax, ay⟩, ⟨bx, by_⟩, ⟨cx, cy⟩, ⟨dx, dy⟩] : List Pt).all nrB = false) : Calls Try.prog 3 #[.agg #[.int .i64 ax, .int .i64 ay], .agg #[.int .i64 bx, .int .i64 by_], .agg #[.int .i64 cx, .int .i64 cy, .int .i64 dx, .int .i64 dy, .int .i64 f]] w fun e w' => e = .returned (.bool true) ∧ Below w.heap.size w w' := by
  have KS := Lib.hid (show ∀ w0 w' : World, Fr no w0 w' → w0.cell? ⟨w.heap.size, 0, none⟩ = some (.int .i64 ax) → w0.cell? ⟨w.heap.size, 1, none⟩ = some (.int .i64 ay) → w0.cell? ⟨w.heap.size + 1, 0, none⟩ = some (.int .i64 bx) → w0.cell? ⟨w.heap.size + 1, 1, none⟩ = some (.int .i64 by_) → w0.cell? ⟨w.heap.size + 1 + 1, 0, none⟩ = some (.int .i64 cx) → w0.cell? ⟨w.heap.size + 1 + 1, 1, none⟩ = some (.int .i64 cy) → w0.cell? ⟨w.heap.size + 1 + 1, 2, none⟩ = some (.int .i64 dx) → w0.cell? ⟨w.heap.size + 1 + 1, 3, none⟩ = some (.int .i64 dy) → w0.cell? ⟨w.heap.size + 1 + 1, 4, none⟩ = some (.int .i64 f) → (w'.cell? ⟨w.heap.size, 0, none⟩ = some (.int .i64 ax) ∧ w'.cell? ⟨w.heap.size, 1, none⟩ = some (.int .i64 ay) ∧ w'.cell? ⟨w.heap.size + 1, 0, none⟩ = some (.int .i64 bx) ∧ w'.cell? ⟨w.heap.size + 1, 1, none⟩ = some (.int .i64 by_) ∧ w'.cell? ⟨w.heap.size + 1 + 1, 0, none⟩ = some (.int .i64 cx) ∧ w'.cell? ⟨w.heap.size + 1 + 1, 1, none⟩ = some (.int .i64 cy) ∧ w'.cell? ⟨w.heap.size + 1 + 1, 2, none⟩ = some (.int .i64 dx) ∧ w'.cell? ⟨w.heap.size + 1 + 1, 3, none⟩ = some (.int .i64 dy) ∧ w'.cell? ⟨w.heap.size + 1 + 1, 4, none⟩ = some (.int .i64 f)) from fun _ _ h a0 a1 a2 a3 a4 a5 a6 a7 a8 => ⟨h.keepc a0, h.keepc a1, h.keepc a2, h.keepc a3, h.keepc a4, h.keepc a5, h.keepc a6, h.keepc a7, h.keepc a8⟩)
  obtain ⟨W, hW⟩ : ∃ W, W = (((w.alloc (.cells #[.int .i64 ax, .int .i64 ay] 23 (0, 0))).alloc (.cells #[.int .i64 bx, .int .i64 by_] 23 (0, 0))).alloc (.cells #[.int .i64 cx, .int .i64 cy, .int .i64 dx, .int .i64 dy, .int .i64 f] 25 (0, 0))) := ⟨_, rfl⟩
  have HF := Lib.hid (show Fr no w W by rw [hW]; exact (((Fr.refl no w).alloc _).alloc _).alloc _)
  have c0 : W.cell? ⟨w.heap.size, 0, none⟩ = some (.int .i64 ax) := by rw [hW]; go_simp
  have c1 : W.cell? ⟨w.heap.size, 1, none⟩ = some (.int .i64 ay) := by rw [hW]; go_simp
  have c2 : W.cell? ⟨w.heap.size + 1, 0, none⟩ = some (.int .i64 bx) := by rw [hW]; go_simp
  have c3 : W.cell? ⟨w.heap.size + 1, 1, none⟩ = some (.int .i64 by_) := by rw [hW]; go_simp
  have c4 : W.cell? ⟨w.heap.size + 1 + 1, 0, none⟩ = some (.int .i64 cx) := by rw [hW]; go_simp
  have c5 : W.cell? ⟨w.heap.size + 1 + 1, 1, none⟩ = some (.int .i64 cy) := by rw [hW]; go_simp
  have c6 : W.cell? ⟨w.heap.size + 1 + 1, 2, none⟩ = some (.int .i64 dx) := by rw [hW]; go_simp
  have c7 : W.cell? ⟨w.heap.size + 1 + 1, 3, none⟩ = some (.int .i64 dy) := by rw [hW]; go_simp
  have c8 : W.cell? ⟨w.heap.size + 1 + 1, 4, none⟩ = some (.int .i64 f) := by rw [hW]; go_simp
  have HW := Lib.hid hW
  clear hW
  have HG := Lib.hid g
  clear g
  go_enter Try.func3, Try.ntmps3
  go_wp2_with fail
  rw [← HW.out]
  refine (awake_any _).mono ?_
  rintro e y1 ⟨rfl, f1⟩
  obtain ⟨d1_0, d1_1, d1_2, d1_3, d1_4, d1_5, d1_6, d1_7, d1_8⟩ := KS.out _ _ f1 c0 c1 c2 c3 c4 c5 c6 c7 c8
  have HF1 := Lib.hid (HF.out.noTrans f1)
  clear f1 c0 c1 c2 c3 c4 c5 c6 c7 c8
  go_wp2_with fail
  obtain ⟨WN, hWN⟩ : ∃ WN, WN = y1.alloc (.cells #[.int .i64 ax, .int .i64 ay, .int .i64 bx, .int .i64 by_, .int .i64 cx, .int .i64 cy, .int .i64 dx, .int .i64 dy] 23 (0, 0)) := ⟨_, rfl⟩
  have hbN : WN.heap[y1.heap.size]? = some (.cells #[.int .i64 ax, .int .i64 ay, .int .i64 bx, .int .i64 by_, .int .i64 cx, .int .i64 cy, .int .i64 dx, .int .i64 dy] 23 (0, 0)) := by rw [hWN]; exact heap_alloc_new y1 _
  have KN := near_any (some ⟨y1.heap.size, 0, none⟩) 4 4 [⟨ax, ay⟩, ⟨bx, by_⟩, ⟨cx, cy⟩, ⟨dx, dy⟩] WN (pts4 (by simp [World.cell?, hbN]) (by simp [World.cell?, hbN]) (by simp [World.cell?, hbN]) (by simp [World.cell?, hbN]) (by simp [World.cell?, hbN]) (by simp [World.cell?, hbN]) (by simp [World.cell?, hbN]) (by simp [World.cell?, hbN])) (by omega)
  rw [HG.out] at KN
  have KN := Lib.hid KN
  have HFN := Lib.hid (show Fr no y1 WN by rw [hWN]; exact (Fr.refl no y1).alloc _)
  have n0 := HFN.out.keepc d1_0
  have n1 := HFN.out.keepc d1_1
  have n2 := HFN.out.keepc d1_2
  have n3 := HFN.out.keepc d1_3
  have n4 := HFN.out.keepc d1_4
  have n5 := HFN.out.keepc d1_5
  have n6 := HFN.out.keepc d1_6
  have n7 := HFN.out.keepc d1_7
  have n8 := HFN.out.keepc d1_8
  have HWN := Lib.hid hWN
  clear hWN hbN d1_0 d1_1 d1_2 d1_3 d1_4 d1_5 d1_6 d1_7 d1_8
  rw [← HWN.out]
  have HF1N := Lib.hid (HF1.out.noTrans HFN.out)
  refine (KN.out).mono ?_
  rintro e y2 ⟨rfl, f2⟩
  obtain ⟨d2_0, d2_1, d2_2, d2_3, d2_4, d2_5, d2_6, d2_7, d2_8⟩ := KS.out _ _ f2 n0 n1 n2 n3 n4 n5 n6 n7 n8
  have HF2 := Lib.hid (HF1N.out.noTrans f2)
  clear f2 n0 n1 n2 n3 n4 n5 n6 n7 n8
  go_wp2_with fail
  go_ret
  exact ⟨rfl, HF2.out.belowNone (Nat.le_refl _)⟩
set_option maxHeartbeats 8000000 in
theorem shapes_in (ax ay bx by_ cx cy dx dy f : Int) (w : World) (g : ([⟨ax, ay⟩, ⟨bx, by_⟩, ⟨cx, cy⟩, ⟨dx, dy⟩] : List Pt).all nrB = true) : Calls Try.prog 3 #[.agg #[.int .i64 ax, .int .i64 ay], .agg #[.int .i64 bx, .int .i64 by_], .agg #[.int .i64 cx, .int .i64 cy, .int .i64 dx, .int .i64 dy, .int .i64 f]] w fun e w' => e = .returned (.bool true) ∧ Below w.heap.size w w' := by
  have KS := Lib.hid (show ∀ w0 w' : World, Fr no w0 w' → w0.cell? ⟨w.heap.size, 0, none⟩ = some (.int .i64 ax) → w0.cell? ⟨w.heap.size, 1, none⟩ = some (.int .i64 ay) → w0.cell? ⟨w.heap.size + 1, 0, none⟩ = some (.int .i64 bx) → w0.cell? ⟨w.heap.size + 1, 1, none⟩ = some (.int .i64 by_) → w0.cell? ⟨w.heap.size + 1 + 1, 0, none⟩ = some (.int .i64 cx) → w0.cell? ⟨w.heap.size + 1 + 1, 1, none⟩ = some (.int .i64 cy) → w0.cell? ⟨w.heap.size + 1 + 1, 2, none⟩ = some (.int .i64 dx) → w0.cell? ⟨w.heap.size + 1 + 1, 3, none⟩ = some (.int .i64 dy) → w0.cell? ⟨w.heap.size + 1 + 1, 4, none⟩ = some (.int .i64 f) → (w'.cell? ⟨w.heap.size, 0, none⟩ = some (.int .i64 ax) ∧ w'.cell? ⟨w.heap.size, 1, none⟩ = some (.int .i64 ay) ∧ w'.cell? ⟨w.heap.size + 1, 0, none⟩ = some (.int .i64 bx) ∧ w'.cell? ⟨w.heap.size + 1, 1, none⟩ = some (.int .i64 by_) ∧ w'.cell? ⟨w.heap.size + 1 + 1, 0, none⟩ = some (.int .i64 cx) ∧ w'.cell? ⟨w.heap.size + 1 + 1, 1, none⟩ = some (.int .i64 cy) ∧ w'.cell? ⟨w.heap.size + 1 + 1, 2, none⟩ = some (.int .i64 dx) ∧ w'.cell? ⟨w.heap.size + 1 + 1, 3, none⟩ = some (.int .i64 dy) ∧ w'.cell? ⟨w.heap.size + 1 + 1, 4, none⟩ = some (.int .i64 f)) from fun _ _ h a0 a1 a2 a3 a4 a5 a6 a7 a8 => ⟨h.keepc a0, h.keepc a1, h.keepc a2, h.keepc a3, h.keepc a4, h.keepc a5, h.keepc a6, h.keepc a7, h.keepc a8⟩)
  obtain ⟨W, hW⟩ : ∃ W, W = (((w.alloc (.cells #[.int .i64 ax, .int .i64 ay] 23 (0, 0))).alloc (.cells #[.int .i64 bx, .int .i64 by_] 23 (0, 0))).alloc (.cells #[.int .i64 cx, .int .i64 cy, .int .i64 dx, .int .i64 dy, .int .i64 f] 25 (0, 0))) := ⟨_, rfl⟩
  have HF := Lib.hid (show Fr no w W by rw [hW]; exact (((Fr.refl no w).alloc _).alloc _).alloc _)
  have c0 : W.cell? ⟨w.heap.size, 0, none⟩ = some (.int .i64 ax) := by rw [hW]; go_simp
  have c1 : W.cell? ⟨w.heap.size, 1, none⟩ = some (.int .i64 ay) := by rw [hW]; go_simp
  have c2 : W.cell? ⟨w.heap.size + 1, 0, none⟩ = some (.int .i64 bx) := by rw [hW]; go_simp
  have c3 : W.cell? ⟨w.heap.size + 1, 1, none⟩ = some (.int .i64 by_) := by rw [hW]; go_simp
  have c4 : W.cell? ⟨w.heap.size + 1 + 1, 0, none⟩ = some (.int .i64 cx) := by rw [hW]; go_simp
  have c5 : W.cell? ⟨w.heap.size + 1 + 1, 1, none⟩ = some (.int .i64 cy) := by rw [hW]; go_simp
  have c6 : W.cell? ⟨w.heap.size + 1 + 1, 2, none⟩ = some (.int .i64 dx) := by rw [hW]; go_simp
  have c7 : W.cell? ⟨w.heap.size + 1 + 1, 3, none⟩ = some (.int .i64 dy) := by rw [hW]; go_simp
  have c8 : W.cell? ⟨w.heap.size + 1 + 1, 4, none⟩ = some (.int .i64 f) := by rw [hW]; go_simp
  have HW := Lib.hid hW
  clear hW
  have gg := g
  simp only [List.all_cons, List.all_nil, Bool.and_true, Bool.and_eq_true, nrB_t] at gg
  obtain ⟨⟨h1, h2⟩, ⟨h3, h4⟩, ⟨h5, h6⟩, h7, h8⟩ := gg
  have K13 := Lib.hid (fun w => square_any ax ay bx by_ w h1 h2 h3 h4)
  have K14 := Lib.hid (fun w => squareR_any ax ay bx by_ w h1 h2 h3 h4)
  have K15 := Lib.hid (fun w => crosses_any ax ay bx by_ cx cy dx dy f w h1 h2 h3 h4 h5 h6 h7 h8)
  have K16 := fun w => crossesR_any ax ay bx by_ cx cy dx dy f w h1 h2 h3 h4 h5 h6 h7 h8
  rw [crB_crR] at K16
  have K16 := Lib.hid K16
  clear h1 h2 h3 h4 h5 h6 h7 h8
  have HG := Lib.hid g
  clear g
  go_enter Try.func3, Try.ntmps3
  go_wp2_with fail
  rw [← HW.out]
  refine (awake_any _).mono ?_
  rintro e y1 ⟨rfl, f1⟩
  obtain ⟨d1_0, d1_1, d1_2, d1_3, d1_4, d1_5, d1_6, d1_7, d1_8⟩ := KS.out _ _ f1 c0 c1 c2 c3 c4 c5 c6 c7 c8
  have HF1 := Lib.hid (HF.out.noTrans f1)
  clear f1 c0 c1 c2 c3 c4 c5 c6 c7 c8
  go_wp2_with fail
  obtain ⟨WN, hWN⟩ : ∃ WN, WN = y1.alloc (.cells #[.int .i64 ax, .int .i64 ay, .int .i64 bx, .int .i64 by_, .int .i64 cx, .int .i64 cy, .int .i64 dx, .int .i64 dy] 23 (0, 0)) := ⟨_, rfl⟩
  have hbN : WN.heap[y1.heap.size]? = some (.cells #[.int .i64 ax, .int .i64 ay, .int .i64 bx, .int .i64 by_, .int .i64 cx, .int .i64 cy, .int .i64 dx, .int .i64 dy] 23 (0, 0)) := by rw [hWN]; exact heap_alloc_new y1 _
  have KN := near_any (some ⟨y1.heap.size, 0, none⟩) 4 4 [⟨ax, ay⟩, ⟨bx, by_⟩, ⟨cx, cy⟩, ⟨dx, dy⟩] WN (pts4 (by simp [World.cell?, hbN]) (by simp [World.cell?, hbN]) (by simp [World.cell?, hbN]) (by simp [World.cell?, hbN]) (by simp [World.cell?, hbN]) (by simp [World.cell?, hbN]) (by simp [World.cell?, hbN]) (by simp [World.cell?, hbN])) (by omega)
  rw [HG.out] at KN
  have KN := Lib.hid KN
  have HFN := Lib.hid (show Fr no y1 WN by rw [hWN]; exact (Fr.refl no y1).alloc _)
  have n0 := HFN.out.keepc d1_0
  have n1 := HFN.out.keepc d1_1
  have n2 := HFN.out.keepc d1_2
  have n3 := HFN.out.keepc d1_3
  have n4 := HFN.out.keepc d1_4
  have n5 := HFN.out.keepc d1_5
  have n6 := HFN.out.keepc d1_6
  have n7 := HFN.out.keepc d1_7
  have n8 := HFN.out.keepc d1_8
  have HWN := Lib.hid hWN
  clear hWN hbN d1_0 d1_1 d1_2 d1_3 d1_4 d1_5 d1_6 d1_7 d1_8
  rw [← HWN.out]
  have HF1N := Lib.hid (HF1.out.noTrans HFN.out)
  refine (KN.out).mono ?_
  rintro e y2 ⟨rfl, f2⟩
  obtain ⟨d2_0, d2_1, d2_2, d2_3, d2_4, d2_5, d2_6, d2_7, d2_8⟩ := KS.out _ _ f2 n0 n1 n2 n3 n4 n5 n6 n7 n8
  have HF2 := Lib.hid (HF1N.out.noTrans f2)
  clear f2 n0 n1 n2 n3 n4 n5 n6 n7 n8
  go_wp2_with fail
  have tokf3 : True := trivial
  have tokf4 : True := trivial
  have tokf5 : True := trivial
  have tokf6 : True := trivial
  go_region_held3 (fun w' => w'.cell? ⟨w.heap.size, 0, none⟩ = some (.int .i64 ax) ∧ w'.cell? ⟨w.heap.size, 1, none⟩ = some (.int .i64 ay) ∧ w'.cell? ⟨w.heap.size + 1, 0, none⟩ = some (.int .i64 bx) ∧ w'.cell? ⟨w.heap.size + 1, 1, none⟩ = some (.int .i64 by_) ∧ w'.cell? ⟨w.heap.size + 1 + 1, 0, none⟩ = some (.int .i64 cx) ∧ w'.cell? ⟨w.heap.size + 1 + 1, 1, none⟩ = some (.int .i64 cy) ∧ w'.cell? ⟨w.heap.size + 1 + 1, 2, none⟩ = some (.int .i64 dx) ∧ w'.cell? ⟨w.heap.size + 1 + 1, 3, none⟩ = some (.int .i64 dy) ∧ w'.cell? ⟨w.heap.size + 1 + 1, 4, none⟩ = some (.int .i64 f)) (go_keep)
    (first
      | (go_at_call 13; have _tk := tokf3; refine (K13.out _).mono ?_; rintro e w3 ⟨rfl, f3⟩; clear _tk tokf3; obtain ⟨kf30, kf31, kf32, kf33, kf34, kf35, kf36, kf37, kf38⟩ := KS.out _ _ f3 d2_0 d2_1 d2_2 d2_3 d2_4 d2_5 d2_6 d2_7 d2_8)
      | (go_at_call 14; have _tk := tokf4; refine (K14.out _).mono ?_; rintro e w4 ⟨rfl, f4⟩; clear _tk tokf4; obtain ⟨kf40, kf41, kf42, kf43, kf44, kf45, kf46, kf47, kf48⟩ := KS.out _ _ f4 kf30 kf31 kf32 kf33 kf34 kf35 kf36 kf37 kf38)
      | (go_at_call 15; have _tk := tokf5; refine (K15.out _).mono ?_; rintro e w5 ⟨rfl, f5⟩; clear _tk tokf5; obtain ⟨kf50, kf51, kf52, kf53, kf54, kf55, kf56, kf57, kf58⟩ := KS.out _ _ f5 kf40 kf41 kf42 kf43 kf44 kf45 kf46 kf47 kf48)
      | (go_at_call 16; have _tk := tokf6; refine (K16.out _).mono ?_; rintro e w6 ⟨rfl, f6⟩; clear _tk tokf6; obtain ⟨kf60, kf61, kf62, kf63, kf64, kf65, kf66, kf67, kf68⟩ := KS.out _ _ f6 kf50 kf51 kf52 kf53 kf54 kf55 kf56 kf57 kf58))
  have HF6 := Lib.hid ((((HF2.out.drew.noTrans f3).noTrans f4).noTrans f5).noTrans f6)
  clear f3 f4 f5 f6
  go_wp2_with fail
  go_ret
  exact ⟨rfl, HF6.out.belowNone (Nat.le_refl _)⟩
theorem shapes_law (ax ay bx by_ cx cy dx dy f : Int) (w : World) : Calls Try.prog 3 #[.agg #[.int .i64 ax, .int .i64 ay], .agg #[.int .i64 bx, .int .i64 by_], .agg #[.int .i64 cx, .int .i64 cy, .int .i64 dx, .int .i64 dy, .int .i64 f]] w fun e w' => e = .returned (.bool true) ∧ Below w.heap.size w w' := by
  cases g : ([⟨ax, ay⟩, ⟨bx, by_⟩, ⟨cx, cy⟩, ⟨dx, dy⟩] : List Pt).all nrB
  · exact shapes_out ax ay bx by_ cx cy dx dy f w g
  · exact shapes_in ax ay bx by_ cx cy dx dy f w g
end Go.Proofs.Ytljfdoabgbioiaa
