/- The reference's writer: room, Unsigned, Signed, Flag, Bits, NewWriter, Width. -/
import Derived.Test.YtelpdihaonoedaaRefW
namespace Go.Proofs.Ytelpdihaonoedaa
open Go.RowKit
set_option maxRecDepth 20000

theorem RwS.setE {base : Nat} {w : World} {B : Nat} {v : Value} {bs : List Bool} {e : Int} (h : RwS base w B v ⟨bs, e⟩) (e' : Int) :
    RwS base (w.setCell ⟨B, 1, none⟩ (.int .i64 e')) B v ⟨bs, e'⟩ ∧ Adv w (w.setCell ⟨B, 1, none⟩ (.int .i64 e')) B v v := by
  refine ⟨⟨?_, h.hB, ownsRow_setCell_other h.own (by simpa using h.ne) _, h.ne, h.le⟩, ⟨(Fr.refl (foot B v) w).setCell (p := ⟨B, 1, none⟩) (.inl (.inl rfl)) _, fun k hk => .inl hk⟩⟩
  rw [three_set h.blk 1 _]; rfl

/-- Is there room for some bits? -/
def roomB (bits : Int) (st : WSt) : Bool := decide (st.e = 0) && decide (st.bs.length + bits ≤ 524288)
def roomS (bits : Int) (st : WSt) : WSt := if st.e = 0 ∧ st.bs.length + bits > 524288 then ⟨st.bs, 8⟩ else st

set_option maxHeartbeats 400000 in
theorem room_any (base B : Nat) (v : Value) (st : WSt) (bits : Int) (w : World) (h0 : 0 ≤ bits) (h1 : bits ≤ 1152921504606846976) (h : RwS base w B v st) :
    Calls Try.prog 80 #[.pointer (some ⟨B, 0, none⟩), .int .i64 bits] w fun e w' => e = .returned (.bool (roomB bits st)) ∧ RwS base w' B v (roomS bits st) ∧ Adv w w' B v v := by
  obtain ⟨bs, e⟩ := st
  obtain ⟨c0, c1, f0, f1⟩ := two_cells h.blk
  obtain ⟨ao, cap, hv⟩ := own_form h.own
  have hle := h.le
  have H := Lib.hid h
  have HV := Lib.hid hv
  clear h
  by_cases he : e = 0
  · subst he
    rw [hv] at c0
    clear hv
    simp only at c0 hle H c1
    generalize hn : bs.length = n at *
    have HNN := Lib.hid hn
    clear hn
    by_cases hb : (524288 : Int) < (n : Int) + bits
    · have HR : Hid (roomB bits ⟨bs, 0⟩ = false) := by refine Lib.hid ?_; simp only [roomB, HNN.out]; simp; omega
      have HS : Hid (roomS bits ⟨bs, 0⟩ = ⟨bs, 8⟩) := by refine Lib.hid ?_; unfold roomS; rw [if_pos ⟨rfl, by rw [HNN.out]; omega⟩]
      go_enter Try.func80, Try.ntmps80
      go_wp2
      go_ret
      rw [HR.out, HS.out]
      exact ⟨rfl, (H.out.setE 8).1, (H.out.setE 8).2⟩
    · have HR : Hid (roomB bits ⟨bs, 0⟩ = true) := by refine Lib.hid ?_; simp only [roomB, HNN.out]; simp; omega
      have HS : Hid (roomS bits ⟨bs, 0⟩ = ⟨bs, 0⟩) := by refine Lib.hid ?_; unfold roomS; rw [if_neg]; rw [HNN.out]; omega
      go_enter Try.func80, Try.ntmps80
      go_wp2
      go_ret
      rw [HR.out, HS.out]
      exact ⟨rfl, H.out, Adv.refl _ _ _⟩
  · have heb : (e == 0) = false := by simpa using he
    have HR : Hid (roomB bits ⟨bs, e⟩ = false) := Lib.hid (by simp [roomB, he])
    have HS : Hid (roomS bits ⟨bs, e⟩ = ⟨bs, e⟩) := Lib.hid (by simp [roomS, he])
    clear hv hle he
    go_enter Try.func80, Try.ntmps80
    go_wp2
    go_ret
    rw [HR.out, HS.out]
    exact ⟨rfl, H.out, Adv.refl _ _ _⟩

theorem rnewWriter_any (w : World) : Calls Try.prog 35 #[] w fun e w' => e = .returned (.pointer (some ⟨w.heap.size, 0, none⟩)) ∧ w' = w.alloc (.cells #[.slice none 0 0, .int .i64 0] 98) := by
  go_enter Try.func35, Try.ntmps35
  go_wp2
  go_ret
  exact ⟨rfl, rfl⟩
theorem rnewWriter_st (base : Nat) (w : World) (h : base ≤ w.heap.size) : RwS base (w.alloc (.cells #[.slice none 0 0, .int .i64 0] 98)) w.heap.size (.slice none 0 0) ⟨[], 0⟩ :=
  ⟨heap_alloc_new w _, h, World.ownsRow_nil _ _ _ _, by simp [Value.ownBlock], by simp⟩

/-- 'room', and then the bits: what 'field' does. -/
theorem room_put {size : Int} {new bs : List Bool} (h : size = new.length) : (roomB size ⟨bs, 0⟩ = true → wField 0 size new ⟨bs, 0⟩ = ⟨bs ++ new, 0⟩ ∧ bs.length + new.length ≤ 524288 ∧ roomS size ⟨bs, 0⟩ = ⟨bs, 0⟩) ∧
    (roomB size ⟨bs, 0⟩ = false → roomS size ⟨bs, 0⟩ = wField 0 size new ⟨bs, 0⟩) := by
  unfold roomB roomS wField
  constructor
  · intro hr
    simp only [decide_true, Bool.true_and, decide_eq_true_eq] at hr
    rw [if_neg (by simp), if_neg (by simp), if_neg (by simp only; omega)]
    refine ⟨rfl, by omega, ?_⟩
    rw [if_neg]; simp only; omega
  · intro hr
    simp only [decide_true, Bool.true_and, decide_eq_false_iff_not] at hr
    rw [if_pos (show (0 : Int) = 0 ∧ (bs.length : Int) + size > 524288 from ⟨rfl, by omega⟩), if_neg (by simp), if_neg (by simp), if_pos (show size > 524288 - (bs.length : Int) by omega)]

set_option maxHeartbeats 1000000 in
theorem runsigned_any (base B : Nat) (v : Value) (st : WSt) (width n : Int) (w : World) (h1 : -9223372036854775808 ≤ n) (h2 : n ≤ 9223372036854775807) (h : RwS base w B v st) :
    Calls Try.prog 36 #[.pointer (some ⟨B, 0, none⟩), .int .i64 width, .int .i64 n] w fun e w' => e = .returned (.tuple #[]) ∧ ∃ v', RwS base w' B v' (wUnsigned width n st) ∧ Adv w w' B v v' := by
  obtain ⟨bs, e⟩ := st
  obtain ⟨c0, c1, f0, f1⟩ := two_cells h.blk
  have H := Lib.hid h
  have hbase : base ≤ w.heap.size := by have := h.hB; have := lt_of_blk h.blk; omega
  clear h
  by_cases he : e = 0
  · subst he
    simp only at c1
    by_cases hw : 1 ≤ width ∧ width ≤ 63
    · obtain ⟨hw1, hw2⟩ := hw
      obtain ⟨k, rfl⟩ := Int.eq_ofNat_of_zero_le (show 0 ≤ width by omega)
      have k1 : 1 ≤ k := by omega
      have k2 : k ≤ 63 := by omega
      by_cases hneg : n < 0
      · have HF : Hid (wUnsigned k n ⟨bs, 0⟩ = ⟨bs, 2⟩) := by
          refine Lib.hid ?_
          have hu : uErr k n = 2 := by
            unfold uErr; rw [if_pos ⟨hw1, hw2⟩, if_neg]
            have hp : (0 : Int) < 2 ^ ((k : Int).toNat) := Int.pow_pos (by decide)
            intro hz
            rw [Int.ediv_eq_iff_of_pos hp] at hz
            omega
          unfold wUnsigned wField
          rw [hu, if_neg (by simp), if_pos (by decide)]
        go_enter Try.func36, Try.ntmps36
        go_wp2_with fail
        refine ret_none rfl rfl ?_
        rw [HF.out]
        exact ⟨rfl, v, (H.out.setE 2).1, (H.out.setE 2).2⟩
      · have good : n < 2 ^ k → Hid (wUnsigned k n ⟨bs, 0⟩ = wField 0 k (ibits k n) ⟨bs, 0⟩) := fun hlt => by
          refine Lib.hid ?_
          unfold wUnsigned
          rw [uErr_fits k n k1 k2 (by omega) hlt, Int.toNat_natCast]
        have finish : n < 2 ^ k → ∀ (K : Prop), True := fun _ _ => trivial
        clear finish
        obtain ⟨P, hP⟩ : ∃ P : Int, (2 : Int) ^ k = P := ⟨_, rfl⟩
        by_cases h63 : k < 63
        · have p2 : P ≤ 4611686018427387904 := by
            have h61 : 2 ^ k ≤ 4611686018427387904 := Nat.pow_le_pow_right (n := 2) (by decide) (show k ≤ 62 by omega)
            rw [← hP, two_pow_nat]
            generalize 2 ^ k = q at h61
            omega
          have p1 : 1 ≤ P := by rw [← hP]; exact Int.pow_pos (by decide)
          by_cases hbig : P ≤ n
          · have HF : Hid (wUnsigned k n ⟨bs, 0⟩ = ⟨bs, 2⟩) := by
              refine Lib.hid ?_
              unfold wUnsigned wField
              rw [uErr_wide k n k1 k2 (by rw [hP]; exact hbig), if_neg (by simp), if_pos (by decide)]
            clear good
            go_enter Try.func36, Try.ntmps36
            go_wp2_with fail
            refine ret_none rfl rfl ?_
            rw [HF.out]
            exact ⟨rfl, v, (H.out.setE 2).1, (H.out.setE 2).2⟩
          · have HF := good (by rw [hP]; omega)
            clear good
            go_enter Try.func36, Try.ntmps36
            go_wp2_with fail
            refine (room_any base B v ⟨bs, 0⟩ k _ (by omega) (by omega) H.out).mono ?_
            cases hrm : roomB k ⟨bs, 0⟩
            · rintro e w1 ⟨rfl, hr, ha⟩
              have HRP := Lib.hid ((room_put (size := k) (new := ibits k n) (by rw [ibits_len])).2 hrm)
              have HR := Lib.hid hr
              have HA := Lib.hid ha
              clear hr ha hrm
              go_wp2_with fail
              go_end0
              rw [HF.out, ← HRP.out]
              exact ⟨rfl, v, HR.out, HA.out⟩
            · rintro e w1 ⟨rfl, hr, ha⟩
              obtain ⟨g1, g2, g3⟩ := (room_put (size := k) (new := ibits k n) (by rw [ibits_len])).1 hrm
              rw [g3] at hr
              have G1 := Lib.hid g1
              have G2 := Lib.hid g2
              have HR := Lib.hid hr
              have HA := Lib.hid ha
              have hsz1 := ha.fr.size
              clear hr ha hrm g1 g2 g3
              go_wp2_with fail
              refine (put_any base B v bs k n _ (by omega) h1 h2 (by have := G2.out; rw [ibits_len] at this; exact this) (by omega) HR.out).mono ?_
              rintro e w2 ⟨rfl, v2, h3, a3⟩
              have H3 := Lib.hid h3
              have A3 := Lib.hid a3
              clear h3 a3
              go_wp2_with fail
              go_end0
              rw [HF.out, G1.out]
              exact ⟨rfl, v2, H3.out, HA.out.trans A3.out⟩
        · have e63 : k = 63 := by omega
          subst e63
          have HF := good (by
            have : (2 : Int) ^ 63 = 9223372036854775808 := by decide
            rw [this]; omega)
          clear good hP h63
          rw [show (((63 : Nat) : Nat) : Int) = 63 from rfl] at HF ⊢
          go_enter Try.func36, Try.ntmps36
          go_wp2_with fail
          refine (room_any base B v ⟨bs, 0⟩ 63 _ (by omega) (by omega) H.out).mono ?_
          cases hrm : roomB 63 ⟨bs, 0⟩
          · rintro e w1 ⟨rfl, hr, ha⟩
            have HRP := Lib.hid ((room_put (size := 63) (new := ibits 63 n) (by rw [ibits_len]; rfl)).2 hrm)
            have HR := Lib.hid hr
            have HA := Lib.hid ha
            clear hr ha hrm
            go_wp2_with fail
            go_end0
            rw [HF.out, ← HRP.out]
            exact ⟨rfl, v, HR.out, HA.out⟩
          · rintro e w1 ⟨rfl, hr, ha⟩
            obtain ⟨g1, g2, g3⟩ := (room_put (size := 63) (new := ibits 63 n) (by rw [ibits_len]; rfl)).1 hrm
            rw [g3] at hr
            have G1 := Lib.hid g1
            have G2 := Lib.hid g2
            have HR := Lib.hid hr
            have HA := Lib.hid ha
            have hsz1 := ha.fr.size
            clear hr ha hrm g1 g2 g3
            go_wp2_with fail
            refine (put_any base B v bs 63 n _ (by omega) h1 h2 (by have := G2.out; rw [ibits_len] at this; exact this) (by omega) HR.out).mono ?_
            rintro e w2 ⟨rfl, v2, h3, a3⟩
            have H3 := Lib.hid h3
            have A3 := Lib.hid a3
            clear h3 a3
            go_wp2_with fail
            go_end0
            rw [HF.out, G1.out]
            exact ⟨rfl, v2, H3.out, HA.out.trans A3.out⟩
    · have HF : Hid (wUnsigned width n ⟨bs, 0⟩ = ⟨bs, 1⟩) := by
        refine Lib.hid ?_
        have hu : uErr width n = 1 := by unfold uErr; rw [if_neg hw]
        unfold wUnsigned wField
        rw [hu, if_neg (by simp), if_pos (by decide)]
      by_cases hlo : width < 1
      · clear hw
        go_enter Try.func36, Try.ntmps36
        go_wp2_with fail
        refine ret_none rfl rfl ?_
        rw [HF.out]
        exact ⟨rfl, v, (H.out.setE 1).1, (H.out.setE 1).2⟩
      · have hhi : 63 < width := by omega
        clear hw
        go_enter Try.func36, Try.ntmps36
        go_wp2_with fail
        refine ret_none rfl rfl ?_
        rw [HF.out]
        exact ⟨rfl, v, (H.out.setE 1).1, (H.out.setE 1).2⟩
  · have heb : (e != 0) = true := by simpa using he
    have HF : Hid (wUnsigned width n ⟨bs, e⟩ = ⟨bs, e⟩) := Lib.hid (by unfold wUnsigned; exact wField_dead _ _ _ _ he)
    clear he
    go_enter Try.func36, Try.ntmps36
    go_wp2_with fail
    refine ret_none rfl rfl ?_
    rw [HF.out]
    exact ⟨rfl, v, H.out, Adv.refl _ _ _⟩

set_option maxHeartbeats 1000000 in
theorem rsigned_any (base B : Nat) (v : Value) (st : WSt) (width n : Int) (w : World) (h1 : -9223372036854775808 ≤ n) (h2 : n ≤ 9223372036854775807) (h : RwS base w B v st) :
    Calls Try.prog 38 #[.pointer (some ⟨B, 0, none⟩), .int .i64 width, .int .i64 n] w fun e w' => e = .returned (.tuple #[]) ∧ ∃ v', RwS base w' B v' (wSigned width n st) ∧ Adv w w' B v v' := by
  obtain ⟨bs, e⟩ := st
  obtain ⟨c0, c1, f0, f1⟩ := two_cells h.blk
  have H := Lib.hid h
  have hbase : base ≤ w.heap.size := by have := h.hB; have := lt_of_blk h.blk; omega
  clear h
  by_cases he : e = 0
  · subst he
    simp only at c1
    by_cases hw : 2 ≤ width ∧ width ≤ 63
    · obtain ⟨hw1, hw2⟩ := hw
      obtain ⟨k, rfl⟩ := Int.eq_ofNat_of_zero_le (show 0 ≤ width by omega)
      have k1 : 2 ≤ k := by omega
      have k2 : k ≤ 63 := by omega
      obtain ⟨P, hP⟩ : ∃ P : Int, (2 : Int) ^ (k - 1) = P := ⟨_, rfl⟩
      have p2 : P ≤ 4611686018427387904 := by
        have h61 : 2 ^ (k - 1) ≤ 4611686018427387904 := Nat.pow_le_pow_right (n := 2) (by decide) (show k - 1 ≤ 62 by omega)
        rw [← hP, two_pow_nat]
        generalize 2 ^ (k - 1) = q at h61
        omega
      have p1 : 1 ≤ P := by rw [← hP]; exact Int.pow_pos (by decide)
      by_cases hlo : n < -P
      · have HF : Hid (wSigned k n ⟨bs, 0⟩ = ⟨bs, 2⟩) := by
          refine Lib.hid ?_
          unfold wSigned wField
          rw [sErr_wide k n k1 k2 (.inl (by rw [hP]; exact hlo)), if_neg (by simp), if_pos (by decide)]
        go_enter Try.func38, Try.ntmps38
        go_wp2_with fail
        refine ret_none rfl rfl ?_
        rw [HF.out]
        exact ⟨rfl, v, (H.out.setE 2).1, (H.out.setE 2).2⟩
      · by_cases hhi : P - 1 < n
        · have HF : Hid (wSigned k n ⟨bs, 0⟩ = ⟨bs, 2⟩) := by
            refine Lib.hid ?_
            unfold wSigned wField
            rw [sErr_wide k n k1 k2 (.inr (by rw [hP]; omega)), if_neg (by simp), if_pos (by decide)]
          go_enter Try.func38, Try.ntmps38
          go_wp2_with fail
          refine ret_none rfl rfl ?_
          rw [HF.out]
          exact ⟨rfl, v, (H.out.setE 2).1, (H.out.setE 2).2⟩
        · have HF : Hid (wSigned k n ⟨bs, 0⟩ = wField 0 k (ibits k n) ⟨bs, 0⟩) := by
            refine Lib.hid ?_
            unfold wSigned
            rw [sErr_fits k n k1 k2 (by rw [hP]; omega) (by rw [hP]; omega), Int.toNat_natCast]
          go_enter Try.func38, Try.ntmps38
          go_wp2_with fail
          refine (room_any base B v ⟨bs, 0⟩ k _ (by omega) (by omega) H.out).mono ?_
          cases hrm : roomB k ⟨bs, 0⟩
          · rintro e w1 ⟨rfl, hr, ha⟩
            have HRP := Lib.hid ((room_put (size := k) (new := ibits k n) (by rw [ibits_len])).2 hrm)
            have HR := Lib.hid hr
            have HA := Lib.hid ha
            clear hr ha hrm
            go_wp2_with fail
            go_end0
            rw [HF.out, ← HRP.out]
            exact ⟨rfl, v, HR.out, HA.out⟩
          · rintro e w1 ⟨rfl, hr, ha⟩
            obtain ⟨g1, g2, g3⟩ := (room_put (size := k) (new := ibits k n) (by rw [ibits_len])).1 hrm
            rw [g3] at hr
            have G1 := Lib.hid g1
            have G2 := Lib.hid g2
            have HR := Lib.hid hr
            have HA := Lib.hid ha
            have hsz1 := ha.fr.size
            clear hr ha hrm g1 g2 g3
            go_wp2_with fail
            refine (put_any base B v bs k n _ (by omega) h1 h2 (by have := G2.out; rw [ibits_len] at this; exact this) (by omega) HR.out).mono ?_
            rintro e w2 ⟨rfl, v2, h3, a3⟩
            have H3 := Lib.hid h3
            have A3 := Lib.hid a3
            clear h3 a3
            go_wp2_with fail
            go_end0
            rw [HF.out, G1.out]
            exact ⟨rfl, v2, H3.out, HA.out.trans A3.out⟩
    · have HF : Hid (wSigned width n ⟨bs, 0⟩ = ⟨bs, 1⟩) := by
        refine Lib.hid ?_
        have hu : sErr width n = 1 := by unfold sErr; rw [if_neg hw]
        unfold wSigned wField
        rw [hu, if_neg (by simp), if_pos (by decide)]
      by_cases hlo : width < 2
      · clear hw
        go_enter Try.func38, Try.ntmps38
        go_wp2_with fail
        refine ret_none rfl rfl ?_
        rw [HF.out]
        exact ⟨rfl, v, (H.out.setE 1).1, (H.out.setE 1).2⟩
      · have hhi : 63 < width := by omega
        clear hw
        go_enter Try.func38, Try.ntmps38
        go_wp2_with fail
        refine ret_none rfl rfl ?_
        rw [HF.out]
        exact ⟨rfl, v, (H.out.setE 1).1, (H.out.setE 1).2⟩
  · have heb : (e != 0) = true := by simpa using he
    have HF : Hid (wSigned width n ⟨bs, e⟩ = ⟨bs, e⟩) := Lib.hid (by unfold wSigned; exact wField_dead _ _ _ _ he)
    clear he
    go_enter Try.func38, Try.ntmps38
    go_wp2_with fail
    refine ret_none rfl rfl ?_
    rw [HF.out]
    exact ⟨rfl, v, H.out, Adv.refl _ _ _⟩

set_option maxHeartbeats 1000000 in
theorem rwidth_any (most : Int) (w : World) (h2 : most ≤ 9223372036854775807) :
    Calls Try.prog 82 #[.int .i64 most] w fun e w' => e = .returned (.int .i64 (width most)) ∧ w' = w := by
  by_cases h : most < 0
  · have HF := Lib.hid (show width most = 0 by simp [width, h])
    go_enter Try.func82, Try.ntmps82
    go_wp2
    go_ret
    rw [HF.out]; exact ⟨rfl, rfl⟩
  · have h0 : 0 ≤ most := by omega
    have hw63 := width_le64 most h2
    go_enter Try.func82, Try.ntmps82
    go_wp2
    go_loop [0, 3] (fun m n => ∃ (q : Int) (j : Nat), 0 ≤ q ∧ q ≤ most ∧ m = .int .i64 q ∧ n = .int .i64 j ∧ 1 ≤ j ∧ j ≤ 63 ∧ Hid (j + width q = width most + 1)) (fun m _ => (intOf m).toNat)
    case atStart => exact ⟨most, 1, h0, by omega, rfl, rfl, by omega, by omega, Lib.hid (by omega)⟩
    case round =>
      obtain ⟨q, j, hq, hqm, rfl, rfl, hj1, hj2, HJ⟩ := hrel
      by_cases hlt : 2 ≤ q
      · have hh : width q = width (q / 2) + 1 := by
          obtain ⟨n, rfl⟩ := Int.eq_ofNat_of_zero_le hq
          have e1 : width (n : Int) = max 1 (Lib.bitLen n) := by unfold width; rw [if_neg (by omega), Int.toNat_natCast]
          have e2 : width ((n : Int) / 2) = max 1 (Lib.bitLen (n / 2)) := by
            unfold width; rw [if_neg (by omega)]
            congr 2
          have e3 := Lib.bitLen_half n (by omega) (by omega)
          have e4 : Lib.bitLen (n / 2) ≠ 0 := by
            have := (Lib.bitLenAux_bounds 64 (n / 2) (by omega) (by omega)).1
            have e : Lib.bitLenAux 64 (n / 2) = Lib.bitLen (n / 2) := rfl
            omega
          omega
        have hpos := (width_spec (q / 2) (by omega) (by omega)).1
        have HH := Lib.hid hh
        have hj3 : j + 1 ≤ 63 := by have := HJ.out; omega
        clear hh hpos
        go_wp2
        go_round
        case rel => exact ⟨q / 2, j + 1, by omega, by omega, rfl, by go_num, by omega, by omega, Lib.hid (by have := HJ.out; have := HH.out; omega)⟩
        case measure => simp [intOf]; omega
      · have hw1 : width q = 1 := by
          have : q = 0 ∨ q = 1 := by omega
          rcases this with rfl | rfl <;> decide
        have HE := Lib.hid (show width most = j by have := HJ.out; omega)
        clear hw1
        go_wp2
        go_ret
        rw [HE.out]; exact ⟨rfl, rfl⟩

set_option maxHeartbeats 1000000 in
theorem rflag_any (base B : Nat) (v : Value) (st : WSt) (b : Bool) (w : World) (h : RwS base w B v st) :
    Calls Try.prog 37 #[.pointer (some ⟨B, 0, none⟩), .bool b] w fun e w' => e = .returned (.tuple #[]) ∧ ∃ v', RwS base w' B v' (wFlag b st) ∧ Adv w w' B v v' := by
  obtain ⟨i0, hi, hz0, hz1, hz2⟩ := info_parts Try.info5
  obtain ⟨bs, e⟩ := st
  have H := Lib.hid h
  have hbase : base ≤ w.heap.size := by have := h.hB; have := lt_of_blk h.blk; omega
  clear h
  by_cases he : e = 0
  · subst he
    cases hrm : roomB 1 ⟨bs, 0⟩
    · have HRP := Lib.hid ((room_put (size := 1) (new := [b]) rfl).2 hrm)
      have HRM := Lib.hid hrm
      clear hrm
      go_enter Try.func37, Try.ntmps37
      go_wp2_with fail
      refine (room_any base B v ⟨bs, 0⟩ 1 _ (by omega) (by omega) H.out).mono ?_
      rw [HRM.out]
      rintro e w1 ⟨rfl, hr, ha⟩
      have HR := Lib.hid hr
      have HA := Lib.hid ha
      clear hr ha
      go_wp2_with fail
      refine ret_none rfl rfl ?_
      unfold wFlag
      rw [← HRP.out]
      exact ⟨rfl, v, HR.out, HA.out⟩
    · obtain ⟨g1, g2, g3⟩ := (room_put (size := 1) (new := [b]) rfl).1 hrm
      have HRM := Lib.hid hrm
      have G1 := Lib.hid g1
      have G2 := Lib.hid (show bs.length < 524288 by simp at g2; omega)
      have G3 := Lib.hid g3
      clear hrm g1 g2 g3
      go_enter Try.func37, Try.ntmps37
      go_wp2_with fail
      refine (room_any base B v ⟨bs, 0⟩ 1 _ (by omega) (by omega) H.out).mono ?_
      rw [HRM.out, G3.out]
      rintro e w1 ⟨rfl, hr, ha⟩
      obtain ⟨c0, c1, f0, f1⟩ := two_cells hr.blk
      have hown := hr.own
      have hne := hr.ne
      have hBlt := lt_of_blk hr.blk
      have hsz1 := ha.fr.size
      have HR := Lib.hid hr
      have HA := Lib.hid ha
      clear hr ha
      simp only at hown
      generalize hn : bs.length = n at *
      have HNN := Lib.hid hn
      clear hn
      cases b
      · go_wp2_with (at_builtin; refine wpList_append_lies _ rfl (.tmp 21) (.tmp 22) 41 rfl base 5 i0 (.int .u8 0) 1 1 Try.underlying41 hi hz0 hz1 hz2 rfl (by decide) v n _ rfl (hown.alloc _) ⟨w1.heap.size, 0, none⟩ 1 1 [.int .u8 0] rfl rfl ?c1 ?c2 ?c3 ?c4 ?c5 ?c6 (w1.heap.size + 1) ?c7 ?_)
        case c1 => exact cell_one_new _ _ _
        case c2 => intro u hu; simp at hu; subst hu; rfl
        case c3 => decide
        case c4 => have := G2.out; unfold maxLen; omega
        case c5 => have := G2.out; omega
        case c6 => simp; omega
        case c7 => simp
        intro g cap w2 hown1 hgrow hat hlt2
        have e0 : w2.frozen? ⟨B, 0, none⟩ = false := (hgrow.frozen_far _ (by simp; omega) (fun e => hne e.symm)).trans (((((Fr.refl (fun _ => False) w1).alloc _)).frozen (p := ⟨B, 0, none⟩) hBlt (fun h => h)).trans f0)
        have e1 : w2.cell? ⟨B, 0, none⟩ = some v := (hgrow.cell_far _ (by simp; omega) (fun e => hne e.symm)).trans (((((Fr.refl (fun _ => False) w1).alloc _)).cell (p := ⟨B, 0, none⟩) hBlt (fun h => h)).trans c0)
        have hend := rws_end (b := false) HR.out (by have := G2.out; have := HNN.out; omega) (grown_past' hgrow) (by rw [HNN.out]; exact hown1) (fun j hj => by
          have e : g = j := by simpa [Value.ownBlock] using hj
          subst e
          rcases hat with e | e
          · exact .inl e
          · exact .inr (by omega))
        have HE := Lib.hid hend
        clear hend hown1 hgrow hat hlt2 hown c0 c1 f0 f1
        go_wp2_with fail
        go_end0
        unfold wFlag
        rw [G1.out]
        exact ⟨rfl, _, HE.out.1, HA.out.trans HE.out.2⟩
      · go_wp2_with (at_builtin; refine wpList_append_lies _ rfl (.tmp 12) (.tmp 13) 41 rfl base 5 i0 (.int .u8 0) 1 1 Try.underlying41 hi hz0 hz1 hz2 rfl (by decide) v n _ rfl (hown.alloc _) ⟨w1.heap.size, 0, none⟩ 1 1 [.int .u8 1] rfl rfl ?d1 ?d2 ?d3 ?d4 ?d5 ?d6 (w1.heap.size + 1) ?d7 ?_)
        case d1 => exact cell_one_new _ _ _
        case d2 => intro u hu; simp at hu; subst hu; rfl
        case d3 => decide
        case d4 => have := G2.out; unfold maxLen; omega
        case d5 => have := G2.out; omega
        case d6 => simp; omega
        case d7 => simp
        intro g cap w2 hown1 hgrow hat hlt2
        have e0 : w2.frozen? ⟨B, 0, none⟩ = false := (hgrow.frozen_far _ (by simp; omega) (fun e => hne e.symm)).trans (((((Fr.refl (fun _ => False) w1).alloc _)).frozen (p := ⟨B, 0, none⟩) hBlt (fun h => h)).trans f0)
        have e1 : w2.cell? ⟨B, 0, none⟩ = some v := (hgrow.cell_far _ (by simp; omega) (fun e => hne e.symm)).trans (((((Fr.refl (fun _ => False) w1).alloc _)).cell (p := ⟨B, 0, none⟩) hBlt (fun h => h)).trans c0)
        have hend := rws_end (b := true) HR.out (by have := G2.out; have := HNN.out; omega) (grown_past' hgrow) (by rw [HNN.out]; exact hown1) (fun j hj => by
          have e : g = j := by simpa [Value.ownBlock] using hj
          subst e
          rcases hat with e | e
          · exact .inl e
          · exact .inr (by omega))
        have HE := Lib.hid hend
        clear hend hown1 hgrow hat hlt2 hown c0 c1 f0 f1
        go_wp2_with fail
        go_end0
        unfold wFlag
        rw [G1.out]
        exact ⟨rfl, _, HE.out.1, HA.out.trans HE.out.2⟩
  · have HR : Hid (roomB 1 ⟨bs, e⟩ = false) := Lib.hid (by simp [roomB, he])
    have HS : Hid (roomS 1 ⟨bs, e⟩ = ⟨bs, e⟩) := Lib.hid (by simp [roomS, he])
    have HF : Hid (wFlag b ⟨bs, e⟩ = ⟨bs, e⟩) := Lib.hid (by unfold wFlag; exact wField_dead _ _ _ _ he)
    clear he
    go_enter Try.func37, Try.ntmps37
    go_wp2_with fail
    refine (room_any base B v ⟨bs, e⟩ 1 _ (by omega) (by omega) H.out).mono ?_
    rw [HR.out, HS.out]
    rintro e' w1 ⟨rfl, hr, ha⟩
    have HR2 := Lib.hid hr
    have HA := Lib.hid ha
    clear hr ha
    go_wp2_with fail
    refine ret_none rfl rfl ?_
    rw [HF.out]
    exact ⟨rfl, v, HR2.out, HA.out⟩
end Go.Proofs.Ytelpdihaonoedaa
