/- Spread: the document's. -/
import Derived.Test.YtmkmefcafpgphaaSpr
import Derived.Test.YtmkmefcafpgphaaApa
namespace Go.Proofs.Ytmkmefcafpgphaa
set_option linter.unusedVariables false
open Go.RowKit


/-- The greatest difference of the pairs so far. -/
def Spp (l : List Sy) (t : Int) (i j : Nat) (v : Int) : Prop :=
  0 ≤ v ∧ (∀ a b, a < l.length → b < l.length → (a < i ∨ (a = i ∧ b < j)) → sA l t a - sA l t b ≤ v) ∧ (v = 0 ∨ ∃ a b, a < l.length ∧ b < l.length ∧ v = sA l t a - sA l t b)
theorem spp_next {l : List Sy} {t : Int} {i j : Nat} {v : Int} (h : Spp l t i j v) (hi : i < l.length) (hj : j < l.length) : Spp l t i (j + 1) (if v < sA l t i - sA l t j then sA l t i - sA l t j else v) := by
  obtain ⟨h1, h2, h3⟩ := h
  refine ⟨by split <;> omega, fun a b ha hb hab => ?_, ?_⟩
  · by_cases e : a = i ∧ b = j
    · obtain ⟨rfl, rfl⟩ := e
      split <;> omega
    · have := h2 a b ha hb (by omega)
      split <;> omega
  · split
    · exact .inr ⟨i, j, hi, hj, rfl⟩
    · exact h3
theorem spp_row {l : List Sy} {t : Int} {i : Nat} {v : Int} (h : Spp l t i l.length v) : Spp l t (i + 1) 0 v :=
  ⟨h.1, fun a b ha hb hab => h.2.1 a b ha hb (by omega), h.2.2⟩
theorem spp_end {l : List Sy} {t : Int} {v : Int} (h : Spp l t l.length 0 v) : Spr l t v := by
  obtain ⟨h1, h2, h3⟩ := h
  refine ⟨fun a b ha hb => h2 a b ha hb (by omega), ?_⟩
  rcases h3 with rfl | h3
  · by_cases h0 : l.length = 0
    · exact .inl ⟨h0, rfl⟩
    · exact .inr ⟨0, 0, by omega, by omega, by omega⟩
  · exact .inr h3
theorem sA_ok {l : List Sy} (hv : l.all syOk = true) {k : Nat} (hk : k < l.length) : okC (syAt l k).o (syAt l k).d = true := by
  have h : syOk (syAt l k) = true := by
    rw [syAt, List.getD_eq_getElem?_getD, List.getElem?_eq_getElem hk]
    exact List.all_eq_true.1 hv _ (List.getElem_mem hk)
  exact (okS_t h).1
set_option maxHeartbeats 4000000 in
theorem spreadR_any (ao : Option Addr) (len cap : Nat) (l : List Sy) (t : Int) (w : World) (h : SysIn w ao len l) (hl : len ≤ 40) :
    Calls Try.prog 29 #[.slice ao len cap, .int .i64 t] w (fun e w' => SprR w w' l t e) := by
  have H := Lib.hid h
  have hzl := h.1
  have HZL := Lib.hid hzl
  clear h hzl
  by_cases h32 : (32 : Int) < (len : Int)
  · have HR := Lib.hid (show spE l t = 1 by have := HZL.out; simp [spE, show ¬ l.length ≤ 32 by omega])
    go_enter Try.func29, Try.ntmps29
    go_wp2_with fail
    go_ret2
    exact ⟨Fr.refl no _, 0, by rw [HR.out]; rfl, fun hx => by rw [HR.out] at hx; exact absurd hx (by decide), fun _ => rfl⟩
  · have HI := Lib.hid (fun w => time_any t w)
    go_enter Try.func29, Try.ntmps29
    go_wp2_with fail
    go_loopw [6] (fun i wr => ∃ k : Nat, k ≤ len ∧ i = .int .i64 k ∧ Hid ((l.take k).all syOk = true) ∧ Hid (Fr no w wr)) (fun i _ => len - (intOf i).toNat)
    case atStart => exact ⟨0, by omega, rfl, Lib.hid (by simp), Lib.hid (Fr.refl no _)⟩
    case round =>
      obtain ⟨k, hk, rfl, I, F⟩ := hrel
      by_cases hlt : k < len
      · obtain ⟨b, off, rfl, -, hc⟩ := sys_at (H.out.kept F.out) (by omega)
        obtain ⟨c0, c1, c2, c3⟩ := hc k hlt
        have hkI : (k : Int) < (len : Int) := by omega
        have K := Lib.hid (fun w => ckSR_any (syAt l k).o (syAt l k).d (syAt l k).s (syAt l k).c w)
        have HA := Lib.hid (all_takeS l k (by have := HZL.out; omega))
        have HN := Lib.hid (fun hx => all_noS l k (by have := HZL.out; omega) hx)
        have he : syOk (syAt l k) = okS (syAt l k).o (syAt l k).d (syAt l k).s (syAt l k).c := rfl
        cases ho : okS (syAt l k).o (syAt l k).d (syAt l k).s (syAt l k).c
        · rw [ckS_1 ho] at K
          have hal := HN.out (he.trans ho)
          have HR := Lib.hid (show spE l t = 1 by simp [spE, hal])
          clear HA HN he ho hc hal
          generalize syAt l k = v at *
          go_wp2_with fail
          refine (K.out _).mono ?_
          rintro e w1 ⟨rfl, f1⟩
          have HF1 := Lib.hid (F.out.noTrans f1)
          clear f1
          go_wp2_with fail
          go_ret2
          exact ⟨HF1.out, 0, by rw [HR.out]; rfl, fun hx => by rw [HR.out] at hx; exact absurd hx (by decide), fun _ => rfl⟩
        · rw [ckS_0 ho] at K
          have HJ := Lib.hid (show (l.take (k + 1)).all syOk = true by rw [HA.out, I.out, he, ho]; rfl)
          clear HA HN he ho hc
          generalize syAt l k = v at *
          go_wp2_with fail
          refine (K.out _).mono ?_
          rintro e w1 ⟨rfl, f1⟩
          have HF1 := Lib.hid (F.out.noTrans f1)
          clear f1
          go_wp2_with fail
          go_roundw
          case rel => exact ⟨k + 1, by omega, by go_num, HJ, HF1⟩
          case measure => simp [intOf]; omega
      · have hkI : ¬ (k : Int) < (len : Int) := by omega
        have hv : l.all syOk = true := by rw [← I.out, List.take_of_length_le (by have := HZL.out; omega)]
        clear I
        cases ht : isT t
        · rw [ht] at HI
          have HR := Lib.hid (show spE l t = 2 by have := HZL.out; simp [spE, hv, ht, show l.length ≤ 32 by omega])
          clear hv ht
          go_wp2_with fail
          refine (HI.out _).mono ?_
          rintro e w2 ⟨rfl, rfl⟩
          go_wp2_with fail
          go_ret2
          exact ⟨F.out, 0, by rw [HR.out]; rfl, fun hx => by rw [HR.out] at hx; exact absurd hx (by decide), fun _ => rfl⟩
        · rw [ht] at HI
          have HR := Lib.hid (show spE l t = 0 by have := HZL.out; simp [spE, hv, ht, show l.length ≤ 32 by omega])
          have HB := Lib.hid (fun k hk => sA_bd (k := k) hv ht hk)
          have KA := Lib.hid (fun k hk w => show Calls Try.prog 47 #[.agg #[.int .i64 (syAt l k).o, .int .i64 (syAt l k).d], .int .i64 t] w (fun e w' => e = .returned (.int .i64 (sA l t k)) ∧ Fr no w w') from at_any (syAt l k).o (syAt l k).d t w (OkC.of (sA_ok (k := k) hv hk)) (isT_t.1 ht).1 (isT_t.1 ht).2)
          clear hv ht
          go_wp2_with fail
          refine (HI.out _).mono ?_
          rintro e w2 ⟨rfl, rfl⟩
          go_wp2_with fail
          go_loopw [7, 8, 9] (fun s7 i _ wr => ∃ (m : Nat) (v : Int), m ≤ len ∧ i = .int .i64 m ∧ s7 = .int .i64 v ∧ Hid (Spp l t m 0 v) ∧ Hid (Fr no w wr)) (fun _ i _ _ => len - (intOf i).toNat)
          case atStart => exact ⟨0, 0, by omega, rfl, rfl, Lib.hid ⟨by omega, fun a b _ _ h => by omega, .inl rfl⟩, F⟩
          case round =>
            obtain ⟨m, v, hm, rfl, rfl, hS, hF⟩ := hrel
            by_cases hlm : m < len
            · have hmI : (m : Int) < (len : Int) := by omega
              go_wp2_with fail
              go_loopw [7, 9] (fun s7 i wr => ∃ (j : Nat) (v : Int), j ≤ len ∧ i = .int .i64 j ∧ s7 = .int .i64 v ∧ Hid (Spp l t m j v) ∧ Hid (Fr no w wr)) (fun _ i _ => len - (intOf i).toNat)
              case atStart => exact ⟨0, v, by omega, rfl, rfl, hS, hF⟩
              case round =>
                clear hS hF
                obtain ⟨j, v, hj, rfl, rfl, hS, hF⟩ := hrel
                by_cases hlj : j < len
                · have hjI : (j : Int) < (len : Int) := by omega
                  obtain ⟨b, off, rfl, -, hc⟩ := sys_at (H.out.kept hF.out) (by omega)
                  obtain ⟨c0, c1, -, -⟩ := hc m hlm
                  obtain ⟨c2, c3, -, -⟩ := hc j hlj
                  have K1 := Lib.hid (KA.out m (by have := HZL.out; omega))
                  have K2 := Lib.hid (KA.out j (by have := HZL.out; omega))
                  have HSn := Lib.hid (spp_next hS.out (by have := HZL.out; omega) (by have := HZL.out; omega) (i := m) (j := j))
                  obtain ⟨b1, b2⟩ := HB.out m (by have := HZL.out; omega)
                  obtain ⟨b3, b4⟩ := HB.out j (by have := HZL.out; omega)
                  clear hc hS
                  generalize sA l t m = z1 at *
                  generalize sA l t j = z2 at *
                  generalize (syAt l m).o = o1 at *
                  generalize (syAt l m).d = d1 at *
                  generalize (syAt l j).o = o2 at *
                  generalize (syAt l j).d = d2 at *
                  have hw1 : IntKind.i64.wrap (z1 - z2) = z1 - z2 := IntWalk.i64_in _ (by omega)
                  have tA : True := trivial
                  have tB : True := trivial
                  go_wp2_with fail
                  go_region_held3 (fun w' => w'.cell? ⟨b, off + m * 4, none⟩ = some (.int .i64 o1) ∧ w'.cell? ⟨b, off + m * 4 + 1, none⟩ = some (.int .i64 d1) ∧ w'.cell? ⟨b, off + j * 4, none⟩ = some (.int .i64 o2) ∧ w'.cell? ⟨b, off + j * 4 + 1, none⟩ = some (.int .i64 d2)) (go_keep)
                    (first
                      | (go_at_call_of 47 d1; have _tk := tA; refine (K1.out _).mono ?_; rintro e w4 ⟨rfl, f4⟩; clear _tk tA; have j0 := f4.keepc c0; have j1 := f4.keepc c1; have j2 := f4.keepc c2; have j3 := f4.keepc c3)
                      | (go_at_call_of 47 d2; have _tk := tB; refine (K2.out _).mono ?_; rintro e w6 ⟨rfl, f6⟩; clear _tk tB; have i0 := f6.keepc j0; have i1 := f6.keepc j1; have i2 := f6.keepc j2; have i3 := f6.keepc j3))
                  have HF6 := Lib.hid (((hF.out.drewN _).noTrans f4).noTrans f6)
                  clear f4 f6
                  go_wp2_with fail
                  exact ⟨⟨j + 1, _, by omega, by go_num, rfl, HSn, HF6⟩, by simp [intOf]; omega⟩
                · have hjI : ¬ (j : Int) < (len : Int) := by omega
                  obtain rfl : j = len := by omega
                  have HS2 := Lib.hid (show Spp l t (m + 1) 0 v from spp_row (by rw [HZL.out]; exact hS.out))
                  go_wp2_with fail
                  exact ⟨⟨m + 1, v, by omega, by go_num, rfl, HS2, hF⟩, by simp [intOf]; omega⟩
            · have hmI : ¬ (m : Int) < (len : Int) := by omega
              obtain rfl : m = len := by omega
              have HSP := Lib.hid (show Spr l t v from spp_end (by rw [HZL.out]; exact hS.out))
              go_wp2_with fail
              go_ret2
              exact ⟨hF.out, v, by rw [HR.out]; rfl, fun _ => HSP.out, fun hx => absurd HR.out hx⟩

end Go.Proofs.Ytmkmefcafpgphaa
