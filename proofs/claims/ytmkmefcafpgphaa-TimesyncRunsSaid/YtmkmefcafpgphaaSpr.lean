/- Spread: the program's. -/
import Derived.Test.YtmkmefcafpgphaaLsy
import Derived.Test.YtmkmefcafpgphaaSlt
namespace Go.Proofs.Ytmkmefcafpgphaa
set_option linter.unusedVariables false
open Go.RowKit


/-- What the k-th clock shows at t. -/
def sA (l : List Sy) (t : Int) (k : Nat) : Int := sh (syAt l k).o (syAt l k).d t
/-- The greatest difference. -/
def Spr (l : List Sy) (t v : Int) : Prop :=
  (∀ i j, i < l.length → j < l.length → sA l t i - sA l t j ≤ v) ∧ ((l.length = 0 ∧ v = 0) ∨ ∃ i j, i < l.length ∧ j < l.length ∧ v = sA l t i - sA l t j)
theorem Spr.eq {l : List Sy} {t v u : Int} (h : Spr l t v) (g : Spr l t u) : v = u := by
  obtain ⟨h1, h2⟩ := h
  obtain ⟨g1, g2⟩ := g
  rcases h2 with ⟨a, rfl⟩ | ⟨i, j, hi, hj, rfl⟩
  · rcases g2 with ⟨_, rfl⟩ | ⟨i, j, hi, hj, rfl⟩
    · rfl
    · omega
  · rcases g2 with ⟨_, rfl⟩ | ⟨i', j', hi', hj', rfl⟩
    · omega
    · have := h1 i' j' hi' hj'
      have := g1 i j hi hj
      omega
def spE (l : List Sy) (t : Int) : Int := if decide (l.length ≤ 32) && l.all syOk then (if isT t then 0 else 2) else 1
def SprR (w w' : World) (l : List Sy) (t : Int) (e : Ending) : Prop :=
  Fr no w w' ∧ ∃ v, e = .returned (.tuple #[.int .i64 v, .int .i64 (spE l t)]) ∧ (spE l t = 0 → Spr l t v) ∧ (spE l t ≠ 0 → v = 0)
/-- The least and the greatest of the first k. -/
def Mm (l : List Sy) (t : Int) (k : Nat) (mn mx : Int) : Prop :=
  (∃ i, i < l.length ∧ mn = sA l t i) ∧ (∃ i, i < l.length ∧ mx = sA l t i) ∧ ∀ i, i < k → mn ≤ sA l t i ∧ sA l t i ≤ mx
theorem mm_next {l : List Sy} {t : Int} {k : Nat} {mn mx : Int} (h : Mm l t k mn mx) (hk : k < l.length) : Mm l t (k + 1) (min mn (sA l t k)) (max mx (sA l t k)) := by
  obtain ⟨⟨i, hi, rfl⟩, ⟨j, hj, rfl⟩, h3⟩ := h
  refine ⟨?_, ?_, fun m hm => ?_⟩
  · by_cases h : sA l t i ≤ sA l t k
    · exact ⟨i, hi, by omega⟩
    · exact ⟨k, hk, by omega⟩
  · by_cases h : sA l t j ≤ sA l t k
    · exact ⟨k, hk, by omega⟩
    · exact ⟨j, hj, by omega⟩
  · by_cases e : m = k
    · subst e; omega
    · have := h3 m (by omega); omega
theorem mm_spr {l : List Sy} {t mn mx : Int} (h : Mm l t l.length mn mx) : Spr l t (mx - mn) := by
  obtain ⟨⟨i, hi, rfl⟩, ⟨j, hj, rfl⟩, h3⟩ := h
  refine ⟨fun a b ha hb => ?_, .inr ⟨j, i, hj, hi, rfl⟩⟩
  have := h3 a ha
  have := h3 b hb
  omega
theorem sA_bd {l : List Sy} {t : Int} (hv : l.all syOk = true) (ht : isT t = true) {k : Nat} (hk : k < l.length) : -1099621578939 ≤ sA l t k ∧ sA l t k ≤ 2199133206714 := by
  have h : syOk (syAt l k) = true := by
    rw [syAt, List.getD_eq_getElem?_getD, List.getElem?_eq_getElem hk]
    exact List.all_eq_true.1 hv _ (List.getElem_mem hk)
  obtain ⟨t0, t1⟩ := isT_t.1 ht
  exact fl_bd2 (OkC.of (okS_t h).1) t0 t1
theorem sA_show {l : List Sy} {t : Int} (hv : l.all syOk = true) (ht : isT t = true) {k : Nat} (hk : k < l.length) : shV (syAt l k).o (syAt l k).d t = sA l t k ∧ shE (syAt l k).o (syAt l k).d t = 0 := by
  have h : syOk (syAt l k) = true := by
    rw [syAt, List.getD_eq_getElem?_getD, List.getElem?_eq_getElem hk]
    exact List.all_eq_true.1 hv _ (List.getElem_mem hk)
  have ho := (okS_t h).1
  simp [shV, shE, ho, ht, sA]
theorem mm_nexts {l : List Sy} {t : Int} {k : Nat} {mn mx : Int} (h : Mm l t k mn mx) (hk : k < l.length) : Mm l t (k + 1) (if sA l t k < mn then sA l t k else mn) (if mx < sA l t k then sA l t k else mx) := by
  have e1 : (if sA l t k < mn then sA l t k else mn) = min mn (sA l t k) := by split <;> omega
  have e2 : (if mx < sA l t k then sA l t k else mx) = max mx (sA l t k) := by split <;> omega
  rw [e1, e2]
  exact mm_next h hk
set_option maxHeartbeats 4000000 in
theorem spread_any (ao : Option Addr) (len cap : Nat) (l : List Sy) (t : Int) (w : World) (h : SysIn w ao len l) (hl : len ≤ 40) :
    Calls Try.prog 28 #[.slice ao len cap, .int .i64 t] w (fun e w' => SprR w w' l t e) := by
  have KV := Lib.hid (areValid_any ao len cap l w h hl)
  have KI := Lib.hid (fun w => twithin_any t 0 1099511627776 w)
  have H := Lib.hid h
  have hzl := h.1
  clear h
  by_cases h32 : (32 : Int) < (len : Int)
  · have HR := Lib.hid (show spE l t = 1 by simp [spE, show ¬ l.length ≤ 32 by omega])
    clear KV KI H hzl
    go_enter Try.func28, Try.ntmps28
    go_wp2_with fail
    go_ret2
    exact ⟨Fr.refl no _, 0, by rw [HR.out]; rfl, fun hx => by rw [HR.out] at hx; exact absurd hx (by decide), fun _ => rfl⟩
  · cases hv : l.all syOk
    · rw [hv] at KV
      have HR := Lib.hid (show spE l t = 1 by simp [spE, hv])
      clear KI H hzl hv
      go_enter Try.func28, Try.ntmps28
      go_wp2_with fail
      refine KV.out.mono ?_
      rintro e w1 ⟨rfl, f1⟩
      have HF1 := Lib.hid f1
      clear f1
      go_wp2_with fail
      go_ret2
      exact ⟨HF1.out, 0, by rw [HR.out]; rfl, fun hx => by rw [HR.out] at hx; exact absurd hx (by decide), fun _ => rfl⟩
    · rw [hv] at KV
      have hi : inR t 0 1099511627776 = isT t := rfl
      cases ht : isT t
      · rw [hi, ht] at KI
        have HR := Lib.hid (show spE l t = 2 by simp [spE, hv, ht, show l.length ≤ 32 by omega])
        clear H hzl hv ht hi
        go_enter Try.func28, Try.ntmps28
        go_wp2_with fail
        refine KV.out.mono ?_
        rintro e w1 ⟨rfl, f1⟩
        have HF1 := Lib.hid f1
        clear f1
        go_wp2_with fail
        refine (KI.out _).mono ?_
        rintro e w2 ⟨rfl, rfl⟩
        go_wp2_with fail
        go_ret2
        exact ⟨HF1.out, 0, by rw [HR.out]; rfl, fun hx => by rw [HR.out] at hx; exact absurd hx (by decide), fun _ => rfl⟩
      · rw [hi, ht] at KI
        have HR := Lib.hid (show spE l t = 0 by simp [spE, hv, ht, show l.length ≤ 32 by omega])
        have HB := Lib.hid (fun k hk => sA_bd (k := k) hv ht hk)
        have HS := Lib.hid (fun k hk => sA_show (k := k) hv ht hk)
        have HZL := Lib.hid hzl
        clear hv ht hi hzl
        by_cases h0 : len = 0
        · subst h0
          go_enter Try.func28, Try.ntmps28
          go_wp2_with fail
          refine KV.out.mono ?_
          rintro e w1 ⟨rfl, f1⟩
          have HF1 := Lib.hid f1
          clear f1
          go_wp2_with fail
          refine (KI.out _).mono ?_
          rintro e w2 ⟨rfl, rfl⟩
          go_wp2_with fail
          go_ret2
          exact ⟨HF1.out, 0, by rw [HR.out]; rfl, fun _ => ⟨fun i j hi => by have := HZL.out; omega, .inl ⟨HZL.out, rfl⟩⟩, fun _ => rfl⟩
        · obtain ⟨b, off, rfl, -, hc⟩ := sys_at H.out (by omega)
          have h1 : ((len : Int) == 0) = false := by simp; omega
          have h2 : (0 : Int) < (len : Int) := by omega
          obtain ⟨c0, c1, c2, c3⟩ := hc 0 (by omega)
          rw [show off + 0 * 4 = off by omega] at c0 c1 c2 c3
          have K0 := Lib.hid (fun w => show_any (syAt l 0).o (syAt l 0).d t w)
          have HS0 := HS.out 0 (by have := HZL.out; omega)
          rw [HS0.1, HS0.2] at K0
          have HM := Lib.hid (show Mm l t 0 (sA l t 0) (sA l t 0) from ⟨⟨0, by have := HZL.out; omega, rfl⟩, ⟨0, by have := HZL.out; omega, rfl⟩, fun i hi => by omega⟩)
          generalize sA l t 0 = z0 at *
          generalize syAt l 0 = v0 at *
          clear hc HS0
          go_enter Try.func28, Try.ntmps28
          go_wp2_with fail
          refine KV.out.mono ?_
          rintro e w1 ⟨rfl, f1⟩
          have HF1 := Lib.hid f1
          have d0 := f1.keepc c0
          have d1 := f1.keepc c1
          clear f1 c0 c1 c2 c3
          go_wp2_with fail
          refine (KI.out _).mono ?_
          rintro e w2 ⟨rfl, rfl⟩
          go_wp2_with fail
          refine (K0.out _).mono ?_
          rintro e w3 ⟨rfl, f3⟩
          have HF3 := Lib.hid (HF1.out.noTrans f3)
          clear f3 d0 d1
          go_wp2_with fail
          go_loopw [6, 8, 10, 11, 12, 39] (fun s6 s8 _ _ _ i wr => ∃ (k : Nat) (mn mx : Int), k ≤ len ∧ i = .int .i64 k ∧ s6 = .int .i64 mn ∧ s8 = .int .i64 mx ∧ Hid (Mm l t k mn mx) ∧ Hid (Fr no w wr)) (fun _ _ _ _ _ i _ => len - (intOf i).toNat)
          case atStart => exact ⟨0, z0, z0, by omega, rfl, rfl, rfl, HM, HF3⟩
          case round =>
            obtain ⟨k, mn, mx, hk, rfl, rfl, rfl, M, F⟩ := hrel
            by_cases hlt : k < len
            · obtain ⟨b', off', e', -, hc⟩ := sys_at (H.out.kept F.out) (by omega)
              cases e'
              obtain ⟨c0, c1, c2, c3⟩ := hc k hlt
              have hkI : (k : Int) < (len : Int) := by omega
              have K := Lib.hid (fun w => show_any (syAt l k).o (syAt l k).d t w)
              have HSk := HS.out k (by have := HZL.out; omega)
              rw [HSk.1, HSk.2] at K
              have HMk := Lib.hid (mm_nexts M.out (by have := HZL.out; omega))
              generalize sA l t k = z at *
              generalize syAt l k = v at *
              clear hc HSk
              go_wp2_with fail
              refine (K.out _).mono ?_
              rintro e w5 ⟨rfl, f5⟩
              have HF5 := Lib.hid ((F.out.alloc _).noTrans f5)
              clear f5
              go_wp2_with fail
              go_roundw
              case rel => exact ⟨k + 1, _, _, by omega, by go_num, rfl, rfl, HMk, HF5⟩
              case measure => simp [intOf]; omega
            · have hkI : ¬ (k : Int) < (len : Int) := by omega
              obtain rfl : k = len := by omega
              have HSP := Lib.hid (show Spr l t (mx - mn) from mm_spr (by rw [HZL.out]; exact M.out))
              obtain ⟨⟨i, hi, hmn⟩, ⟨j, hj, hmx⟩, -⟩ := M.out
              obtain ⟨b1, b2⟩ := HB.out i hi
              obtain ⟨b3, b4⟩ := HB.out j hj
              rw [← hmn] at b1 b2
              rw [← hmx] at b3 b4
              clear hmn hmx hi hj
              go_wp2_with fail
              go_ret2
              exact ⟨F.out, mx - mn, by rw [HR.out]; rfl, fun _ => HSP.out, fun hx => absurd HR.out hx⟩

end Go.Proofs.Ytmkmefcafpgphaa
