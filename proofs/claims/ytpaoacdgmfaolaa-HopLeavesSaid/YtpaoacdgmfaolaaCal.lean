/- Lists of lists. -/
import Derived.Test.YtpaoacdgmfaolaaNxt
import Derived.Test.YtpaoacdgmfaolaaCha
import Derived.BigQuiet
namespace Go.Proofs.Ytpaoacdgmfaolaa
set_option linter.unusedVariables false
open Go.RowKit


def hvAt (xs : List Hv) (i : Nat) : Hv := xs.getD i ⟨0, 0, 0, []⟩
/-- A list of hopping lists in memory. -/
def HvsIn (w : World) (ao : Option Addr) (len : Nat) (xs : List Hv) : Prop :=
  xs.length = len ∧ ∀ i, i < len → ∃ b off ca ck, ao = some ⟨b, off, none⟩ ∧ IntsIn w ca (hvAt xs i).chs.length (hvAt xs i).chs ∧ (hvAt xs i).chs.length ≤ ck ∧ w.cell? ⟨b, off + i * 4, none⟩ = some (.int .i64 (hvAt xs i).v) ∧ w.cell? ⟨b, off + i * 4 + 1, none⟩ = some (.int .i64 (hvAt xs i).f) ∧
    w.cell? ⟨b, off + i * 4 + 2, none⟩ = some (.int .i64 (hvAt xs i).u) ∧ w.cell? ⟨b, off + i * 4 + 3, none⟩ = some (.slice ca (hvAt xs i).chs.length ck)
theorem HvsIn.kept {w w' : World} {ao : Option Addr} {len : Nat} {xs : List Hv} (h : HvsIn w ao len xs) (hf : Fr no w w') : HvsIn w' ao len xs := ⟨h.1, fun i hi => by
  obtain ⟨b, off, ca, ck, ha, hI, hk, h0, h1, h2, h3⟩ := h.2 i hi
  exact ⟨b, off, ca, ck, ha, hI.kept hf, hk, hf.keepc h0, hf.keepc h1, hf.keepc h2, hf.keepc h3⟩⟩
def hvB (x : Hv) : Bool := hlB x.v x.f x.u x.chs
def hvF (a b : Hv) : Int := foE a.v a.f a.u b.v b.f b.u
/-- The error of the first k lists. -/
def caK (xs : List Hv) : Nat → Int
  | 0 => 0
  | k + 1 => if caK xs k ≠ 0 then caK xs k else if hvB (hvAt xs k) = false then 1 else if k = 0 then 0 else hvF (hvAt xs (k - 1)) (hvAt xs k)
def caE (xs : List Hv) : Int := if inR xs.length 1 1024 then caK xs xs.length else 1
theorem caK_stop (xs : List Hv) (k n : Nat) (hk : k ≤ n) (h : caK xs k ≠ 0) : caK xs n = caK xs k := by
  induction n with
  | zero => obtain rfl : k = 0 := by omega
            rfl
  | succ n ih =>
    by_cases e : k = n + 1
    · rw [e]
    · have := ih (by omega)
      rw [caK, this, if_pos h]
theorem caK_ok (xs : List Hv) (k : Nat) (h : caK xs k = 0) : (∀ i, i < k → hvB (hvAt xs i) = true) ∧ ∀ i, i + 1 < k → hvF (hvAt xs i) (hvAt xs (i + 1)) = 0 := by
  induction k with
  | zero => exact ⟨fun i hi => by omega, fun i hi => by omega⟩
  | succ k ih =>
    rw [caK] at h
    by_cases h0 : caK xs k ≠ 0
    · rw [if_pos h0] at h; exact absurd h h0
    · rw [if_neg h0] at h
      obtain ⟨i1, i2⟩ := ih (by simpa using h0)
      cases hb : hvB (hvAt xs k)
      · rw [hb, if_pos rfl] at h; exact absurd h (by decide)
      · rw [hb, if_neg (by simp)] at h
        refine ⟨fun i hi => ?_, fun i hi => ?_⟩
        · by_cases e : i = k
          · rw [e]; exact hb
          · exact i1 i (by omega)
        · by_cases e : i + 1 = k
          · rw [if_neg (by omega), ← e] at h
            simpa using h
          · exact i2 i (by omega)
theorem caK_bad (xs : List Hv) (k : Nat) (h0 : caK xs k = 0) (h : hvB (hvAt xs k) = false) : caK xs (k + 1) = 1 := by
  rw [caK, if_neg (by simp [h0]), if_pos h]
theorem caK_one (xs : List Hv) (h : hvB (hvAt xs 0) = true) : caK xs 1 = 0 := by
  rw [caK, if_neg (by simp [caK]), if_neg (by simp [h]), if_pos rfl]
theorem caK_next (xs : List Hv) (m : Nat) (h0 : caK xs (m + 1) = 0) (h : hvB (hvAt xs (m + 1)) = true) : caK xs (m + 2) = hvF (hvAt xs m) (hvAt xs (m + 1)) := by
  rw [caK, if_neg (by simp [h0]), if_neg (by simp [h]), if_neg (by omega)]
  simp
def FewC (len : Nat) (xs : List Hv) : Prop := ∀ i, i < len → (hvAt xs i).chs.length ≤ 100
set_option maxRecDepth 20000 in
set_option maxHeartbeats 16000000 in
theorem checkAll_any (ao : Option Addr) (len cap : Nat) (xs : List Hv) (w : World) (h : HvsIn w ao len xs) (hl : len ≤ 100) (hc : FewC len xs) :
    Calls Try.prog 22 #[.slice ao len cap] w fun e w' => e = .returned (.int .i64 (caE xs)) ∧ Fr no w w' := by
  have HX := Lib.hid h
  have HXL := Lib.hid h.1
  have HL := Lib.hid hl
  have HC := Lib.hid hc
  have KW := Lib.hid (fun w => within_any (len : Int) 1 1024 w)
  have HE := Lib.hid (show caE xs = if inR (len : Int) 1 1024 then caK xs xs.length else 1 by unfold caE; rw [h.1])
  clear h hl hc
  cases hin : inR (len : Int) 1 1024
  · rw [hin] at KW HE
    replace HE := Lib.hid (show caE xs = 1 from HE.out)
    clear hin
    go_enter Try.func22, Try.ntmps22
    go_wp2_with fail
    refine (KW.out _).mono ?_
    rintro e w1 ⟨rfl, rfl⟩
    go_wp2_with fail
    go_ret
    rw [HE.out]
    exact ⟨rfl, Fr.refl no _⟩
  · rw [hin] at KW HE
    replace HE := Lib.hid (show caE xs = caK xs xs.length from HE.out)
    clear hin
    go_enter Try.func22, Try.ntmps22
    go_wp2_with fail
    refine (KW.out _).mono ?_
    rintro e w1 ⟨rfl, rfl⟩
    go_wp2_with fail
    go_loopw [3, 4, 5, 12] (fun _ _ _ i wr => ∃ k : Nat, k ≤ len ∧ i = .int .i64 k ∧ Hid (caK xs k = 0) ∧ Hid (Fr no w1 wr)) (fun _ _ _ i _ => len - (intOf i).toNat)
    case atStart => exact ⟨0, Nat.zero_le _, rfl, Lib.hid rfl, Lib.hid (Fr.refl _ _)⟩
    case round =>
      obtain ⟨k, hk, rfl, I, F⟩ := hrel
      by_cases hlt : k < len
      · have hkI : (k : Int) ≤ 99 := by have := HL.out; omega
        obtain ⟨b, off, ca, ck, rfl, hI, -, e0, e1, e2, e3⟩ := HX.out.2 k hlt
        have HI1 := Lib.hid (hI.kept F.out)
        have HF1 := Lib.hid (HC.out k hlt)
        replace e0 := F.out.keepc e0
        replace e1 := F.out.keepc e1
        replace e2 := F.out.keepc e2
        replace e3 := F.out.keepc e3
        have HBAD := Lib.hid (caK_bad xs k I.out)
        have HSTP := Lib.hid (fun h => (caK_stop xs (k + 1) xs.length (by have := HXL.out; omega) h))
        have HHE := Lib.hid (show hlE (hvAt xs k).v (hvAt xs k).f (hvAt xs k).u (hvAt xs k).chs = if hvB (hvAt xs k) then 0 else 1 from rfl)
        have KC := Lib.hid (fun w h => check_any (hvAt xs k).v (hvAt xs k).f (hvAt xs k).u ca ck (hvAt xs k).chs w h HF1.out)
        clear hI
        rcases k with _ | m
        · have HONE := Lib.hid (caK_one xs)
          generalize hvB (hvAt xs 0) = B at *
          generalize hlE (hvAt xs 0).v (hvAt xs 0).f (hvAt xs 0).u (hvAt xs 0).chs = E at *
          generalize (hvAt xs 0).chs.length = n at *
          generalize (hvAt xs 0).v = v0 at *
          generalize (hvAt xs 0).f = f0 at *
          generalize (hvAt xs 0).u = u0 at *
          rw [Nat.zero_mul, Nat.add_zero] at e0 e1 e2 e3
          cases B
          · have hE : E = 1 := HHE.out
            subst hE
            have HV := Lib.hid (show caE xs = 1 by
              have h1 := HBAD.out rfl
              rw [HE.out, HSTP.out (by rw [h1]; decide), h1])
            go_wp2_with fail
            refine (KC.out _ HI1.out).mono ?_
            rintro e w2 ⟨rfl, f2⟩
            have F2 := Lib.hid (F.out.noTrans f2)
            clear f2
            go_wp2_with fail
            go_ret
            rw [HV.out]
            exact ⟨rfl, F2.out⟩
          · have hE : E = 0 := HHE.out
            subst hE
            have HJ := Lib.hid (HONE.out rfl)
            go_wp2_with fail
            refine (KC.out _ HI1.out).mono ?_
            rintro e w2 ⟨rfl, f2⟩
            have F2 := Lib.hid (F.out.noTrans f2)
            clear f2
            go_wp2_with fail
            go_roundw
            case rel => exact ⟨1, by omega, by go_num, HJ, F2⟩
            case measure => simp [intOf]; omega
        · have HOK := Lib.hid (caK_ok xs (m + 1) I.out)
          have HNX := Lib.hid (caK_next xs m I.out)
          obtain ⟨b', off', cb, cbk, hbb, hI', -, g0, g1, g2, g3⟩ := HX.out.2 m (by omega)
          cases hbb
          replace g0 := F.out.keepc g0
          replace g1 := F.out.keepc g1
          replace g2 := F.out.keepc g2
          replace g3 := F.out.keepc g3
          have hvr := (hlB_t (HOK.out.1 m (by omega)))
          have KN := Lib.hid (fun w => checkNext_any (hvAt xs m).v (hvAt xs m).f (hvAt xs m).u cb (hvAt xs m).chs.length cbk (hvAt xs (m + 1)).v (hvAt xs (m + 1)).f (hvAt xs (m + 1)).u ca (hvAt xs (m + 1)).chs.length ck w hvr.1 hvr.2.1)
          rw [show foE (hvAt xs m).v (hvAt xs m).f (hvAt xs m).u (hvAt xs (m + 1)).v (hvAt xs (m + 1)).f (hvAt xs (m + 1)).u = hvF (hvAt xs m) (hvAt xs (m + 1)) from rfl] at KN
          clear hI' hvr HOK
          generalize hvF (hvAt xs m) (hvAt xs (m + 1)) = N at *
          generalize hvB (hvAt xs (m + 1)) = B at *
          generalize hlE (hvAt xs (m + 1)).v (hvAt xs (m + 1)).f (hvAt xs (m + 1)).u (hvAt xs (m + 1)).chs = E at *
          generalize (hvAt xs (m + 1)).chs.length = n at *
          generalize (hvAt xs m).chs.length = n' at *
          generalize (hvAt xs (m + 1)).v = v0 at *
          generalize (hvAt xs (m + 1)).f = f0 at *
          generalize (hvAt xs (m + 1)).u = u0 at *
          generalize (hvAt xs m).v = v1 at *
          generalize (hvAt xs m).f = f1 at *
          generalize (hvAt xs m).u = u1 at *
          obtain ⟨K, hK⟩ : ∃ K, K = m + 1 := ⟨_, rfl⟩
          rw [show caK xs (m + 2) = caK xs (K + 1) by rw [hK]] at HNX
          rw [← hK] at HBAD HSTP e0 e1 e2 e3 hlt hk hkI ⊢
          have hK0 : ¬ ((K : Int) = 0) := by omega
          have hK1 : ((K : Int) == 0) = false := by simp; omega
          have hK2 : decide ((K : Int) = 0) = false := by simp; omega
          have hKn : (K == 0) = false := by simp; omega
          have hwm : IntKind.i64.wrap ((K : Int) - 1) = (m : Int) := (IntWalk.i64_in _ (by omega)).trans (by omega)
          have hml : m < len := by omega
          have hmI : (m : Int) < (len : Int) := by omega
          have hKI : (K : Int) < (len : Int) := by omega
          have HKE := Lib.hid hK
          clear hK
          cases B
          · have hE : E = 1 := HHE.out
            subst hE
            have HV := Lib.hid (show caE xs = 1 by
              have h1 := HBAD.out rfl
              rw [HE.out, HSTP.out (by rw [h1]; decide), h1])
            go_wp2_with fail
            refine (KC.out _ HI1.out).mono ?_
            rintro e w2 ⟨rfl, f2⟩
            have F2 := Lib.hid (F.out.noTrans f2)
            clear f2
            go_wp2_with fail
            go_ret
            rw [HV.out]
            exact ⟨rfl, F2.out⟩
          · have hE : E = 0 := HHE.out
            subst hE
            replace HNX := Lib.hid (HNX.out rfl)
            go_wp2_with fail
            refine (KC.out _ HI1.out).mono ?_
            rintro e w2 ⟨rfl, f2⟩
            have F2 := Lib.hid (F.out.noTrans f2)
            have p0 : ∀ p : Past w2, p.u.cell? ⟨b, off + K * 4, none⟩ = some (.int .i64 v0) := fun p => p.h.keepc (f2.keepc e0)
            have p1 : ∀ p : Past w2, p.u.cell? ⟨b, off + K * 4 + 1, none⟩ = some (.int .i64 f0) := fun p => p.h.keepc (f2.keepc e1)
            have p2 : ∀ p : Past w2, p.u.cell? ⟨b, off + K * 4 + 2, none⟩ = some (.int .i64 u0) := fun p => p.h.keepc (f2.keepc e2)
            have p3 : ∀ p : Past w2, p.u.cell? ⟨b, off + K * 4 + 3, none⟩ = some (.slice ca n ck) := fun p => p.h.keepc (f2.keepc e3)
            have q0 : ∀ p : Past w2, p.u.cell? ⟨b, off + m * 4, none⟩ = some (.int .i64 v1) := fun p => p.h.keepc (f2.keepc g0)
            have q1 : ∀ p : Past w2, p.u.cell? ⟨b, off + m * 4 + 1, none⟩ = some (.int .i64 f1) := fun p => p.h.keepc (f2.keepc g1)
            have q2 : ∀ p : Past w2, p.u.cell? ⟨b, off + m * 4 + 2, none⟩ = some (.int .i64 u1) := fun p => p.h.keepc (f2.keepc g2)
            have q3 : ∀ p : Past w2, p.u.cell? ⟨b, off + m * 4 + 3, none⟩ = some (.slice cb n' cbk) := fun p => p.h.keepc (f2.keepc g3)
            clear f2 e0 e1 e2 e3 g0 g1 g2 g3
            go_wp2_with fail
            refine wp_region_past (by kernel_rfl) (by kernel_rfl) ?_
            repeat (go_big_quiet_step (first | rfl | (go_at_call 44; refine past_of (KN.out _))))
            refine wpQuiet_nil ?_
            intro w3 hp
            have F3 := Lib.hid (F2.out.noTrans (past_out hp))
            clear hp p0 p1 p2 p3 q0 q1 q2 q3
            by_cases hN : N = 0
            · have HJ := Lib.hid (show caK xs (K + 1) = 0 by rw [HNX.out, hN])
              subst hN
              go_wp2_with fail
              go_roundw
              case rel => exact ⟨K + 1, by omega, by go_num, HJ, F3⟩
              case measure => simp [intOf]; omega
            · have HV := Lib.hid (show caE xs = N by rw [HE.out, HSTP.out (by rw [HNX.out]; exact hN), HNX.out])
              have hE1 : (N == 0) = false := by simpa using hN
              have hE2 : decide (N = 0) = false := by simpa using hN
              go_wp2_with fail
              go_ret
              rw [HV.out]
              exact ⟨rfl, F3.out⟩
      · have HV := Lib.hid (show caE xs = 0 by rw [HE.out, show xs.length = k by have := HXL.out; omega]; exact I.out)
        go_wp2_with fail
        go_ret
        rw [HV.out]
        exact ⟨rfl, F.out⟩

end Go.Proofs.Ytpaoacdgmfaolaa
