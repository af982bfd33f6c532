/- The document: CheckAll. -/
import Derived.Test.YtpaoacdgmfaolaaCal
import Derived.Test.YtpaoacdgmfaolaaChT
import Derived.BigQuiet
namespace Go.Proofs.Ytpaoacdgmfaolaa
set_option linter.unusedVariables false
open Go.RowKit


set_option maxRecDepth 20000 in
set_option maxHeartbeats 16000000 in
theorem checkAllR_any (ao : Option Addr) (len cap : Nat) (xs : List Hv) (w : World) (h : HvsIn w ao len xs) (hl : len ≤ 100) (hc : FewC len xs) :
    Calls Try.prog 23 #[.slice ao len cap] w fun e w' => e = .returned (.int .i64 (caE xs)) ∧ Fr no w w' := by
  have HX := Lib.hid h
  have HXL := Lib.hid h.1
  have HL := Lib.hid hl
  have HC := Lib.hid hc
  have HE := Lib.hid (show caE xs = if inR (len : Int) 1 1024 then caK xs xs.length else 1 by unfold caE; rw [h.1])
  clear h hl hc
  by_cases h1 : 1 ≤ len
  · have h1I : ¬ ((len : Int) < 1) := by omega
    have h1D : decide ((len : Int) < 1) = false := decide_eq_false h1I
    have h2I : ¬ ((1024 : Int) < (len : Int)) := by have := HL.out; omega
    have h2D : decide ((1024 : Int) < (len : Int)) = false := decide_eq_false h2I
    replace HE := Lib.hid (show caE xs = caK xs xs.length by rw [HE.out, inR_t.2 ⟨by omega, by have := HL.out; omega⟩]; rfl)
    go_enter Try.func23, Try.ntmps23
    go_wp2_with fail
    clear h1D h2D
    go_loopw [3] (fun i wr => ∃ k : Nat, k ≤ len ∧ i = .int .i64 k ∧ Hid (caK xs k = 0) ∧ Hid (Fr no w wr)) (fun i _ => len - (intOf i).toNat)
    case atStart => exact ⟨0, Nat.zero_le _, rfl, Lib.hid rfl, Lib.hid (Fr.refl _ _)⟩
    case round =>
      obtain ⟨k, hk, rfl, I, F⟩ := hrel
      by_cases hlt : k < len
      · have hkI : (k : Int) ≤ 99 := by have := HL.out; omega
        obtain ⟨b, off, ca, ck, rfl, hI, hck, e0, e1, e2, e3⟩ := HX.out.2 k hlt
        have HI1 := Lib.hid (hI.kept F.out)
        have HF1 := Lib.hid (HC.out k hlt)
        have HCK := Lib.hid hck
        replace e0 := F.out.keepc e0
        replace e1 := F.out.keepc e1
        replace e2 := F.out.keepc e2
        replace e3 := F.out.keepc e3
        have HBAD := Lib.hid (caK_bad xs k I.out)
        have HSTP := Lib.hid (fun h => (caK_stop xs (k + 1) xs.length (by have := HXL.out; omega) h))
        have HHE := Lib.hid (show hlE (hvAt xs k).v (hvAt xs k).f (hvAt xs k).u (hvAt xs k).chs = if hvB (hvAt xs k) then 0 else 1 from rfl)
        have KC := Lib.hid (fun w h => checkR_any (hvAt xs k).v (hvAt xs k).f (hvAt xs k).u ca ck (hvAt xs k).chs w h HF1.out HCK.out)
        clear hI hck
        rcases k with _ | m
        · have HONE := Lib.hid (caK_one xs)
          generalize hvB (hvAt xs 0) = B at *
          generalize hlE (hvAt xs 0).v (hvAt xs 0).f (hvAt xs 0).u (hvAt xs 0).chs = E at *
          generalize (hvAt xs 0).chs.length = n at *
          generalize (hvAt xs 0).v = v0 at *
          generalize (hvAt xs 0).f = f0 at *
          generalize (hvAt xs 0).u = u0 at *
          rw [Nat.zero_mul, Nat.add_zero] at e0 e1 e2 e3
          cases B
          · have hE : E = 1 := HHE.out
            subst hE
            have HV := Lib.hid (show caE xs = 1 by
              have h1 := HBAD.out rfl
              rw [HE.out, HSTP.out (by rw [h1]; decide), h1])
            go_wp2_with fail
            refine (KC.out _ HI1.out).mono ?_
            rintro e w2 ⟨rfl, f2⟩
            have F2 := Lib.hid (F.out.noTrans f2)
            clear f2
            go_wp2_with fail
            go_ret
            rw [HV.out]
            exact ⟨rfl, F2.out⟩
          · have hE : E = 0 := HHE.out
            subst hE
            have HJ := Lib.hid (HONE.out rfl)
            go_wp2_with fail
            refine (KC.out _ HI1.out).mono ?_
            rintro e w2 ⟨rfl, f2⟩
            have F2 := Lib.hid (F.out.noTrans f2)
            clear f2 e0 e1 e2 e3
            go_wp2_with fail
            go_quiet (fail)
            go_wp2_with fail
            go_quiet (fail)
            go_wp2_with fail
            go_roundw
            case rel => exact ⟨1, by omega, by go_num, HJ, Lib.hid (F2.out.drewN _)⟩
            case measure => simp [intOf]; omega
        · have HOK := Lib.hid (caK_ok xs (m + 1) I.out)
          have HNX := Lib.hid (caK_next xs m I.out)
          obtain ⟨b', off', cb, cbk, hbb, hI', -, g0, g1, g2, g3⟩ := HX.out.2 m (by omega)
          cases hbb
          replace g0 := F.out.keepc g0
          replace g2 := F.out.keepc g2
          have hvr := (hlB_t (HOK.out.1 m (by omega)))
          have hvr0 := hvr.1
          have hvr1 := hvr.2.1
          have HFO := Lib.hid (show hvF (hvAt xs m) (hvAt xs (m + 1)) = if (hvAt xs (m + 1)).f ≠ (hvAt xs m).u then 5 else if (hvAt xs (m + 1)).v ≠ ((hvAt xs m).v + 1) % 256 then 23 else 0 from rfl)
          clear hI' hvr HOK g1 g3
          generalize hvF (hvAt xs m) (hvAt xs (m + 1)) = N at *
          generalize hvB (hvAt xs (m + 1)) = B at *
          generalize hlE (hvAt xs (m + 1)).v (hvAt xs (m + 1)).f (hvAt xs (m + 1)).u (hvAt xs (m + 1)).chs = E at *
          generalize (hvAt xs (m + 1)).chs.length = n at *
          generalize (hvAt xs (m + 1)).v = v0 at *
          generalize (hvAt xs (m + 1)).f = f0 at *
          generalize (hvAt xs (m + 1)).u = u0 at *
          generalize (hvAt xs m).v = v1 at *
          generalize (hvAt xs m).u = u1 at *
          obtain ⟨K, hK⟩ : ∃ K, K = m + 1 := ⟨_, rfl⟩
          rw [show caK xs (m + 2) = caK xs (K + 1) by rw [hK]] at HNX
          rw [← hK] at HBAD HSTP e0 e1 e2 e3 hlt hk hkI ⊢
          have hK0 : (0 : Int) < (K : Int) := by omega
          have hKD : decide ((0 : Int) < (K : Int)) = true := decide_eq_true hK0
          have hKN : 0 < K := by omega
          have hKND : decide (0 < K) = true := decide_eq_true hKN
          have hwm : IntKind.i64.wrap ((K : Int) - 1) = (m : Int) := (IntWalk.i64_in _ (by omega)).trans (by omega)
          have hml : m < len := by omega
          have hmI : (m : Int) < (len : Int) := by omega
          have hKI : (K : Int) < (len : Int) := by omega
          have HKE := Lib.hid hK
          have hv1 : IntKind.i64.wrap (v1 + 1) = v1 + 1 := IntWalk.i64_in _ (by omega)
          have hvt : Int.tmod (v1 + 1) 256 = (v1 + 1) % 256 := Int.tmod_eq_emod_of_nonneg (by omega)
          have hvw : IntKind.i64.wrap ((v1 + 1) % 256) = (v1 + 1) % 256 := IntWalk.i64_in _ (by omega)
          clear hK
          cases B
          · have hE : E = 1 := HHE.out
            subst hE
            have HV := Lib.hid (show caE xs = 1 by
              have h1 := HBAD.out rfl
              rw [HE.out, HSTP.out (by rw [h1]; decide), h1])
            go_wp2_with fail
            refine (KC.out _ HI1.out).mono ?_
            rintro e w2 ⟨rfl, f2⟩
            have F2 := Lib.hid (F.out.noTrans f2)
            clear f2
            go_wp2_with fail
            go_ret
            rw [HV.out]
            exact ⟨rfl, F2.out⟩
          · have hE : E = 0 := HHE.out
            subst hE
            replace HNX := Lib.hid (HNX.out rfl)
            go_wp2_with fail
            refine (KC.out _ HI1.out).mono ?_
            rintro e w2 ⟨rfl, f2⟩
            have F2 := Lib.hid (F.out.noTrans f2)
            have k0 := f2.keepc e0
            have k1 := f2.keepc e1
            have k4 := f2.keepc g0
            have k6 := f2.keepc g2
            clear f2 e0 e1 e2 e3 g0 g2
            by_cases hf : f0 = u1
            · subst hf
              by_cases hv : v0 = (v1 + 1) % 256
              · have hN : N = 0 := by rw [HFO.out, if_neg (by simp), if_neg (by simpa using hv)]
                have HJ := Lib.hid (show caK xs (K + 1) = 0 by rw [HNX.out, hN])
                subst hN
                rw [hv] at k0
                clear hv
                go_wp2_with fail
                go_quiet (fail)
                go_wp2_with fail
                go_quiet (fail)
                go_wp2_with fail
                go_roundw
                case rel => exact ⟨K + 1, by omega, by go_num, HJ, Lib.hid (F2.out.drewN _)⟩
                case measure => simp [intOf]; omega
              · have hN : N = 23 := by rw [HFO.out, if_neg (by simp), if_pos (by simpa using hv)]
                have HV := Lib.hid (show caE xs = 23 by rw [HE.out, HSTP.out (by rw [HNX.out, hN]; decide), HNX.out, hN])
                subst hN
                generalize (v1 + 1) % 256 = n1 at *
                have hE1 : (v0 == n1) = false := by simpa using hv
                have hE2 : decide (v0 = n1) = false := by simpa using hv
                go_wp2_with fail
                go_quiet (fail)
                go_wp2_with fail
                go_quiet (fail)
                go_wp2_with fail
                go_ret
                rw [HV.out]
                first | exact ⟨rfl, (F2.out.drewN _).drewN _⟩ | exact ⟨rfl, F2.out.drewN _⟩
            · have hN : N = 5 := by rw [HFO.out, if_pos (by simpa using hf)]
              have HV := Lib.hid (show caE xs = 5 by rw [HE.out, HSTP.out (by rw [HNX.out, hN]; decide), HNX.out, hN])
              subst hN
              have hE1 : (f0 == u1) = false := by simpa using hf
              have hE2 : decide (f0 = u1) = false := by simpa using hf
              go_wp2_with fail
              go_quiet (fail)
              go_wp2_with fail
              go_ret
              rw [HV.out]
              exact ⟨rfl, F2.out.drewN _⟩
      · have HV := Lib.hid (show caE xs = 0 by rw [HE.out, show xs.length = k by have := HXL.out; omega]; exact I.out)
        go_wp2_with fail
        go_ret
        rw [HV.out]
        exact ⟨rfl, F.out⟩
  · have h1I : (len : Int) < 1 := by omega
    replace HE := Lib.hid (show caE xs = 1 by
      rw [HE.out]
      cases q : inR (len : Int) 1 1024
      · rfl
      · have := inR_t.1 q; omega)
    go_enter Try.func23, Try.ntmps23
    go_wp2_with fail
    go_ret
    rw [HE.out]
    exact ⟨rfl, Fr.refl _ _⟩

end Go.Proofs.Ytpaoacdgmfaolaa
