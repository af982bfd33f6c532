/- Scale, Margin, Least, and those of the document. -/
import Derived.Test.YtkbdjpdpcbeciaaDoorRng
namespace Go.Proofs.YtkbdjpdpcbeciaaDoor
open Go.RowKit

/-- What Scale returns. -/
def scV (p f : Int) : Int := if isP p = true ∧ inR f 0 1000 = true then p * f / 1000 else 0
def scE (p f : Int) : Int := if isP p = true ∧ inR f 0 1000 = true then 0 else 2
theorem mul_bound (a b A B : Int) (h0 : 0 ≤ a) (h1 : a ≤ A) (h2 : 0 ≤ b) (h3 : b ≤ B) : 0 ≤ a * b ∧ a * b ≤ A * B :=
  ⟨Int.mul_nonneg h0 h2, Int.mul_le_mul h1 h3 h2 (Int.le_trans h0 h1)⟩
set_option maxHeartbeats 1000000 in
theorem scale_any (p f : Int) (w : World) : Calls Tryd.prog 16 #[.int .i64 p, .int .i64 f] w fun e w' => e = .returned (.tuple #[.int .i64 (scV p f), .int .i64 (scE p f)]) ∧ w' = w := by
  have HP := isPower_any p w
  have HF := within_any f 0 1000 w
  cases h : isP p
  · rw [h] at HP
    have HP := Lib.hid HP
    have HV := Lib.hid (show scV p f = 0 by simp [scV, h])
    have HE := Lib.hid (show scE p f = 2 by simp [scE, h])
    clear h HF
    go_enter Tryd.func16, Tryd.ntmps16
    go_wp2_with fail
    refine HP.out.mono ?_
    rintro e w' ⟨rfl, rfl⟩
    go_wp2_with fail
    go_ret2
    rw [HV.out, HE.out]
    exact ⟨rfl, rfl⟩
  · rw [h] at HP
    have HP := Lib.hid HP
    cases h2 : inR f 0 1000
    · rw [h2] at HF
      have HF := Lib.hid HF
      have HV := Lib.hid (show scV p f = 0 by simp [scV, h2])
      have HE := Lib.hid (show scE p f = 2 by simp [scE, h2])
      clear h h2
      go_enter Tryd.func16, Tryd.ntmps16
      go_wp2_with fail
      refine HP.out.mono ?_
      rintro e w' ⟨rfl, rfl⟩
      go_wp2_with fail
      refine HF.out.mono ?_
      rintro e w' ⟨rfl, rfl⟩
      go_wp2_with fail
      go_ret2
      rw [HV.out, HE.out]
      exact ⟨rfl, rfl⟩
    · rw [h2] at HF
      have HF := Lib.hid HF
      have HV := Lib.hid (show scV p f = p * f / 1000 by simp [scV, h, h2])
      have HE := Lib.hid (show scE p f = 0 by simp [scE, h, h2])
      have hb := mul_bound p f MX 1000 (isP_t.1 h).1 (isP_t.1 h).2 (inR_t.1 h2).1 (inR_t.1 h2).2
      have hb2 : p * f ≤ 68719476736000 := hb.2
      have hw : IntKind.i64.wrap (p * f) = p * f := IntWalk.i64_in _ (by omega)
      have hb1 := hb.1
      have hq : Int.tdiv (p * f) 1000 = p * f / 1000 := Int.tdiv_eq_ediv_of_nonneg hb1
      clear h h2 hb
      go_enter Tryd.func16, Tryd.ntmps16
      go_wp2_with fail
      refine HP.out.mono ?_
      rintro e w' ⟨rfl, rfl⟩
      go_wp2_with fail
      refine HF.out.mono ?_
      rintro e w' ⟨rfl, rfl⟩
      go_wp2_with fail
      go_ret2
      rw [HV.out, HE.out]
      exact ⟨rfl, rfl⟩
end Go.Proofs.YtkbdjpdpcbeciaaDoor
