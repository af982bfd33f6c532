/- Ranges: within, isPower, isReceiver, and those of the document. -/
import Derived.Test.YtkbdjpdpcbeciaaDoorRows
import Derived.Test.YtkbdjpdpcbeciaaDoorBase
namespace Go.Proofs.YtkbdjpdpcbeciaaDoor
open Go.RowKit

abbrev MX : Int := 68719476736
/-- from least to most -/
def inR (n a b : Int) : Bool := decide (a ≤ n) && decide (n ≤ b)
def isP (n : Int) : Bool := inR n 0 MX
def isR (t o : Int) : Bool := inR t 1000 100000 && inR o 1 MX
theorem inR_t {n a b : Int} : inR n a b = true ↔ a ≤ n ∧ n ≤ b := by simp [inR]
theorem isP_t {n : Int} : isP n = true ↔ 0 ≤ n ∧ n ≤ MX := inR_t
theorem isR_t {t o : Int} : isR t o = true ↔ (1000 ≤ t ∧ t ≤ 100000) ∧ 1 ≤ o ∧ o ≤ MX := by simp [isR, inR_t]
set_option maxHeartbeats 400000 in
theorem within_any (n a b : Int) (w : World) : Calls Tryd.prog 32 #[.int .i64 n, .int .i64 a, .int .i64 b] w fun e w' => e = .returned (.bool (inR n a b)) ∧ w' = w := by
  by_cases h1 : a ≤ n
  · have HR := Lib.hid (show inR n a b = decide (n ≤ b) by simp [inR, h1])
    go_enter Tryd.func32, Tryd.ntmps32
    go_wp2_with fail
    go_ret
    rw [HR.out]
    exact ⟨rfl, rfl⟩
  · have HR := Lib.hid (show inR n a b = false by simp [inR, h1])
    have h3 : n < a := by omega
    clear h1
    go_enter Tryd.func32, Tryd.ntmps32
    go_wp2_with fail
    go_ret
    rw [HR.out]
    exact ⟨rfl, rfl⟩
theorem isPower_any (n : Int) (w : World) : Calls Tryd.prog 36 #[.int .i64 n] w fun e w' => e = .returned (.bool (isP n)) ∧ w' = w := by
  go_enter Tryd.func36, Tryd.ntmps36
  go_wp2_with fail
  refine (within_any n 0 68719476736 _).mono ?_
  rintro e w' ⟨rfl, rfl⟩
  go_wp2_with fail
  go_ret
  exact ⟨rfl, rfl⟩
theorem isReceiver_any (t o : Int) (w : World) : Calls Tryd.prog 39 #[.int .i64 t, .int .i64 o] w fun e w' => e = .returned (.bool (isR t o)) ∧ w' = w := by
  cases h : inR t 1000 100000
  · have HR := Lib.hid (show isR t o = false by simp [isR, h])
    have HW := Lib.hid (within_any t 1000 100000 w)
    rw [h] at HW
    clear h
    go_enter Tryd.func39, Tryd.ntmps39
    go_wp2_with fail
    refine HW.out.mono ?_
    rintro e w' ⟨rfl, rfl⟩
    go_wp2_with fail
    go_ret
    rw [HR.out]
    exact ⟨rfl, rfl⟩
  · have HR := Lib.hid (show isR t o = inR o 1 MX by simp [isR, h])
    have HW := Lib.hid (within_any t 1000 100000 w)
    rw [h] at HW
    clear h
    go_enter Tryd.func39, Tryd.ntmps39
    go_wp2_with fail
    refine HW.out.mono ?_
    rintro e w' ⟨rfl, rfl⟩
    go_wp2_with fail
    refine (within_any o 1 68719476736 _).mono ?_
    rintro e w' ⟨rfl, rfl⟩
    go_wp2_with fail
    go_ret
    rw [HR.out]
    exact ⟨rfl, rfl⟩
set_option maxHeartbeats 400000 in
theorem isR_any (n : Int) (w : World) : Calls Tryd.prog 37 #[.int .i64 n] w fun e w' => e = .returned (.bool (isP n)) ∧ w' = w := by
  by_cases h1 : 0 ≤ n
  · have HR := Lib.hid (show isP n = decide (n ≤ 68719476736) by simp [isP, inR, h1, MX])
    go_enter Tryd.func37, Tryd.ntmps37
    go_wp2_with fail
    go_ret
    rw [HR.out]
    exact ⟨rfl, rfl⟩
  · have HR := Lib.hid (show isP n = false by simp [isP, inR, h1])
    have h3 : n < 0 := by omega
    clear h1
    go_enter Tryd.func37, Tryd.ntmps37
    go_wp2_with fail
    go_ret
    rw [HR.out]
    exact ⟨rfl, rfl⟩
set_option maxHeartbeats 1000000 in
theorem right_any (t o : Int) (w : World) : Calls Tryd.prog 40 #[.int .i64 t, .int .i64 o] w fun e w' => e = .returned (.bool (isR t o)) ∧ w' = w := by
  have hh : True := trivial
  by_cases h1 : t < 1000
  · have g1 : ¬ 1000 ≤ t := by omega
    have HR := Lib.hid (show isR t o = false by simp [isR, inR, MX]; omega)
    clear hh
    go_enter Tryd.func40, Tryd.ntmps40
    go_wp2_with fail
    go_ret
    rw [HR.out]
    exact ⟨rfl, rfl⟩
  have g1 : 1000 ≤ t := by omega
  by_cases h2 : 100000 < t
  · have g2 : ¬ t ≤ 100000 := by omega
    have HR := Lib.hid (show isR t o = false by simp [isR, inR, MX]; omega)
    clear hh
    go_enter Tryd.func40, Tryd.ntmps40
    go_wp2_with fail
    go_ret
    rw [HR.out]
    exact ⟨rfl, rfl⟩
  have g2 : t ≤ 100000 := by omega
  by_cases h3 : o < 1
  · have g3 : ¬ 1 ≤ o := by omega
    have HR := Lib.hid (show isR t o = false by simp [isR, inR, MX]; omega)
    clear hh
    go_enter Tryd.func40, Tryd.ntmps40
    go_wp2_with fail
    go_ret
    rw [HR.out]
    exact ⟨rfl, rfl⟩
  have g3 : 1 ≤ o := by omega
  by_cases h4 : 68719476736 < o
  · have g4 : ¬ o ≤ 68719476736 := by omega
    have HR := Lib.hid (show isR t o = false by simp [isR, inR, MX]; omega)
    clear hh
    go_enter Tryd.func40, Tryd.ntmps40
    go_wp2_with fail
    go_ret
    rw [HR.out]
    exact ⟨rfl, rfl⟩
  · have g4 : o ≤ 68719476736 := by omega
    have HR := Lib.hid (show isR t o = true by simp [isR, inR, MX]; omega)
    clear hh
    go_enter Tryd.func40, Tryd.ntmps40
    go_wp2_with fail
    go_ret
    rw [HR.out]
    exact ⟨rfl, rfl⟩
end Go.Proofs.YtkbdjpdpcbeciaaDoor
