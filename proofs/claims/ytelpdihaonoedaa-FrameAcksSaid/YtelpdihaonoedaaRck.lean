/- The document's Check. -/
import Derived.Test.YtelpdihaonoedaaVal
namespace Go.Proofs.Ytelpdihaonoedaa
open Go.RowKit
set_option linter.unusedVariables false
set_option maxRecDepth 20000

theorem withinR_any (n m : Int) (w : World) : Calls Try.prog 43 #[.int .i64 n, .int .i64 m] w fun e w' => e = .returned (.bool (inR n 0 m)) ∧ w' = w := by
  by_cases h1 : 0 ≤ n
  · have HR := Lib.hid (show inR n 0 m = decide (n ≤ m) by simp [inR, h1])
    go_enter Try.func43, Try.ntmps43
    go_wp2_with fail
    go_ret
    rw [HR.out]
    exact ⟨rfl, rfl⟩
  · have HR := Lib.hid (show inR n 0 m = false by simp [inR, h1])
    have h3 : n < 0 := by omega
    clear h1
    go_enter Try.func43, Try.ntmps43
    go_wp2_with fail
    go_ret
    rw [HR.out]
    exact ⟨rfl, rfl⟩
theorem withinR_0 (m : Int) (hm : 0 ≤ m) (w : World) : Calls Try.prog 43 #[.int .i64 0, .int .i64 m] w fun e w' => e = .returned (.bool true) ∧ w' = w := by
  have := withinR_any 0 m w
  rwa [show inR 0 0 m = true by simp [inR, hm]] at this
/-- The document's words, in their order. -/
def ckN (k s t l q f n e sl r ep : Int) (d : ByteArray) : Int :=
  if (!(k == 1 || k == 2 || k == 3 || k == 4) || !(inR s 0 31) || !(inR l 0 255) || !(inR q 0 255)) = true then 1
  else if ((k == 3 && t != -1) || (decide (t < -1) || decide (31 < t) || t == s) || ((k == 1 || k == 2) && t == -1)) = true then 1
  else if ((k != 1 && (f != 0 || n != 0)) || (k != 2 && e != 0) || (k != 3 && (sl != 0 || r != 0 || ep != 0)) || (k == 2 && d.toList != [])) = true then 1
  else if (!(inR f 0 255) || !(inR n 0 65535) || decide (e < -32768) || decide (32767 < e) || !(inR sl 0 109951162) || !(inR r 0 65535) || !(inR ep 0 65535)) = true then 1
  else 0
end Go.Proofs.Ytelpdihaonoedaa
