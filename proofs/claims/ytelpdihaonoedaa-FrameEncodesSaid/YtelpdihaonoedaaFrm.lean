/- Frames: what is valid. -/
import Derived.Test.YtelpdihaonoedaaHlp
namespace Go.Proofs.Ytelpdihaonoedaa
open Go.RowKit
set_option linter.unusedVariables false
set_option maxRecDepth 20000

/-- A frame. -/
structure Frm where
  k : Int
  s : Int
  t : Int
  l : Int
  q : Int
  f : Int
  n : Int
  e : Int
  sl : Int
  r : Int
  ep : Int
  d : ByteArray
def frA (x : Frm) : Array Value := #[.int .i64 x.k, .int .i64 x.s, .int .i64 x.t, .int .i64 x.l, .int .i64 x.q, .int .i64 x.f, .int .i64 x.n, .int .i64 x.e, .int .i64 x.sl, .int .i64 x.r, .int .i64 x.ep, .string x.d]
def frV (x : Frm) : Value := .agg (frA x)
def inR (n a b : Int) : Bool := decide (a ≤ n) && decide (n ≤ b)
/-- A frame's cells in memory. -/
theorem twelve_cells {w : World} {B T : Nat} {a0 a1 a2 a3 a4 a5 a6 a7 a8 a9 a10 a11 : Value} (h : w.heap[B]? = some (.cells #[a0, a1, a2, a3, a4, a5, a6, a7, a8, a9, a10, a11] T (0, 0))) :
    w.cell? ⟨B, 0, none⟩ = some a0 ∧ w.cell? ⟨B, 1, none⟩ = some a1 ∧ w.cell? ⟨B, 2, none⟩ = some a2 ∧ w.cell? ⟨B, 3, none⟩ = some a3 ∧ w.cell? ⟨B, 4, none⟩ = some a4 ∧ w.cell? ⟨B, 5, none⟩ = some a5 ∧ w.cell? ⟨B, 6, none⟩ = some a6 ∧ w.cell? ⟨B, 7, none⟩ = some a7 ∧ w.cell? ⟨B, 8, none⟩ = some a8 ∧ w.cell? ⟨B, 9, none⟩ = some a9 ∧ w.cell? ⟨B, 10, none⟩ = some a10 ∧ w.cell? ⟨B, 11, none⟩ = some a11 := by
  simp [World.cell?, h]
def eqF (x y : Frm) : Bool := decide (x.k = y.k) && (decide (x.s = y.s) && (decide (x.t = y.t) && (decide (x.l = y.l) && (decide (x.q = y.q) && (decide (x.f = y.f) && (decide (x.n = y.n) && (decide (x.e = y.e) && (decide (x.sl = y.sl) && (decide (x.r = y.r) && (decide (x.ep = y.ep) && (decide (x.d.toList = y.d.toList) && true)))))))))))
theorem if_and {p : Prop} [Decidable p] {w : World} {X : Result Value} {q : Bool} (h : X = .ok (.bool q) w) : (if p then X else .ok (.bool false) w) = .ok (.bool (decide p && q)) w := by
  by_cases hp : p <;> simp [hp, h]
theorem eql_frame (x y : Frm) (w : World) : (binOp .eql 23 (.agg (frA x)) (.agg (frA y))).run Try.prog w = .ok (.bool (eqF x y)) w := by
  obtain ⟨a0, a1, a2, a3, a4, a5, a6, a7, a8, a9, a10, d⟩ := x
  obtain ⟨b0, b1, b2, b3, b4, b5, b6, b7, b8, b9, b10, e⟩ := y
  simp only [frA, eqF]
  go_simp
  repeat refine if_and ?_
  split <;> simp [*]
theorem within_any (n a b : Int) (w : World) : Calls Try.prog 66 #[.int .i64 n, .int .i64 a, .int .i64 b] w fun e w' => e = .returned (.bool (inR n a b)) ∧ w' = w := by
  by_cases h1 : a ≤ n
  · have HR := Lib.hid (show inR n a b = decide (n ≤ b) by simp [inR, h1])
    go_enter Try.func66, Try.ntmps66
    go_wp2_with fail
    go_ret
    rw [HR.out]
    exact ⟨rfl, rfl⟩
  · have HR := Lib.hid (show inR n a b = false by simp [inR, h1])
    have h3 : n < a := by omega
    clear h1
    go_enter Try.func66, Try.ntmps66
    go_wp2_with fail
    go_ret
    rw [HR.out]
    exact ⟨rfl, rfl⟩
theorem isByte_any (n : Int) (w : World) : Calls Try.prog 56 #[.int .i64 n] w fun e w' => e = .returned (.bool (inR n 0 255)) ∧ w' = w := by
  go_enter Try.func56, Try.ntmps56
  go_wp2_with fail
  refine (within_any n 0 255 _).mono ?_
  rintro e w' ⟨rfl, rfl⟩
  go_wp2_with fail
  go_ret
  exact ⟨rfl, rfl⟩
theorem isError_any (n : Int) (w : World) : Calls Try.prog 57 #[.int .i64 n] w fun e w' => e = .returned (.bool (inR n (-32768) 32767)) ∧ w' = w := by
  go_enter Try.func57, Try.ntmps57
  go_wp2_with fail
  refine (within_any n (-32768) 32767 _).mono ?_
  rintro e w' ⟨rfl, rfl⟩
  go_wp2_with fail
  go_ret
  exact ⟨rfl, rfl⟩
theorem isNode_any (n : Int) (w : World) : Calls Try.prog 58 #[.int .i64 n] w fun e w' => e = .returned (.bool (inR n 0 31)) ∧ w' = w := by
  go_enter Try.func58, Try.ntmps58
  go_wp2_with fail
  refine (within_any n 0 31 _).mono ?_
  rintro e w' ⟨rfl, rfl⟩
  go_wp2_with fail
  go_ret
  exact ⟨rfl, rfl⟩
theorem isWord_any (n : Int) (w : World) : Calls Try.prog 69 #[.int .i64 n] w fun e w' => e = .returned (.bool (inR n 0 65535)) ∧ w' = w := by
  go_enter Try.func69, Try.ntmps69
  go_wp2_with fail
  refine (within_any n 0 65535 _).mono ?_
  rintro e w' ⟨rfl, rfl⟩
  go_wp2_with fail
  go_ret
  exact ⟨rfl, rfl⟩
end Go.Proofs.Ytelpdihaonoedaa
