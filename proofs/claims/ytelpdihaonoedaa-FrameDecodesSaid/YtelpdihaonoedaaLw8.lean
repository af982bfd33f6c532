/- FrameDecodes: the law. -/
import Derived.Test.YtelpdihaonoedaaDew2
import Derived.Test.YtelpdihaonoedaaAwk
namespace Go.Proofs.Ytelpdihaonoedaa
open Go.RowKit
set_option linter.unusedVariables false
set_option maxRecDepth 20000

theorem decs_big (s : ByteArray) (w : World) (hd : 300 < s.size) : Calls Try.prog 4 #[.string s] w fun e w' => e = .returned (.bool true) ∧ Fr no w w' := by
  have HAW := Lib.hid awake_any
  have hd1 : (300 : Int) < (s.size : Int) := by omega
  clear hd
  have HF0 := Lib.hid (Fr.refl no w)
  go_enter Try.func4, Try.ntmps4
  go_wp2_with fail
  refine (HAW.out _).mono ?_
  rintro e1 w1 ⟨rfl, f1⟩
  have HF1 := Lib.hid (HF0.out.noTrans f1)
  clear f1
  go_wp2_with fail
  go_ret
  exact ⟨rfl, HF1.out⟩
theorem decs_ok (s : ByteArray) (w : World) (hd : ¬ 300 < s.size) : Calls Try.prog 4 #[.string s] w fun e w' => e = .returned (.bool true) ∧ Fr no w w' := by
  have HAW := Lib.hid awake_any
  have HD := Lib.hid (fun w => decode_any s w (by omega))
  have HE := Lib.hid (fun w => decodeR_any s w)
  have hd1 : ¬ (300 : Int) < (s.size : Int) := by omega
  have hz := fun w => eql_frame (deV s) (deV s) w
  simp only [eqF_refl] at hz
  clear hd
  generalize deE s = E at *
  generalize deV s = x at *
  obtain ⟨k, s1, t, l, q, f, n, e, sl, r, ep, d⟩ := x
  simp only [frA] at HD HE hz
  have HF0 := Lib.hid (Fr.refl no w)
  go_enter Try.func4, Try.ntmps4
  go_wp2_with fail
  refine (HAW.out _).mono ?_
  rintro e1 w1 ⟨rfl, f1⟩
  have HF1 := Lib.hid (HF0.out.noTrans f1)
  clear f1
  go_wp2_with fail
  refine (HD.out _).mono ?_
  rintro e2 w2 ⟨rfl, f2⟩
  have HF2 := Lib.hid (HF1.out.noTrans f2)
  clear f2
  go_wp2_with fail
  obtain ⟨w3, hW3⟩ : ∃ w3, w3 = w2.alloc (.cells #[.int .i64 k, .int .i64 s1, .int .i64 t, .int .i64 l, .int .i64 q, .int .i64 f, .int .i64 n, .int .i64 e, .int .i64 sl, .int .i64 r, .int .i64 ep, .string d] 23 (0, 0)) := ⟨_, rfl⟩
  have HF3 := Lib.hid (show Fr no w w3 by rw [hW3]; exact HF2.out.alloc _)
  have Ha3 := Lib.hid (show w3.heap[w2.heap.size]? = some (.cells #[.int .i64 k, .int .i64 s1, .int .i64 t, .int .i64 l, .int .i64 q, .int .i64 f, .int .i64 n, .int .i64 e, .int .i64 sl, .int .i64 r, .int .i64 ep, .string d] 23 (0, 0)) by rw [hW3]; exact heap_alloc_new _ _)
  rw [← hW3]
  clear hW3
  obtain ⟨a0, a1, a2, a3, a4, a5, a6, a7, a8, a9, a10, a11⟩ := twelve_cells Ha3.out
  go_wp2_with fail
  refine (HE.out _).mono ?_
  rintro e4 w4 ⟨rfl, f4⟩
  have HF4 := Lib.hid (HF3.out.noTrans f4)
  have Ha4 := Lib.hid (f4.blk Ha3.out (fun h => h))
  clear f4
  clear a0 a1 a2 a3 a4 a5 a6 a7 a8 a9 a10 a11
  obtain ⟨a0, a1, a2, a3, a4, a5, a6, a7, a8, a9, a10, a11⟩ := twelve_cells Ha4.out
  have lta4 := World.block_lt_of_cell? w4 _ a0
  go_wp2_with fail
  go_ret
  exact ⟨by simp, HF4.out.alloc _⟩
theorem decs_law (s : ByteArray) (w : World) : Calls Try.prog 4 #[.string s] w fun e w' => e = .returned (.bool true) ∧ Fr no w w' := by
  by_cases h : 300 < s.size
  · exact decs_big s w h
  · exact decs_ok s w h
end Go.Proofs.Ytelpdihaonoedaa
