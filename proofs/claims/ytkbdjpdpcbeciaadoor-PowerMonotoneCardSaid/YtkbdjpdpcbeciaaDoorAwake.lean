/- 'awake': the chapter's examples. -/
import Derived.Test.YtkbdjpdpcbeciaaDoorDcb
import Derived.Test.YtkbdjpdpcbeciaaDoorMar
import Derived.Test.YtkbdjpdpcbeciaaDoorShelf
namespace Go.Proofs.YtkbdjpdpcbeciaaDoor
open Go.RowKit

theorem ex_lv : lvV 13 = 19 ∧ lvE 13 = 0 := by decide
theorem ex_db : db 24 = 13 := DbS.db ⟨by decide, by decide, fun _ => by decide⟩
theorem ex_db2 : db 1000 = 30 := DbS.db ⟨by decide, by decide, fun _ => by decide⟩
theorem ex_mg : mgV 100 2000 10 = 40 ∧ mgE 100 2000 10 = 0 := by decide
theorem ex_ls : lsV 2000 10 40 = 100 ∧ lsE 2000 10 40 = 0 := by decide
theorem ex_lv_any (w : World) (hd : Dec w) : Calls Tryd.prog 12 #[.int .i64 13] w fun e w' => e = .returned (.tuple #[.int .i64 19, .int .i64 0]) ∧ w' = w := by
  have := levelP_any 13 w hd
  rwa [ex_lv.1, ex_lv.2] at this
theorem ex_db_any (w : World) (hd : Dec w) : Calls Tryd.prog 14 #[.int .i64 24] w fun e w' => e = .returned (.tuple #[.int .i64 13, .int .i64 0]) ∧ Fr no w w' := by
  have := decibels_any 24 w hd
  rw [dbV, dbE, if_pos (by decide), if_pos (by decide), ex_db] at this
  exact this
theorem ex_db2_any (w : World) (hd : Dec w) : Calls Tryd.prog 14 #[.int .i64 1000] w fun e w' => e = .returned (.tuple #[.int .i64 30, .int .i64 0]) ∧ Fr no w w' := by
  have := decibels_any 1000 w hd
  rw [dbV, dbE, if_pos (by decide), if_pos (by decide), ex_db2] at this
  exact this
theorem ex_mg_any (w : World) : Calls Tryd.prog 23 #[.int .i64 100, .int .i64 2000, .int .i64 10] w fun e w' => e = .returned (.tuple #[.int .i64 40, .int .i64 0]) ∧ w' = w := by
  have := margin_any 100 2000 10 w
  rwa [ex_mg.1, ex_mg.2] at this
theorem ex_ls_any (w : World) : Calls Tryd.prog 25 #[.int .i64 2000, .int .i64 10, .int .i64 40] w fun e w' => e = .returned (.tuple #[.int .i64 100, .int .i64 0]) ∧ w' = w := by
  have := least_any 2000 10 40 w
  rwa [ex_ls.1, ex_ls.2] at this
theorem ex_itoa (w : World) : Calls Tryd.prog 42 #[.int .i64 30] w fun e w' => e = .returned (.string ⟨#[51, 48]⟩) ∧ w' = w := by
  have := Tryd.strconv_Itoa_small 30 (by decide) w
  rw [show (⟨(Lib.decDigits 30).toArray⟩ : ByteArray) = ⟨#[51, 48]⟩ by kernel_rfl] at this
  exact this
theorem ex_fmt_any (w : World) (hd : Dec w) : Calls Tryd.prog 27 #[.int .i64 1000] w fun e w' => e = .returned (.tuple #[.string ⟨#[51, 48, 32, 100, 66]⟩, .int .i64 0]) ∧ Fr no w w' := by
  have HD := Lib.hid (ex_db2_any w hd)
  have HA := Lib.hid (show (⟨#[51, 48]⟩ : ByteArray) ++ ⟨#[32, 100, 66]⟩ = ⟨#[51, 48, 32, 100, 66]⟩ by kernel_rfl)
  clear hd
  go_enter Tryd.func27, Tryd.ntmps27
  go_wp2_with fail
  refine HD.out.mono ?_
  rintro e w1 ⟨rfl, f1⟩
  have HF := Lib.hid f1
  clear f1
  go_wp2_with fail
  refine (ex_itoa _).mono ?_
  rintro e w' ⟨rfl, rfl⟩
  go_wp2_with fail
  rw [HA.out]
  go_ret2
  exact ⟨rfl, HF.out⟩
set_option maxHeartbeats 2000000 in
theorem awake_any (w : World) (hd : Dec w) : Calls Tryd.prog 11 #[] w fun e w' => e = .returned (.bool true) ∧ Fr no w w' := by
  have HD := Lib.hid hd
  clear hd
  go_enter Tryd.func11, Tryd.ntmps11
  go_wp2_with fail
  refine (ex_lv_any _ HD.out).mono ?_
  rintro e w' ⟨rfl, rfl⟩
  go_wp2_with fail
  refine (ex_db_any _ HD.out).mono ?_
  rintro e w1 ⟨rfl, f1⟩
  have HF1 := Lib.hid f1
  clear f1
  go_wp2_with fail
  refine (ex_mg_any _).mono ?_
  rintro e w' ⟨rfl, rfl⟩
  go_wp2_with fail
  refine (ex_ls_any _).mono ?_
  rintro e w' ⟨rfl, rfl⟩
  go_wp2_with fail
  refine (ex_fmt_any _ (HD.out.kept HF1.out (fun h => h))).mono ?_
  rintro e w2 ⟨rfl, f2⟩
  have HF2 := Lib.hid (HF1.out.noTrans f2)
  clear f2
  go_wp2_with fail
  go_ret
  exact ⟨rfl, HF2.out⟩
end Go.Proofs.YtkbdjpdpcbeciaaDoor
