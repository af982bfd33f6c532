/- 'awake': the chapter's examples. -/
import Derived.Test.YthkklnphchajdaaChk
namespace Go.Proofs.Ythkklnphchajdaa
open Go.RowKit

def ex3 : ByteArray := ⟨#[0, 0, 1]⟩
def ex9 : ByteArray := ⟨#[49, 50, 51, 52, 53, 54, 55, 56, 57]⟩
def exA : ByteArray := ⟨#[65]⟩
theorem ex_syn : synL (bytesOf ex3) = 1#16 := by kernel_rfl
theorem ex_sum : updB 0#16 ex9 = 0x31c3#16 := by kernel_rfl
theorem ex_pow : powZ 1 16 = 0x1021#16 := by kernel_rfl
theorem ex_mul : mul 0x8000#16 2#16 = 0x1021#16 := by kernel_rfl
theorem ex_prot : protB exA = ⟨#[65, 88, 229]⟩ := by kernel_rfl
theorem ex_loc (e : Ending) (h : LocRes 1#16 24 e) : e = .returned (.tuple #[.int .i64 0, .bool true]) := by
  obtain ⟨i, ok, he, hl⟩ := h
  cases ok
  · exact absurd rfl ((hl.no rfl).2 0 (by decide) (by decide))
  · obtain ⟨_, _, _, h3⟩ := hl.yes rfl
    by_cases h0 : i = 0
    · subst h0; exact he
    · exact absurd rfl (h3 0 (by omega))
theorem ex_syn_any (w : World) : Calls Try.prog 24 #[.string ⟨#[0, 0, 1]⟩] w fun e w' => e = .returned (.tuple #[.int .u16 1, .int .i64 0]) ∧ Fr no w w' := by
  have := syndrome_any ex3 w (by decide)
  rw [if_neg (by decide), if_neg (by decide), ex_syn] at this
  exact this
theorem ex_sum_any (w : World) : Calls Try.prog 12 #[.string ⟨#[49, 50, 51, 52, 53, 54, 55, 56, 57]⟩] w fun e w' => e = .returned (.int .u16 12739) ∧ Fr no w w' := by
  have := sum_any ex9 w (by decide)
  rw [ex_sum] at this
  exact this
theorem ex_pow_any (w : World) : Calls Try.prog 20 #[.int .i64 16] w fun e w' => e = .returned (.int .u16 4129) ∧ w' = w := by
  have := power_any 16 w (by decide) (by decide)
  rw [ex_pow] at this
  exact this
theorem ex_mul_any (w : World) : Calls Try.prog 18 #[.int .u16 32768, .int .u16 2] w fun e w' => e = .returned (.int .u16 4129) ∧ w' = w := by
  have := mul_any 0x8000#16 2#16 w
  rw [ex_mul] at this
  exact this
theorem ex_prot_any (w : World) : Calls Try.prog 22 #[.string ⟨#[65]⟩] w fun e w' => e = .returned (.string ⟨#[65, 88, 229]⟩) ∧ Fr no w w' := by
  have := protect_any exA w (by decide)
  rw [ex_prot] at this
  exact this
theorem Fr.noTrans {a b c : World} (h : Fr no a b) (k : Fr no b c) : Fr no a c := h.trans k (fun _ _ h => h)
set_option maxHeartbeats 2000000 in
theorem awake_any (w : World) : Calls Try.prog 11 #[] w fun e w' => e = .returned (.bool true) ∧ Fr no w w' := by
  go_enter Try.func11, Try.ntmps11
  go_wp2_with fail
  refine (ex_syn_any _).mono ?_
  rintro e w1 ⟨rfl, f1⟩
  have HF1 := Lib.hid f1
  clear f1
  go_wp2_with fail
  refine (locate_any 1#16 24 _ (by decide) (by decide)).mono ?_
  rintro e w' ⟨hl, rfl⟩
  rw [ex_loc e hl]
  clear hl
  go_wp2_with fail
  refine (ex_sum_any _).mono ?_
  rintro e w3 ⟨rfl, f3⟩
  have HF3 := Lib.hid (HF1.out.noTrans f3)
  clear f3
  go_wp2_with fail
  refine (ex_pow_any _).mono ?_
  rintro e w' ⟨rfl, rfl⟩
  go_wp2_with fail
  refine (ex_mul_any _).mono ?_
  rintro e w' ⟨rfl, rfl⟩
  go_wp2_with fail
  refine (ex_prot_any _).mono ?_
  rintro e w4 ⟨rfl, f4⟩
  have HF4 := Lib.hid (HF3.out.noTrans f4)
  clear f4
  go_wp2_with fail
  go_ret
  exact ⟨rfl, HF4.out⟩
end Go.Proofs.Ythkklnphchajdaa
