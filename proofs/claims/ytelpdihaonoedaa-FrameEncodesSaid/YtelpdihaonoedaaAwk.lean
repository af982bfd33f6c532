/- The examples of the chapter. -/
import Derived.Test.YtelpdihaonoedaaTim
import Derived.Test.YtelpdihaonoedaaAck
namespace Go.Proofs.Ytelpdihaonoedaa
open Go.RowKit
set_option linter.unusedVariables false
set_option maxRecDepth 20000

def exF : Frm := ⟨2, 2, 1, 3, 4, 0, 0, -1, 0, 0, 0, ⟨#[]⟩⟩
def exG : Frm := ⟨1, 0, 1, 0, 0, 0, 0, 0, 0, 0, 0, ⟨#[]⟩⟩
def exS : ByteArray := ⟨#[66, 132, 12, 19, 255, 252]⟩
theorem exF_ok : okF exF = true := by simp [okF, eqF, nmF, adB, inR, exF]
theorem exG_ok : okF exG = true := by simp [okF, eqF, nmF, adB, inR, exG]
theorem exF_e : (enS exF).e = 0 := by decide
theorem exG_e : (enS exG).e = 0 := by decide
theorem exF_b : (enS exF).bs = [false, true, false, false, false, false, true, false, true, false, false, false, false, true, false, false, false, false, false, false, true, true, false, false, false, false, false, true, false, false, true, true, true, true, true, true, true, true, true, true, true, true, true, true, true, true] := by decide
theorem exG_b : (enS exG).bs.length = 61 := by decide
theorem exF_w : wBytes (enS exF) = exS := by
  have h : packB (enS exF).bs = [66, 132, 12, 19, 255, 252] := by rw [exF_b]; decide
  unfold wBytes
  rw [if_neg (by rw [exF_e]; decide), h]
  rfl
theorem exF_p : prS exF = protB exS := by unfold prS; rw [exF_w]
theorem exS_p : (protB exS).size = 8 := by rw [prot_size]; rfl
theorem exF_v : enV exF = protB exS ∧ enE exF = 0 := by
  have := enc_4 exF_ok exF_e (by rw [exF_p, exS_p]; decide)
  rw [exF_p] at this
  exact this
theorem exG_p : (prS exG).size = 10 := by
  unfold prS
  rw [prot_size]
  unfold wBytes
  rw [if_neg (by rw [exG_e]; decide), strOf_size, (packs_packB _).len, exG_b]
theorem exG_v : enE exG = 0 ∧ (enV exG).size = 10 := by
  have := enc_4 exG_ok exG_e (by rw [exG_p]; decide)
  rw [this.1, exG_p]
  exact ⟨this.2, rfl⟩
theorem exF_t : tmV exF = 832 := by unfold tmV; rw [if_pos exF_v.2]; rfl
theorem exG_k : exG.k ≠ 2 := by decide
theorem exG_r : rmV exG = 117 ∧ rmE exG = 0 := by
  constructor
  · unfold rmV; rw [if_neg exG_k, if_pos exG_v.1, exG_v.2]; rfl
  · unfold rmE; rw [if_neg exG_k, exG_v.1]
set_option maxHeartbeats 2000000 in
theorem awake_any (w : World) : Calls Try.prog 11 #[] w fun e w' => e = .returned (.bool true) ∧ Fr no w w' := by
  have HE := Lib.hid (fun w => encode_any exF w (by decide))
  have HT := Lib.hid (fun w => time_any exF w (by decide) (enV_small exF))
  have HR := Lib.hid (fun w => room_any' exG w (by decide) (enV_small exG))
  have HP := Lib.hid (fun w => protect_any exS w (by decide))
  rw [exF_v.1, exF_v.2] at HE
  rw [exF_t, exF_v.2] at HT
  rw [exG_r.1, exG_r.2] at HR
  have hsz : ((protB exS).size : Int) = 8 := by rw [exS_p]; rfl
  have HF := Lib.hid (Fr.refl no w)
  generalize protB exS = P at *
  simp only [exF, exG, frA, exS] at HE HT HR HP
  obtain ⟨W, hW⟩ : ∃ W, W = w.alloc (.cells #[.int .i64 2, .int .i64 2, .int .i64 1, .int .i64 3, .int .i64 4, .int .i64 0, .int .i64 0, .int .i64 (-1), .int .i64 0, .int .i64 0, .int .i64 0, .string ⟨#[]⟩] 23 (0, 0)) := ⟨_, rfl⟩
  have hB : W.heap[w.heap.size]? = some (.cells #[.int .i64 2, .int .i64 2, .int .i64 1, .int .i64 3, .int .i64 4, .int .i64 0, .int .i64 0, .int .i64 (-1), .int .i64 0, .int .i64 0, .int .i64 0, .string ⟨#[]⟩] 23 (0, 0)) := by rw [hW]; exact heap_alloc_new w _
  have HW := Lib.hid hW
  have HFW := Lib.hid (show Fr no w W by rw [hW]; exact HF.out.alloc _)
  have HB := Lib.hid hB
  obtain ⟨c0, c1, c2, c3, c4, c5, c6, c7, c8, c9, c10, c11⟩ := twelve_cells hB
  clear hW hB
  go_enter Try.func11, Try.ntmps11
  go_wp2_with fail
  rw [← HW.out]
  go_wp2_with fail
  refine (HE.out _).mono ?_
  rintro e1 w1 ⟨rfl, f1⟩
  have HF1 := Lib.hid (HFW.out.noTrans f1)
  have HB1 := Lib.hid (f1.blk HB.out (fun h => h))
  clear f1 c0 c1 c2 c3 c4 c5 c6 c7 c8 c9 c10 c11
  obtain ⟨c0, c1, c2, c3, c4, c5, c6, c7, c8, c9, c10, c11⟩ := twelve_cells HB1.out
  go_wp2_with fail
  refine (HT.out _).mono ?_
  rintro e2 w2 ⟨rfl, f2⟩
  have HF2 := Lib.hid (HF1.out.noTrans f2)
  clear f2 c0 c1 c2 c3 c4 c5 c6 c7 c8 c9 c10 c11
  go_wp2_with fail
  refine (HR.out _).mono ?_
  rintro e3 w3 ⟨rfl, f3⟩
  have HF3 := Lib.hid (HF2.out.noTrans f3)
  clear f3
  go_wp2_with fail
  refine (HP.out _).mono ?_
  rintro e4 w4 ⟨rfl, f4⟩
  have HF4 := Lib.hid (HF3.out.noTrans f4)
  clear f4
  go_wp2_with fail
  go_ret
  exact ⟨by simp, HF4.out⟩
end Go.Proofs.Ytelpdihaonoedaa
