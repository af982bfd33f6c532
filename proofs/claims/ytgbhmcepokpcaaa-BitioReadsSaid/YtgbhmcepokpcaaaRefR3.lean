/- The document's own reader: Text. -/
import Derived.Test.YtgbhmcepokpcaaaRefR2
namespace Go.Proofs.Ytgbhmcepokpcaaa
open Go.RowKit

theorem rwidth_flip (most : Int) (w : World) (h2 : most ≤ 9223372036854775807) :
    Calls Try.prog 50 #[.int .i64 most] w fun e w' => e = .returned (.int .i64 (width most)) ∧ w = w' := (rwidth_any most w h2).mono fun _ _ h => ⟨h.1, h.2.symm⟩
theorem getR_flip (B : Nat) (st : RSt) (wd : Int) (w : World) (h : RdR w B st) (he : st.e ≠ 0) :
    Calls Try.prog 49 #[.pointer (some ⟨B, 0, none⟩), .int .i64 wd] w fun x w' => x = .returned (.int .i64 0) ∧ w = w' := (getR_dead B st wd w h he).mono fun _ _ h => ⟨h.1, h.2.symm⟩

set_option maxHeartbeats 1000000 in
/-- Behind a first error Text answers nothing. -/
theorem rTextR_dead (B : Nat) (st : RSt) (most : Int) (w : World) (hm : most ≤ 9223372036854775807) (h : RdR w B st) (he : st.e ≠ 0) :
    Calls Try.prog 27 #[.pointer (some ⟨B, 0, none⟩), .int .i64 most] w fun x w' => x = .returned (.string ByteArray.empty) ∧ w' = w := by
  obtain ⟨h0, h1, h2, f0, f1, f2⟩ := three_cells h.blk
  have H := Lib.hid h
  have hb : (st.e == 0) = false := by simpa using he
  have hb1 : (st.e != 0) = true := by simpa using he
  have HE := Lib.hid he
  clear h he
  go_enter Try.func27, Try.ntmps27
  go_wp2_with (go_at_call 50; refine (rwidth_flip _ _ hm).mono ?_; rintro e w' ⟨rfl, rfl⟩)
  refine (getR_flip B st _ _ H.out HE.out).mono ?_
  rintro e w2 ⟨rfl, rfl⟩
  go_wp2_with fail
  go_ret
  exact ⟨rfl, rfl⟩
end Go.Proofs.Ytgbhmcepokpcaaa
