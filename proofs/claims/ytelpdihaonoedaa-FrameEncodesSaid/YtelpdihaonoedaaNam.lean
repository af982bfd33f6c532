/- named. -/
import Derived.Test.YtelpdihaonoedaaFrm
import Derived.Deep.RegionLaw
namespace Go.Proofs.Ytelpdihaonoedaa
open Go.RowKit
set_option linter.unusedVariables false
set_option maxRecDepth 20000

/-- The fields alone that are named for a kind. -/
def nmF (x : Frm) : Frm :=
  if x.k = 1 then ⟨x.k, x.s, x.t, x.l, x.q, x.f, x.n, 0, 0, 0, 0, x.d⟩
  else if x.k = 2 then ⟨x.k, x.s, x.t, x.l, x.q, 0, 0, x.e, 0, 0, 0, ⟨#[]⟩⟩
  else if x.k = 3 then ⟨x.k, x.s, x.t, x.l, x.q, 0, 0, 0, x.sl, x.r, x.ep, x.d⟩
  else ⟨x.k, x.s, x.t, x.l, x.q, 0, 0, 0, 0, 0, 0, x.d⟩
set_option maxHeartbeats 2000000 in
theorem named_1 (s t l q f n e sl r ep : Int) (d : ByteArray) (w : World) :
    Calls Try.prog 67 #[.agg #[.int .i64 1, .int .i64 s, .int .i64 t, .int .i64 l, .int .i64 q, .int .i64 f, .int .i64 n, .int .i64 e, .int .i64 sl, .int .i64 r, .int .i64 ep, .string d]] w fun x w' => x = .returned (.agg #[.int .i64 1, .int .i64 s, .int .i64 t, .int .i64 l, .int .i64 q, .int .i64 f, .int .i64 n, .int .i64 0, .int .i64 0, .int .i64 0, .int .i64 0, .string d]) ∧ Fr no w w' := by
  have HF := Lib.hid (Fr.refl no w)
  go_enter Try.func67, Try.ntmps67
  go_wp2_with fail
  go_region
  all_goals go_wp2_with fail
  refine bodyPost_ret (v := .agg #[.int .i64 1, .int .i64 s, .int .i64 t, .int .i64 l, .int .i64 q, .int .i64 f, .int .i64 n, .int .i64 0, .int .i64 0, .int .i64 0, .int .i64 0, .string d]) (by simp [results, Try.results67, go_sem]) rfl ⟨rfl, ?_⟩
  first | exact (((HF.out.alloc _).alloc _).alloc _).drew | exact ((HF.out.alloc _).alloc _).alloc _
set_option maxHeartbeats 2000000 in
theorem named_2 (s t l q f n e sl r ep : Int) (d : ByteArray) (w : World) :
    Calls Try.prog 67 #[.agg #[.int .i64 2, .int .i64 s, .int .i64 t, .int .i64 l, .int .i64 q, .int .i64 f, .int .i64 n, .int .i64 e, .int .i64 sl, .int .i64 r, .int .i64 ep, .string d]] w fun x w' => x = .returned (.agg #[.int .i64 2, .int .i64 s, .int .i64 t, .int .i64 l, .int .i64 q, .int .i64 0, .int .i64 0, .int .i64 e, .int .i64 0, .int .i64 0, .int .i64 0, .string ⟨#[]⟩]) ∧ Fr no w w' := by
  have HF := Lib.hid (Fr.refl no w)
  go_enter Try.func67, Try.ntmps67
  go_wp2_with fail
  refine bodyPost_ret (v := .agg #[.int .i64 2, .int .i64 s, .int .i64 t, .int .i64 l, .int .i64 q, .int .i64 0, .int .i64 0, .int .i64 e, .int .i64 0, .int .i64 0, .int .i64 0, .string ⟨#[]⟩]) (by simp [results, Try.results67, go_sem]) rfl ⟨rfl, ?_⟩
  first | exact (((HF.out.alloc _).alloc _).alloc _).drew | exact ((HF.out.alloc _).alloc _).alloc _
set_option maxHeartbeats 2000000 in
theorem named_3 (s t l q f n e sl r ep : Int) (d : ByteArray) (w : World) :
    Calls Try.prog 67 #[.agg #[.int .i64 3, .int .i64 s, .int .i64 t, .int .i64 l, .int .i64 q, .int .i64 f, .int .i64 n, .int .i64 e, .int .i64 sl, .int .i64 r, .int .i64 ep, .string d]] w fun x w' => x = .returned (.agg #[.int .i64 3, .int .i64 s, .int .i64 t, .int .i64 l, .int .i64 q, .int .i64 0, .int .i64 0, .int .i64 0, .int .i64 sl, .int .i64 r, .int .i64 ep, .string d]) ∧ Fr no w w' := by
  have HF := Lib.hid (Fr.refl no w)
  go_enter Try.func67, Try.ntmps67
  go_wp2_with fail
  go_region
  all_goals go_wp2_with fail
  refine bodyPost_ret (v := .agg #[.int .i64 3, .int .i64 s, .int .i64 t, .int .i64 l, .int .i64 q, .int .i64 0, .int .i64 0, .int .i64 0, .int .i64 sl, .int .i64 r, .int .i64 ep, .string d]) (by simp [results, Try.results67, go_sem]) rfl ⟨rfl, ?_⟩
  first | exact (((HF.out.alloc _).alloc _).alloc _).drew | exact ((HF.out.alloc _).alloc _).alloc _
set_option maxHeartbeats 2000000 in
theorem named_0 (k s t l q f n e sl r ep : Int) (d : ByteArray) (w : World) (h1 : (k == 1) = false) (h2 : (k == 2) = false) (h3 : (k == 3) = false) :
    Calls Try.prog 67 #[.agg #[.int .i64 k, .int .i64 s, .int .i64 t, .int .i64 l, .int .i64 q, .int .i64 f, .int .i64 n, .int .i64 e, .int .i64 sl, .int .i64 r, .int .i64 ep, .string d]] w fun x w' => x = .returned (.agg #[.int .i64 k, .int .i64 s, .int .i64 t, .int .i64 l, .int .i64 q, .int .i64 0, .int .i64 0, .int .i64 0, .int .i64 0, .int .i64 0, .int .i64 0, .string d]) ∧ Fr no w w' := by
  have HF := Lib.hid (Fr.refl no w)
  go_enter Try.func67, Try.ntmps67
  go_wp2_with fail
  refine bodyPost_ret (v := .agg #[.int .i64 k, .int .i64 s, .int .i64 t, .int .i64 l, .int .i64 q, .int .i64 0, .int .i64 0, .int .i64 0, .int .i64 0, .int .i64 0, .int .i64 0, .string d]) (by simp [results, Try.results67, go_sem]) rfl ⟨rfl, ?_⟩
  first | exact (((HF.out.alloc _).alloc _).alloc _).drew | exact ((HF.out.alloc _).alloc _).alloc _
theorem named_any (x : Frm) (w : World) : Calls Try.prog 67 #[.agg (frA x)] w fun e w' => e = .returned (.agg (frA (nmF x))) ∧ Fr no w w' := by
  obtain ⟨k, s, t, l, q, f, n, e, sl, r, ep, d⟩ := x
  by_cases h1 : k = 1
  · subst h1; exact named_1 s t l q f n e sl r ep d w
  by_cases h2 : k = 2
  · subst h2; exact named_2 s t l q f n e sl r ep d w
  by_cases h3 : k = 3
  · subst h3; exact named_3 s t l q f n e sl r ep d w
  have h : nmF ⟨k, s, t, l, q, f, n, e, sl, r, ep, d⟩ = ⟨k, s, t, l, q, 0, 0, 0, 0, 0, 0, d⟩ := by simp [nmF, h1, h2, h3]
  rw [h]
  exact named_0 k s t l q f n e sl r ep d w (by simpa using h1) (by simpa using h2) (by simpa using h3)
/-- Source and target. -/
def adB (x : Frm) : Bool := inR x.s 0 31 && (if x.t = -1 then x.k == 3 || x.k == 4 else x.k != 3 && (inR x.t 0 31 && x.t != x.s))
set_option maxHeartbeats 4000000 in
theorem isAddressed_any (x : Frm) (w : World) : Calls Try.prog 68 #[.agg (frA x)] w fun e w' => e = .returned (.bool (adB x)) ∧ Fr no w w' := by
  obtain ⟨k, s, t, l, q, f, n, e, sl, r, ep, d⟩ := x
  have HF := Lib.hid (Fr.refl no w)
  have HB := Lib.hid (show adB ⟨k, s, t, l, q, f, n, e, sl, r, ep, d⟩ = (inR s 0 31 && (if t = -1 then k == 3 || k == 4 else k != 3 && (inR t 0 31 && t != s))) from rfl)
  simp only [frA]
  go_enter Try.func68, Try.ntmps68
  go_wp2_with (first | (go_at_call_of 58 s; refine (isNode_any s _).mono ?_; rintro e w' ⟨rfl, rfl⟩) | (go_at_call_of 58 t; refine (isNode_any t _).mono ?_; rintro e w' ⟨rfl, rfl⟩))
  all_goals go_ret
  all_goals rw [HB.out]
  all_goals exact ⟨by first | (simp [*]; done) | (simp_all; done), HF.out.alloc _⟩
end Go.Proofs.Ytelpdihaonoedaa
