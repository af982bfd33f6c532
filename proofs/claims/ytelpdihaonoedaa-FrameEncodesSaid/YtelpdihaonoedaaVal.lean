/- isValid and Check. -/
import Derived.Test.YtelpdihaonoedaaVaa
import Derived.Test.YtelpdihaonoedaaVab
import Derived.Test.YtelpdihaonoedaaVac
namespace Go.Proofs.Ytelpdihaonoedaa
open Go.RowKit
set_option linter.unusedVariables false
set_option maxRecDepth 20000

def okF (x : Frm) : Bool := inR x.k 1 4 && eqF x (nmF x) && adB x && inR x.l 0 255 && inR x.q 0 255 && inR x.f 0 255 && inR x.n 0 65535 && inR x.e (-32768) 32767 && inR x.sl 0 109951162 && inR x.r 0 65535 && inR x.ep 0 65535
theorem isValid_any (x : Frm) (w : World) : Calls Try.prog 30 #[.agg (frA x)] w fun e w' => e = .returned (.bool (okF x)) ∧ Fr no w w' := by
  have K0 := fun w => within_any x.k 1 4 w
  have K1 := fun w => named_any x w
  have E1 := fun w => eql_frame x (nmF x) w
  have K2 := fun w => isAddressed_any x w
  have K3 := fun w => isByte_any x.l w
  have K4 := fun w => isByte_any x.q w
  have K5 := fun w => isByte_any x.f w
  have K6 := fun w => isWord_any x.n w
  have K7 := fun w => isError_any x.e w
  have K8 := fun w => within_any x.sl 0 109951162 w
  have K9 := fun w => isWord_any x.r w
  have K10 := fun w => isWord_any x.ep w
  have HO : okF x = (inR x.k 1 4 && eqF x (nmF x) && adB x && inR x.l 0 255 && inR x.q 0 255 && inR x.f 0 255 && inR x.n 0 65535 && inR x.e (-32768) 32767 && inR x.sl 0 109951162 && inR x.r 0 65535 && inR x.ep 0 65535) := rfl
  rw [HO]
  clear HO
  generalize inR x.k 1 4 = b0 at *
  generalize eqF x (nmF x) = b1 at *
  generalize adB x = b2 at *
  generalize inR x.l 0 255 = b3 at *
  generalize inR x.q 0 255 = b4 at *
  generalize inR x.f 0 255 = b5 at *
  generalize inR x.n 0 65535 = b6 at *
  generalize inR x.e (-32768) 32767 = b7 at *
  generalize inR x.sl 0 109951162 = b8 at *
  generalize inR x.r 0 65535 = b9 at *
  generalize inR x.ep 0 65535 = b10 at *
  generalize nmF x = y at *
  obtain ⟨k, s, t, l, q, f, n, e, sl, r, ep, d⟩ := x
  obtain ⟨k1, s1, t1, l1, q1, f1, n1, e1, sl1, r1, ep1, d1⟩ := y
  cases b0
  · exact valid_0 k s t l q f n e sl r ep d w (Lib.hid K0)
  cases b1
  · exact valid_1 k s t l q f n e sl r ep k1 s1 t1 l1 q1 f1 n1 e1 sl1 r1 ep1 d d1 w (Lib.hid K0) (Lib.hid K1) E1
  cases b2
  · exact valid_2 k s t l q f n e sl r ep k1 s1 t1 l1 q1 f1 n1 e1 sl1 r1 ep1 d d1 w (Lib.hid K0) (Lib.hid K1) E1 (Lib.hid K2)
  cases b3
  · exact valid_3 k s t l q f n e sl r ep k1 s1 t1 l1 q1 f1 n1 e1 sl1 r1 ep1 d d1 w (Lib.hid K0) (Lib.hid K1) E1 (Lib.hid K2) (Lib.hid K3)
  cases b4
  · exact valid_4 k s t l q f n e sl r ep k1 s1 t1 l1 q1 f1 n1 e1 sl1 r1 ep1 d d1 w (Lib.hid K0) (Lib.hid K1) E1 (Lib.hid K2) (Lib.hid K3) (Lib.hid K4)
  cases b5
  · exact valid_5 k s t l q f n e sl r ep k1 s1 t1 l1 q1 f1 n1 e1 sl1 r1 ep1 d d1 w (Lib.hid K0) (Lib.hid K1) E1 (Lib.hid K2) (Lib.hid K3) (Lib.hid K4) (Lib.hid K5)
  cases b6
  · exact valid_6 k s t l q f n e sl r ep k1 s1 t1 l1 q1 f1 n1 e1 sl1 r1 ep1 d d1 w (Lib.hid K0) (Lib.hid K1) E1 (Lib.hid K2) (Lib.hid K3) (Lib.hid K4) (Lib.hid K5) (Lib.hid K6)
  cases b7
  · exact valid_7 k s t l q f n e sl r ep k1 s1 t1 l1 q1 f1 n1 e1 sl1 r1 ep1 d d1 w (Lib.hid K0) (Lib.hid K1) E1 (Lib.hid K2) (Lib.hid K3) (Lib.hid K4) (Lib.hid K5) (Lib.hid K6) (Lib.hid K7)
  cases b8
  · exact valid_8 k s t l q f n e sl r ep k1 s1 t1 l1 q1 f1 n1 e1 sl1 r1 ep1 d d1 w (Lib.hid K0) (Lib.hid K1) E1 (Lib.hid K2) (Lib.hid K3) (Lib.hid K4) (Lib.hid K5) (Lib.hid K6) (Lib.hid K7) (Lib.hid K8)
  cases b9
  · exact valid_9 k s t l q f n e sl r ep k1 s1 t1 l1 q1 f1 n1 e1 sl1 r1 ep1 d d1 w (Lib.hid K0) (Lib.hid K1) E1 (Lib.hid K2) (Lib.hid K3) (Lib.hid K4) (Lib.hid K5) (Lib.hid K6) (Lib.hid K7) (Lib.hid K8) (Lib.hid K9)
  cases b10
  · exact valid_10 k s t l q f n e sl r ep k1 s1 t1 l1 q1 f1 n1 e1 sl1 r1 ep1 d d1 w (Lib.hid K0) (Lib.hid K1) E1 (Lib.hid K2) (Lib.hid K3) (Lib.hid K4) (Lib.hid K5) (Lib.hid K6) (Lib.hid K7) (Lib.hid K8) (Lib.hid K9) (Lib.hid K10)
  · exact valid_t k s t l q f n e sl r ep k1 s1 t1 l1 q1 f1 n1 e1 sl1 r1 ep1 d d1 w (Lib.hid K0) (Lib.hid K1) E1 (Lib.hid K2) (Lib.hid K3) (Lib.hid K4) (Lib.hid K5) (Lib.hid K6) (Lib.hid K7) (Lib.hid K8) (Lib.hid K9) (Lib.hid K10)
theorem check_frame (x : Frm) (w : World) : Calls Try.prog 18 #[.agg (frA x)] w fun e w' => e = .returned (.int .i64 (if okF x then 0 else 1)) ∧ Fr no w w' := by
  have HV := Lib.hid (fun w => isValid_any x w)
  have HF := Lib.hid (Fr.refl no w)
  generalize okF x = b at *
  obtain ⟨k, s, t, l, q, f, n, e, sl, r, ep, d⟩ := x
  simp only [frA] at HV ⊢
  cases b
  · go_enter Try.func18, Try.ntmps18
    go_wp2_with fail
    refine (HV.out _).mono ?_
    rintro e w' ⟨rfl, f1⟩
    have HF2 := Lib.hid ((HF.out.alloc _).noTrans f1)
    clear f1
    go_wp2_with fail
    go_ret
    exact ⟨rfl, HF2.out⟩
  · go_enter Try.func18, Try.ntmps18
    go_wp2_with fail
    refine (HV.out _).mono ?_
    rintro e w' ⟨rfl, f1⟩
    have HF2 := Lib.hid ((HF.out.alloc _).noTrans f1)
    clear f1
    go_wp2_with fail
    go_ret
    exact ⟨rfl, HF2.out⟩
end Go.Proofs.Ytelpdihaonoedaa
