/- The document's step. -/
import Derived.Test.YtmkmefcafpgphaaSth
import Derived.Test.YtmkmefcafpgphaaSta
namespace Go.Proofs.Ytmkmefcafpgphaa
set_option linter.unusedVariables false
open Go.RowKit


theorem stepR_any (a0 : Option Addr) (l0 k0 : Nat) (a1 : Option Addr) (l1 k1 : Nat) (L : List Sy) (zs : List Int) (x : Sn) (w : World) (hs : SysIn w a0 l0 L) (hz : IntsIn w a1 l1 zs) (hT : Tree zs) (h01 : l1 = l0) :
    Calls Try.prog 56 #[.slice a0 l0 k0, .slice a1 l1 k1, .agg #[.int .i64 x.n, .int .i64 x.s, .bool x.a]] w (fun e w' => StpR w w' zs L x e) := by
  obtain ⟨xn, xs, xa⟩ := x
  have hl := hs.1
  have hzl := hz.1
  cases hin : inR xn 1 ((l0 : Int) - 1)
  · exact stepR_out a0 l0 k0 a1 l1 k1 L zs xn xs xa w hl hin
  · obtain ⟨i1, i2⟩ := inR_t.1 hin
    obtain ⟨m, rfl⟩ : ∃ m : Nat, xn = (m : Int) := ⟨xn.toNat, by omega⟩
    have hm1 : 1 ≤ m := by omega
    have hm2 : m < l0 := by omega
    obtain ⟨p0, p1⟩ := (hpB_t hT.1).2.2 m hm1 (by omega)
    obtain ⟨q, hq⟩ : ∃ q : Nat, zs.getD m 0 = (q : Int) := ⟨(zs.getD m 0).toNat, by omega⟩
    have hq2 : q < l0 := by omega
    obtain ⟨b, off, rfl, -, hc⟩ := sys_at hs (by omega)
    obtain ⟨b1, off1, rfl, -, hzc⟩ := slice_1 hz (by omega)
    obtain ⟨u0, u1, u2, u3⟩ := hc m hm2
    obtain ⟨v0, v1, v2, v3⟩ := hc q hq2
    have zc := hzc m (by omega)
    rw [hq] at zc
    have e1 : ((m : Nat) : Int).toNat = m := by omega
    have e2 : ((q : Nat) : Int).toNat = q := by omega
    cases xa
    · refine stepR_hear b off k0 b1 off1 l0 l1 k1 m q (syAt L m).o (syAt L m).d (syAt L m).s (syAt L m).c (syAt L q).o (syAt L q).d (syAt L q).s (syAt L q).c L zs xs w hm1 hm2 (by omega) hq2 u0 u1 u2 u3 v0 v1 v2 v3 zc ?_ ?_
      · simp only [stE, hl, hin, if_true, e1, hq, e2]
        rfl
      · simp only [e1, hq, e2]
        rfl
    · refine stepR_ack b off k0 b1 off1 l0 l1 k1 m q (syAt L m).o (syAt L m).d (syAt L m).s (syAt L m).c (syAt L q).o (syAt L q).d (syAt L q).s (syAt L q).c L zs xs w hm1 hm2 (by omega) hq2 u0 u1 u2 u3 v0 v1 v2 v3 zc ?_ ?_
      · simp only [stE, hl, hin, if_true, e1, hq, e2]
        rfl
      · simp only [e1, hq, e2]
        rfl

end Go.Proofs.Ytmkmefcafpgphaa
