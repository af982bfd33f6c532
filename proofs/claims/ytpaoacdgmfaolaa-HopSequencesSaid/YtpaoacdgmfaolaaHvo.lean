/- Lists of lists that came in. -/
import Derived.Test.YtpaoacdgmfaolaaOpn
import Derived.Test.YtpaoacdgmfaolaaLw7
namespace Go.Proofs.Ytpaoacdgmfaolaa
set_option linter.unusedVariables false
open Go.RowKit


def hv (h : Hl) : Hv := ⟨h.v, h.f, h.u, h.chs⟩
theorem hvs_of {w : World} {ao : Option Addr} {len : Nat} {ls : List Hl} (h : HlsIn w ao len ls) : HvsIn w ao len (ls.map hv) := ⟨by simp [h.1], fun i hi => by
  obtain ⟨b, off, ha, hI, hk, h0, h1, h2, h3⟩ := h.2 i hi
  have hl : i < ls.length := by rw [h.1]; exact hi
  have e : hvAt (ls.map hv) i = hv (hlAt ls i) := by simp [hvAt, hlAt, List.getD_eq_getElem?_getD, List.getElem?_eq_getElem hl]
  rw [e]
  exact ⟨b, off, _, _, ha, hI, hk, h0, h1, h2, h3⟩⟩

end Go.Proofs.Ytpaoacdgmfaolaa
