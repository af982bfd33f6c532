/-
  No cell of these rows narrows 'for every input' (looked for: loops, veiled, ifaces, maps, wideKeys, modest, calm, conditions, laid).
  DERIVED. THE GIVEN ROWS OF THIS SEAT. 8 by the template 'for every input the law returns true; each argument reads behind the call as it read before'; 0 by the template 'total and deterministic' (their statements: YthkklnphchajdaaTotals.lean).
  GIVEN WITH THE SEED: the statements are not yours to turn. If you find one false, say at which input.
  Laid BY PROGRAM, IN A SANDBOX (cutbox-rows.mjs): the forced cells as the released guide's own fill.sh prints them over the translation 81220568a5a06152… (all of the seat's roots in one cut). By AI agents, Wed Nov 11 2026. No macro, syntax, notation, axiom, sorry.
-/
import Derived.Test.YthkklnphchajdaaChecked
import GoSem.Claim
import GoSem.ClaimJoined
import GoSem.ClaimMapViews
import Derived.JoinedTies
import Derived.KernelRfl
namespace Go.Proofs.Ythkklnphchajdaa
/- THE CELL 'sum', in the pinned program and in every row, IS THE sha256 OF THE DUMP (.gsa) THAT YthkklnphchajdaaProg.lean LOADS. Nothing in Lean hashes anything: it is a label: what it is worth is what the hold of that sum in a sandbox is worth. -/
noncomputable def Try.pinned : Pinned := { name := "ythkklnphchajdaa", sum := "81220568a5a06152bdb7f7d84f79b1443c30203a8af1541379820b0a2fe467ce", checked := Try.checked }
namespace Rows
def none {H : Type} : Left H := { results := [], args := [] }

/-- 'hopmeshlaw03.CrcSums': WHATEVER THE INPUT: true; the input reads as it did. -/
def crcSumsSpec : ChangeSpec := { name := "crcSums", fn := fun _ => fun
  | [d1, d2] => { results := [.lit (.bool true)], args := [d1, d2] }
  | _ => none }
def crcSumsRow : OpenClaim := { program := "ythkklnphchajdaa", sum := "81220568a5a06152bdb7f7d84f79b1443c30203a8af1541379820b0a2fe467ce", func := "hopmesh/hopmeshlaw03.CrcSums", spec := "crcSums", unfollowed := true, recurses := true, apart := false }
def CrcSumsSaid : Prop := crcSumsRow.holds Try.pinned (OpenSpec.ofChange crcSumsSpec)

/-- ITS FALSE NEIGHBOUR: 'it returns false'. Refute it at one input. -/
def crcSumsWrong : ChangeSpec := { name := "crcSums", fn := fun _ => fun
  | [d1, d2] => { results := [.lit (.bool false)], args := [d1, d2] }
  | _ => none }
def CrcSumsWrongFalsely : Prop := crcSumsRow.holds Try.pinned (OpenSpec.ofChange crcSumsWrong)

/-- 'hopmeshlaw03.CrcPolynomials': WHATEVER THE INPUT: true; the input reads as it did. -/
def crcPolynomialsSpec : ChangeSpec := { name := "crcPolynomials", fn := fun _ => fun
  | [d1, d2, d3] => { results := [.lit (.bool true)], args := [d1, d2, d3] }
  | _ => none }
def crcPolynomialsRow : OpenClaim := { program := "ythkklnphchajdaa", sum := "81220568a5a06152bdb7f7d84f79b1443c30203a8af1541379820b0a2fe467ce", func := "hopmesh/hopmeshlaw03.CrcPolynomials", spec := "crcPolynomials", unfollowed := true, recurses := true, apart := false }
def CrcPolynomialsSaid : Prop := crcPolynomialsRow.holds Try.pinned (OpenSpec.ofChange crcPolynomialsSpec)

/-- ITS FALSE NEIGHBOUR: 'it returns false'. Refute it at one input. -/
def crcPolynomialsWrong : ChangeSpec := { name := "crcPolynomials", fn := fun _ => fun
  | [d1, d2, d3] => { results := [.lit (.bool false)], args := [d1, d2, d3] }
  | _ => none }
def CrcPolynomialsWrongFalsely : Prop := crcPolynomialsRow.holds Try.pinned (OpenSpec.ofChange crcPolynomialsWrong)

/-- 'hopmeshlaw03.CrcField': WHATEVER THE INPUT: true; the input reads as it did. -/
def crcFieldSpec : ChangeSpec := { name := "crcField", fn := fun _ => fun
  | [d1, d2, d3] => { results := [.lit (.bool true)], args := [d1, d2, d3] }
  | _ => none }
def crcFieldRow : OpenClaim := { program := "ythkklnphchajdaa", sum := "81220568a5a06152bdb7f7d84f79b1443c30203a8af1541379820b0a2fe467ce", func := "hopmesh/hopmeshlaw03.CrcField", spec := "crcField", unfollowed := true, recurses := true, apart := false }
def CrcFieldSaid : Prop := crcFieldRow.holds Try.pinned (OpenSpec.ofChange crcFieldSpec)

/-- ITS FALSE NEIGHBOUR: 'it returns false'. Refute it at one input. -/
def crcFieldWrong : ChangeSpec := { name := "crcField", fn := fun _ => fun
  | [d1, d2, d3] => { results := [.lit (.bool false)], args := [d1, d2, d3] }
  | _ => none }
def CrcFieldWrongFalsely : Prop := crcFieldRow.holds Try.pinned (OpenSpec.ofChange crcFieldWrong)

/-- 'hopmeshlaw03.CrcLinear': WHATEVER THE INPUT: true; the input reads as it did. -/
def crcLinearSpec : ChangeSpec := { name := "crcLinear", fn := fun _ => fun
  | [d1, d2] => { results := [.lit (.bool true)], args := [d1, d2] }
  | _ => none }
def crcLinearRow : OpenClaim := { program := "ythkklnphchajdaa", sum := "81220568a5a06152bdb7f7d84f79b1443c30203a8af1541379820b0a2fe467ce", func := "hopmesh/hopmeshlaw03.CrcLinear", spec := "crcLinear", unfollowed := true, recurses := true, apart := false }
def CrcLinearSaid : Prop := crcLinearRow.holds Try.pinned (OpenSpec.ofChange crcLinearSpec)

/-- ITS FALSE NEIGHBOUR: 'it returns false'. Refute it at one input. -/
def crcLinearWrong : ChangeSpec := { name := "crcLinear", fn := fun _ => fun
  | [d1, d2] => { results := [.lit (.bool false)], args := [d1, d2] }
  | _ => none }
def CrcLinearWrongFalsely : Prop := crcLinearRow.holds Try.pinned (OpenSpec.ofChange crcLinearWrong)

/-- 'hopmeshlaw03.CrcJoins': WHATEVER THE INPUT: true; the input reads as it did. -/
def crcJoinsSpec : ChangeSpec := { name := "crcJoins", fn := fun _ => fun
  | [d1, d2] => { results := [.lit (.bool true)], args := [d1, d2] }
  | _ => none }
def crcJoinsRow : OpenClaim := { program := "ythkklnphchajdaa", sum := "81220568a5a06152bdb7f7d84f79b1443c30203a8af1541379820b0a2fe467ce", func := "hopmesh/hopmeshlaw03.CrcJoins", spec := "crcJoins", unfollowed := true, recurses := true, apart := false }
def CrcJoinsSaid : Prop := crcJoinsRow.holds Try.pinned (OpenSpec.ofChange crcJoinsSpec)

/-- ITS FALSE NEIGHBOUR: 'it returns false'. Refute it at one input. -/
def crcJoinsWrong : ChangeSpec := { name := "crcJoins", fn := fun _ => fun
  | [d1, d2] => { results := [.lit (.bool false)], args := [d1, d2] }
  | _ => none }
def CrcJoinsWrongFalsely : Prop := crcJoinsRow.holds Try.pinned (OpenSpec.ofChange crcJoinsWrong)

/-- 'hopmeshlaw03.CrcProtects': WHATEVER THE INPUT: true; the input reads as it did. -/
def crcProtectsSpec : ChangeSpec := { name := "crcProtects", fn := fun _ => fun
  | [d] => { results := [.lit (.bool true)], args := [d] }
  | _ => none }
def crcProtectsRow : OpenClaim := { program := "ythkklnphchajdaa", sum := "81220568a5a06152bdb7f7d84f79b1443c30203a8af1541379820b0a2fe467ce", func := "hopmesh/hopmeshlaw03.CrcProtects", spec := "crcProtects", unfollowed := true, recurses := true, apart := false }
def CrcProtectsSaid : Prop := crcProtectsRow.holds Try.pinned (OpenSpec.ofChange crcProtectsSpec)

/-- ITS FALSE NEIGHBOUR: 'it returns false'. Refute it at one input. -/
def crcProtectsWrong : ChangeSpec := { name := "crcProtects", fn := fun _ => fun
  | [d] => { results := [.lit (.bool false)], args := [d] }
  | _ => none }
def CrcProtectsWrongFalsely : Prop := crcProtectsRow.holds Try.pinned (OpenSpec.ofChange crcProtectsWrong)

/-- 'hopmeshlaw03.CrcFinds': WHATEVER THE INPUT: true; the input reads as it did. -/
def crcFindsSpec : ChangeSpec := { name := "crcFinds", fn := fun _ => fun
  | [d1, d2, d3] => { results := [.lit (.bool true)], args := [d1, d2, d3] }
  | _ => none }
def crcFindsRow : OpenClaim := { program := "ythkklnphchajdaa", sum := "81220568a5a06152bdb7f7d84f79b1443c30203a8af1541379820b0a2fe467ce", func := "hopmesh/hopmeshlaw03.CrcFinds", spec := "crcFinds", unfollowed := true, recurses := true, apart := false }
def CrcFindsSaid : Prop := crcFindsRow.holds Try.pinned (OpenSpec.ofChange crcFindsSpec)

/-- ITS FALSE NEIGHBOUR: 'it returns false'. Refute it at one input. -/
def crcFindsWrong : ChangeSpec := { name := "crcFinds", fn := fun _ => fun
  | [d1, d2, d3] => { results := [.lit (.bool false)], args := [d1, d2, d3] }
  | _ => none }
def CrcFindsWrongFalsely : Prop := crcFindsRow.holds Try.pinned (OpenSpec.ofChange crcFindsWrong)

/-- 'hopmeshlaw03.CrcLocates': WHATEVER THE INPUT: true; the input reads as it did. -/
def crcLocatesSpec : ChangeSpec := { name := "crcLocates", fn := fun _ => fun
  | [d1, d2, d3] => { results := [.lit (.bool true)], args := [d1, d2, d3] }
  | _ => none }
def crcLocatesRow : OpenClaim := { program := "ythkklnphchajdaa", sum := "81220568a5a06152bdb7f7d84f79b1443c30203a8af1541379820b0a2fe467ce", func := "hopmesh/hopmeshlaw03.CrcLocates", spec := "crcLocates", unfollowed := true, recurses := true, apart := false }
def CrcLocatesSaid : Prop := crcLocatesRow.holds Try.pinned (OpenSpec.ofChange crcLocatesSpec)

/-- ITS FALSE NEIGHBOUR: 'it returns false'. Refute it at one input. -/
def crcLocatesWrong : ChangeSpec := { name := "crcLocates", fn := fun _ => fun
  | [d1, d2, d3] => { results := [.lit (.bool false)], args := [d1, d2, d3] }
  | _ => none }
def CrcLocatesWrongFalsely : Prop := crcLocatesRow.holds Try.pinned (OpenSpec.ofChange crcLocatesWrong)

/- THE SECOND FORM. 'bulk': how many values and letters a reading holds, each counted each time it is reached (what is shared counts as often as it is met; a slice's spare places count too). A statement '..UptoSaid' is the law's where the arguments, and the package variables that the reading takes, are together of bulk at most 1048576: NARROWER than '..Said'. Prove '..Said' where nothing that the law and all that it calls make is longer than what came in: it says more and counts as full. Else prove '..UptoSaid'. A law counts once. -/
mutual
def uptoBulk {H : Type} : DataW H → Nat
  | .lit (.string bytes) => bytes.length + 1
  | .lit _ => 1
  | .nil => 1
  | .ptr d => uptoBulk d + 1
  | .slice elems spare => uptoBulkAll elems + uptoBulkAll spare + 1
  | .agg parts => uptoBulkAll parts + 1
  | .iface _ d => uptoBulk d + 1
  | .map entries => uptoBulkEntries entries + 1
  | .held _ => 1
def uptoBulkAll {H : Type} : List (DataW H) → Nat
  | [] => 0
  | d :: r => uptoBulk d + uptoBulkAll r
def uptoBulkEntries {H : Type} : List (Lit × DataW H) → Nat
  | [] => 0
  | x :: r => uptoBulkEntry x + uptoBulkEntries r
def uptoBulkEntry {H : Type} : Lit × DataW H → Nat
  | (.string bytes, d) => bytes.length + uptoBulk d + 1
  | (_, d) => uptoBulk d + 1
 end
def uptoSmall : (H : Type) → List (DataW H) → Bool := fun _ ds => decide (uptoBulkAll ds ≤ 1048576)
def OpenSpec.upto (s : _root_.Go.ChangeSpec) : _root_.Go.OpenSpec := { _root_.Go.OpenSpec.ofChange s with cond := some uptoSmall }

/-- 'hopmeshlaw03.CrcSums', WHERE WHAT IT READS IS OF BULK AT MOST 1048576: true; the input reads as it did. -/
def crcSumsUptoRow : OpenClaim := { program := "ythkklnphchajdaa", sum := "81220568a5a06152bdb7f7d84f79b1443c30203a8af1541379820b0a2fe467ce", func := "hopmesh/hopmeshlaw03.CrcSums", spec := "crcSums", unfollowed := true, recurses := true, apart := false, narrowed := true }
def CrcSumsUptoSaid : Prop := crcSumsUptoRow.holds Try.pinned (OpenSpec.upto crcSumsSpec)

/-- 'hopmeshlaw03.CrcPolynomials', WHERE WHAT IT READS IS OF BULK AT MOST 1048576: true; the input reads as it did. -/
def crcPolynomialsUptoRow : OpenClaim := { program := "ythkklnphchajdaa", sum := "81220568a5a06152bdb7f7d84f79b1443c30203a8af1541379820b0a2fe467ce", func := "hopmesh/hopmeshlaw03.CrcPolynomials", spec := "crcPolynomials", unfollowed := true, recurses := true, apart := false, narrowed := true }
def CrcPolynomialsUptoSaid : Prop := crcPolynomialsUptoRow.holds Try.pinned (OpenSpec.upto crcPolynomialsSpec)

/-- 'hopmeshlaw03.CrcField', WHERE WHAT IT READS IS OF BULK AT MOST 1048576: true; the input reads as it did. -/
def crcFieldUptoRow : OpenClaim := { program := "ythkklnphchajdaa", sum := "81220568a5a06152bdb7f7d84f79b1443c30203a8af1541379820b0a2fe467ce", func := "hopmesh/hopmeshlaw03.CrcField", spec := "crcField", unfollowed := true, recurses := true, apart := false, narrowed := true }
def CrcFieldUptoSaid : Prop := crcFieldUptoRow.holds Try.pinned (OpenSpec.upto crcFieldSpec)

/-- 'hopmeshlaw03.CrcLinear', WHERE WHAT IT READS IS OF BULK AT MOST 1048576: true; the input reads as it did. -/
def crcLinearUptoRow : OpenClaim := { program := "ythkklnphchajdaa", sum := "81220568a5a06152bdb7f7d84f79b1443c30203a8af1541379820b0a2fe467ce", func := "hopmesh/hopmeshlaw03.CrcLinear", spec := "crcLinear", unfollowed := true, recurses := true, apart := false, narrowed := true }
def CrcLinearUptoSaid : Prop := crcLinearUptoRow.holds Try.pinned (OpenSpec.upto crcLinearSpec)

/-- 'hopmeshlaw03.CrcJoins', WHERE WHAT IT READS IS OF BULK AT MOST 1048576: true; the input reads as it did. -/
def crcJoinsUptoRow : OpenClaim := { program := "ythkklnphchajdaa", sum := "81220568a5a06152bdb7f7d84f79b1443c30203a8af1541379820b0a2fe467ce", func := "hopmesh/hopmeshlaw03.CrcJoins", spec := "crcJoins", unfollowed := true, recurses := true, apart := false, narrowed := true }
def CrcJoinsUptoSaid : Prop := crcJoinsUptoRow.holds Try.pinned (OpenSpec.upto crcJoinsSpec)

/-- 'hopmeshlaw03.CrcProtects', WHERE WHAT IT READS IS OF BULK AT MOST 1048576: true; the input reads as it did. -/
def crcProtectsUptoRow : OpenClaim := { program := "ythkklnphchajdaa", sum := "81220568a5a06152bdb7f7d84f79b1443c30203a8af1541379820b0a2fe467ce", func := "hopmesh/hopmeshlaw03.CrcProtects", spec := "crcProtects", unfollowed := true, recurses := true, apart := false, narrowed := true }
def CrcProtectsUptoSaid : Prop := crcProtectsUptoRow.holds Try.pinned (OpenSpec.upto crcProtectsSpec)

/-- 'hopmeshlaw03.CrcFinds', WHERE WHAT IT READS IS OF BULK AT MOST 1048576: true; the input reads as it did. -/
def crcFindsUptoRow : OpenClaim := { program := "ythkklnphchajdaa", sum := "81220568a5a06152bdb7f7d84f79b1443c30203a8af1541379820b0a2fe467ce", func := "hopmesh/hopmeshlaw03.CrcFinds", spec := "crcFinds", unfollowed := true, recurses := true, apart := false, narrowed := true }
def CrcFindsUptoSaid : Prop := crcFindsUptoRow.holds Try.pinned (OpenSpec.upto crcFindsSpec)

/-- 'hopmeshlaw03.CrcLocates', WHERE WHAT IT READS IS OF BULK AT MOST 1048576: true; the input reads as it did. -/
def crcLocatesUptoRow : OpenClaim := { program := "ythkklnphchajdaa", sum := "81220568a5a06152bdb7f7d84f79b1443c30203a8af1541379820b0a2fe467ce", func := "hopmesh/hopmeshlaw03.CrcLocates", spec := "crcLocates", unfollowed := true, recurses := true, apart := false, narrowed := true }
def CrcLocatesUptoSaid : Prop := crcLocatesUptoRow.holds Try.pinned (OpenSpec.upto crcLocatesSpec)

end Rows
end Go.Proofs.Ythkklnphchajdaa
