/-
  No cell of these rows narrows 'for every input' (looked for: loops, veiled, ifaces, maps, wideKeys, modest, calm, conditions, laid).
  DERIVED. THE GIVEN ROWS OF THIS SEAT. 8 by the template 'for every input the law returns true; each argument reads behind the call as it read before'; 0 by the template 'total and deterministic' (their statements: YtgddmmlkpajpmaaTotals.lean).
  GIVEN WITH THE SEED: the statements are not yours to turn. If you find one false, say at which input.
  Laid BY PROGRAM, IN A SANDBOX (cutbox-rows.mjs): the forced cells as the released guide's own fill.sh prints them over the translation 9ccc00a591b7ebd8… (all of the seat's roots in one cut). By AI agents, Wed Nov 11 2026. No macro, syntax, notation, axiom, sorry.
-/
import Derived.Test.YtgddmmlkpajpmaaChecked
import GoSem.Claim
import GoSem.ClaimJoined
import GoSem.ClaimMapViews
import Derived.JoinedTies
import Derived.KernelRfl
namespace Go.Proofs.Ytgddmmlkpajpmaa
/- THE CELL 'sum', in the pinned program and in every row, IS THE sha256 OF THE DUMP (.gsa) THAT YtgddmmlkpajpmaaProg.lean LOADS. Nothing in Lean hashes anything: it is a label: what it is worth is what the hold of that sum in a sandbox is worth. -/
noncomputable def Try.pinned : Pinned := { name := "ytgddmmlkpajpmaa", sum := "9ccc00a591b7ebd8a3b721ee5b45e44366cc87e0af822c4b46939d76e5adfd74", checked := Try.checked }
namespace Rows
def none {H : Type} : Left H := { results := [], args := [] }

/-- 'hopmeshlaw09.GuardNumbers': WHATEVER THE INPUT: true; the input reads as it did. -/
def guardNumbersSpec : ChangeSpec := { name := "guardNumbers", fn := fun _ => fun
  | [d1, d2, d3] => { results := [.lit (.bool true)], args := [d1, d2, d3] }
  | _ => none }
def guardNumbersRow : OpenClaim := { program := "ytgddmmlkpajpmaa", sum := "9ccc00a591b7ebd8a3b721ee5b45e44366cc87e0af822c4b46939d76e5adfd74", func := "hopmesh/hopmeshlaw09.GuardNumbers", spec := "guardNumbers", unfollowed := true, recurses := true, apart := false }
def GuardNumbersSaid : Prop := guardNumbersRow.holds Try.pinned (OpenSpec.ofChange guardNumbersSpec)

/-- ITS FALSE NEIGHBOUR: 'it returns false'. Refute it at one input. -/
def guardNumbersWrong : ChangeSpec := { name := "guardNumbers", fn := fun _ => fun
  | [d1, d2, d3] => { results := [.lit (.bool false)], args := [d1, d2, d3] }
  | _ => none }
def GuardNumbersWrongFalsely : Prop := guardNumbersRow.holds Try.pinned (OpenSpec.ofChange guardNumbersWrong)

/-- 'hopmeshlaw09.GuardFrames': WHATEVER THE INPUT: true; the input reads as it did. -/
def guardFramesSpec : ChangeSpec := { name := "guardFrames", fn := fun _ => fun
  | [d1, d2, d3] => { results := [.lit (.bool true)], args := [d1, d2, d3] }
  | _ => none }
def guardFramesRow : OpenClaim := { program := "ytgddmmlkpajpmaa", sum := "9ccc00a591b7ebd8a3b721ee5b45e44366cc87e0af822c4b46939d76e5adfd74", func := "hopmesh/hopmeshlaw09.GuardFrames", spec := "guardFrames", unfollowed := true, recurses := true, apart := false }
def GuardFramesSaid : Prop := guardFramesRow.holds Try.pinned (OpenSpec.ofChange guardFramesSpec)

/-- ITS FALSE NEIGHBOUR: 'it returns false'. Refute it at one input. -/
def guardFramesWrong : ChangeSpec := { name := "guardFrames", fn := fun _ => fun
  | [d1, d2, d3] => { results := [.lit (.bool false)], args := [d1, d2, d3] }
  | _ => none }
def GuardFramesWrongFalsely : Prop := guardFramesRow.holds Try.pinned (OpenSpec.ofChange guardFramesWrong)

/-- 'hopmeshlaw09.GuardGrows': WHATEVER THE INPUT: true; the input reads as it did. -/
def guardGrowsSpec : ChangeSpec := { name := "guardGrows", fn := fun _ => fun
  | [d1, d2, d3] => { results := [.lit (.bool true)], args := [d1, d2, d3] }
  | _ => none }
def guardGrowsRow : OpenClaim := { program := "ytgddmmlkpajpmaa", sum := "9ccc00a591b7ebd8a3b721ee5b45e44366cc87e0af822c4b46939d76e5adfd74", func := "hopmesh/hopmeshlaw09.GuardGrows", spec := "guardGrows", unfollowed := true, recurses := true, apart := false }
def GuardGrowsSaid : Prop := guardGrowsRow.holds Try.pinned (OpenSpec.ofChange guardGrowsSpec)

/-- ITS FALSE NEIGHBOUR: 'it returns false'. Refute it at one input. -/
def guardGrowsWrong : ChangeSpec := { name := "guardGrows", fn := fun _ => fun
  | [d1, d2, d3] => { results := [.lit (.bool false)], args := [d1, d2, d3] }
  | _ => none }
def GuardGrowsWrongFalsely : Prop := guardGrowsRow.holds Try.pinned (OpenSpec.ofChange guardGrowsWrong)

/-- 'hopmeshlaw09.GuardLasts': WHATEVER THE INPUT: true; the input reads as it did. -/
def guardLastsSpec : ChangeSpec := { name := "guardLasts", fn := fun _ => fun
  | [d1, d2] => { results := [.lit (.bool true)], args := [d1, d2] }
  | _ => none }
def guardLastsRow : OpenClaim := { program := "ytgddmmlkpajpmaa", sum := "9ccc00a591b7ebd8a3b721ee5b45e44366cc87e0af822c4b46939d76e5adfd74", func := "hopmesh/hopmeshlaw09.GuardLasts", spec := "guardLasts", unfollowed := true, recurses := true, apart := false }
def GuardLastsSaid : Prop := guardLastsRow.holds Try.pinned (OpenSpec.ofChange guardLastsSpec)

/-- ITS FALSE NEIGHBOUR: 'it returns false'. Refute it at one input. -/
def guardLastsWrong : ChangeSpec := { name := "guardLasts", fn := fun _ => fun
  | [d1, d2] => { results := [.lit (.bool false)], args := [d1, d2] }
  | _ => none }
def GuardLastsWrongFalsely : Prop := guardLastsRow.holds Try.pinned (OpenSpec.ofChange guardLastsWrong)

/-- 'hopmeshlaw09.GuardFits': WHATEVER THE INPUT: true; the input reads as it did. -/
def guardFitsSpec : ChangeSpec := { name := "guardFits", fn := fun _ => fun
  | [d1, d2, d3] => { results := [.lit (.bool true)], args := [d1, d2, d3] }
  | _ => none }
def guardFitsRow : OpenClaim := { program := "ytgddmmlkpajpmaa", sum := "9ccc00a591b7ebd8a3b721ee5b45e44366cc87e0af822c4b46939d76e5adfd74", func := "hopmesh/hopmeshlaw09.GuardFits", spec := "guardFits", unfollowed := true, recurses := true, apart := false }
def GuardFitsSaid : Prop := guardFitsRow.holds Try.pinned (OpenSpec.ofChange guardFitsSpec)

/-- ITS FALSE NEIGHBOUR: 'it returns false'. Refute it at one input. -/
def guardFitsWrong : ChangeSpec := { name := "guardFits", fn := fun _ => fun
  | [d1, d2, d3] => { results := [.lit (.bool false)], args := [d1, d2, d3] }
  | _ => none }
def GuardFitsWrongFalsely : Prop := guardFitsRow.holds Try.pinned (OpenSpec.ofChange guardFitsWrong)

/-- 'hopmeshlaw09.GuardSlots': WHATEVER THE INPUT: true; the input reads as it did. -/
def guardSlotsSpec : ChangeSpec := { name := "guardSlots", fn := fun _ => fun
  | [d1, d2, d3] => { results := [.lit (.bool true)], args := [d1, d2, d3] }
  | _ => none }
def guardSlotsRow : OpenClaim := { program := "ytgddmmlkpajpmaa", sum := "9ccc00a591b7ebd8a3b721ee5b45e44366cc87e0af822c4b46939d76e5adfd74", func := "hopmesh/hopmeshlaw09.GuardSlots", spec := "guardSlots", unfollowed := true, recurses := true, apart := false }
def GuardSlotsSaid : Prop := guardSlotsRow.holds Try.pinned (OpenSpec.ofChange guardSlotsSpec)

/-- ITS FALSE NEIGHBOUR: 'it returns false'. Refute it at one input. -/
def guardSlotsWrong : ChangeSpec := { name := "guardSlots", fn := fun _ => fun
  | [d1, d2, d3] => { results := [.lit (.bool false)], args := [d1, d2, d3] }
  | _ => none }
def GuardSlotsWrongFalsely : Prop := guardSlotsRow.holds Try.pinned (OpenSpec.ofChange guardSlotsWrong)

/-- 'hopmeshlaw09.GuardApart': WHATEVER THE INPUT: true; the input reads as it did. -/
def guardApartSpec : ChangeSpec := { name := "guardApart", fn := fun _ => fun
  | [d1, d2, d3] => { results := [.lit (.bool true)], args := [d1, d2, d3] }
  | _ => none }
def guardApartRow : OpenClaim := { program := "ytgddmmlkpajpmaa", sum := "9ccc00a591b7ebd8a3b721ee5b45e44366cc87e0af822c4b46939d76e5adfd74", func := "hopmesh/hopmeshlaw09.GuardApart", spec := "guardApart", unfollowed := true, recurses := true, apart := false }
def GuardApartSaid : Prop := guardApartRow.holds Try.pinned (OpenSpec.ofChange guardApartSpec)

/-- ITS FALSE NEIGHBOUR: 'it returns false'. Refute it at one input. -/
def guardApartWrong : ChangeSpec := { name := "guardApart", fn := fun _ => fun
  | [d1, d2, d3] => { results := [.lit (.bool false)], args := [d1, d2, d3] }
  | _ => none }
def GuardApartWrongFalsely : Prop := guardApartRow.holds Try.pinned (OpenSpec.ofChange guardApartWrong)

/-- 'hopmeshlaw09.GuardMonotone': WHATEVER THE INPUT: true; the input reads as it did. -/
def guardMonotoneSpec : ChangeSpec := { name := "guardMonotone", fn := fun _ => fun
  | [d1, d2] => { results := [.lit (.bool true)], args := [d1, d2] }
  | _ => none }
def guardMonotoneRow : OpenClaim := { program := "ytgddmmlkpajpmaa", sum := "9ccc00a591b7ebd8a3b721ee5b45e44366cc87e0af822c4b46939d76e5adfd74", func := "hopmesh/hopmeshlaw09.GuardMonotone", spec := "guardMonotone", unfollowed := true, recurses := true, apart := false }
def GuardMonotoneSaid : Prop := guardMonotoneRow.holds Try.pinned (OpenSpec.ofChange guardMonotoneSpec)

/-- ITS FALSE NEIGHBOUR: 'it returns false'. Refute it at one input. -/
def guardMonotoneWrong : ChangeSpec := { name := "guardMonotone", fn := fun _ => fun
  | [d1, d2] => { results := [.lit (.bool false)], args := [d1, d2] }
  | _ => none }
def GuardMonotoneWrongFalsely : Prop := guardMonotoneRow.holds Try.pinned (OpenSpec.ofChange guardMonotoneWrong)

/- THE SECOND FORM. 'bulk': how many values and letters a reading holds, each counted each time it is reached (what is shared counts as often as it is met; a slice's spare places count too). A statement '..UptoSaid' is the law's where the arguments, and the package variables that the reading takes, are together of bulk at most 1048576: NARROWER than '..Said'. Prove '..Said' where nothing that the law and all that it calls make is longer than what came in: it says more and counts as full. Else prove '..UptoSaid'. A law counts once. -/
mutual
def uptoBulk {H : Type} : DataW H → Nat
  | .lit (.string bytes) => bytes.length + 1
  | .lit _ => 1
  | .nil => 1
  | .ptr d => uptoBulk d + 1
  | .slice elems spare => uptoBulkAll elems + uptoBulkAll spare + 1
  | .agg parts => uptoBulkAll parts + 1
  | .iface _ d => uptoBulk d + 1
  | .map entries => uptoBulkEntries entries + 1
  | .held _ => 1
def uptoBulkAll {H : Type} : List (DataW H) → Nat
  | [] => 0
  | d :: r => uptoBulk d + uptoBulkAll r
def uptoBulkEntries {H : Type} : List (Lit × DataW H) → Nat
  | [] => 0
  | x :: r => uptoBulkEntry x + uptoBulkEntries r
def uptoBulkEntry {H : Type} : Lit × DataW H → Nat
  | (.string bytes, d) => bytes.length + uptoBulk d + 1
  | (_, d) => uptoBulk d + 1
 end
def uptoSmall : (H : Type) → List (DataW H) → Bool := fun _ ds => decide (uptoBulkAll ds ≤ 1048576)
def OpenSpec.upto (s : _root_.Go.ChangeSpec) : _root_.Go.OpenSpec := { _root_.Go.OpenSpec.ofChange s with cond := some uptoSmall }

/-- 'hopmeshlaw09.GuardNumbers', WHERE WHAT IT READS IS OF BULK AT MOST 1048576: true; the input reads as it did. -/
def guardNumbersUptoRow : OpenClaim := { program := "ytgddmmlkpajpmaa", sum := "9ccc00a591b7ebd8a3b721ee5b45e44366cc87e0af822c4b46939d76e5adfd74", func := "hopmesh/hopmeshlaw09.GuardNumbers", spec := "guardNumbers", unfollowed := true, recurses := true, apart := false, narrowed := true }
def GuardNumbersUptoSaid : Prop := guardNumbersUptoRow.holds Try.pinned (OpenSpec.upto guardNumbersSpec)

/-- 'hopmeshlaw09.GuardFrames', WHERE WHAT IT READS IS OF BULK AT MOST 1048576: true; the input reads as it did. -/
def guardFramesUptoRow : OpenClaim := { program := "ytgddmmlkpajpmaa", sum := "9ccc00a591b7ebd8a3b721ee5b45e44366cc87e0af822c4b46939d76e5adfd74", func := "hopmesh/hopmeshlaw09.GuardFrames", spec := "guardFrames", unfollowed := true, recurses := true, apart := false, narrowed := true }
def GuardFramesUptoSaid : Prop := guardFramesUptoRow.holds Try.pinned (OpenSpec.upto guardFramesSpec)

/-- 'hopmeshlaw09.GuardGrows', WHERE WHAT IT READS IS OF BULK AT MOST 1048576: true; the input reads as it did. -/
def guardGrowsUptoRow : OpenClaim := { program := "ytgddmmlkpajpmaa", sum := "9ccc00a591b7ebd8a3b721ee5b45e44366cc87e0af822c4b46939d76e5adfd74", func := "hopmesh/hopmeshlaw09.GuardGrows", spec := "guardGrows", unfollowed := true, recurses := true, apart := false, narrowed := true }
def GuardGrowsUptoSaid : Prop := guardGrowsUptoRow.holds Try.pinned (OpenSpec.upto guardGrowsSpec)

/-- 'hopmeshlaw09.GuardLasts', WHERE WHAT IT READS IS OF BULK AT MOST 1048576: true; the input reads as it did. -/
def guardLastsUptoRow : OpenClaim := { program := "ytgddmmlkpajpmaa", sum := "9ccc00a591b7ebd8a3b721ee5b45e44366cc87e0af822c4b46939d76e5adfd74", func := "hopmesh/hopmeshlaw09.GuardLasts", spec := "guardLasts", unfollowed := true, recurses := true, apart := false, narrowed := true }
def GuardLastsUptoSaid : Prop := guardLastsUptoRow.holds Try.pinned (OpenSpec.upto guardLastsSpec)

/-- 'hopmeshlaw09.GuardFits', WHERE WHAT IT READS IS OF BULK AT MOST 1048576: true; the input reads as it did. -/
def guardFitsUptoRow : OpenClaim := { program := "ytgddmmlkpajpmaa", sum := "9ccc00a591b7ebd8a3b721ee5b45e44366cc87e0af822c4b46939d76e5adfd74", func := "hopmesh/hopmeshlaw09.GuardFits", spec := "guardFits", unfollowed := true, recurses := true, apart := false, narrowed := true }
def GuardFitsUptoSaid : Prop := guardFitsUptoRow.holds Try.pinned (OpenSpec.upto guardFitsSpec)

/-- 'hopmeshlaw09.GuardSlots', WHERE WHAT IT READS IS OF BULK AT MOST 1048576: true; the input reads as it did. -/
def guardSlotsUptoRow : OpenClaim := { program := "ytgddmmlkpajpmaa", sum := "9ccc00a591b7ebd8a3b721ee5b45e44366cc87e0af822c4b46939d76e5adfd74", func := "hopmesh/hopmeshlaw09.GuardSlots", spec := "guardSlots", unfollowed := true, recurses := true, apart := false, narrowed := true }
def GuardSlotsUptoSaid : Prop := guardSlotsUptoRow.holds Try.pinned (OpenSpec.upto guardSlotsSpec)

/-- 'hopmeshlaw09.GuardApart', WHERE WHAT IT READS IS OF BULK AT MOST 1048576: true; the input reads as it did. -/
def guardApartUptoRow : OpenClaim := { program := "ytgddmmlkpajpmaa", sum := "9ccc00a591b7ebd8a3b721ee5b45e44366cc87e0af822c4b46939d76e5adfd74", func := "hopmesh/hopmeshlaw09.GuardApart", spec := "guardApart", unfollowed := true, recurses := true, apart := false, narrowed := true }
def GuardApartUptoSaid : Prop := guardApartUptoRow.holds Try.pinned (OpenSpec.upto guardApartSpec)

/-- 'hopmeshlaw09.GuardMonotone', WHERE WHAT IT READS IS OF BULK AT MOST 1048576: true; the input reads as it did. -/
def guardMonotoneUptoRow : OpenClaim := { program := "ytgddmmlkpajpmaa", sum := "9ccc00a591b7ebd8a3b721ee5b45e44366cc87e0af822c4b46939d76e5adfd74", func := "hopmesh/hopmeshlaw09.GuardMonotone", spec := "guardMonotone", unfollowed := true, recurses := true, apart := false, narrowed := true }
def GuardMonotoneUptoSaid : Prop := guardMonotoneUptoRow.holds Try.pinned (OpenSpec.upto guardMonotoneSpec)

end Rows
end Go.Proofs.Ytgddmmlkpajpmaa
