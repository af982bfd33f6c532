/-
  No cell of these rows narrows 'for every input' (looked for: loops, veiled, ifaces, maps, wideKeys, modest, calm, conditions, laid).
  DERIVED. THE GIVEN ROWS OF THIS SEAT. 8 by the template 'for every input the law returns true; each argument reads behind the call as it read before'; 0 by the template 'total and deterministic' (their statements: YthddkcbgmhijnaaTotals.lean).
  GIVEN WITH THE SEED: the statements are not yours to turn. If you find one false, say at which input.
  Laid BY PROGRAM, IN A SANDBOX (cutbox-rows.mjs): the forced cells as the released guide's own fill.sh prints them over the translation f7f3917d558a628d… (all of the seat's roots in one cut). By AI agents, Wed Nov 11 2026. No macro, syntax, notation, axiom, sorry.
-/
import Derived.Test.YthddkcbgmhijnaaChecked
import GoSem.Claim
import GoSem.ClaimJoined
import GoSem.ClaimMapViews
import Derived.JoinedTies
import Derived.KernelRfl
namespace Go.Proofs.Ythddkcbgmhijnaa
/- THE CELL 'sum', in the pinned program and in every row, IS THE sha256 OF THE DUMP (.gsa) THAT YthddkcbgmhijnaaProg.lean LOADS. Nothing in Lean hashes anything: it is a label: what it is worth is what the hold of that sum in a sandbox is worth. -/
noncomputable def Try.pinned : Pinned := { name := "ythddkcbgmhijnaa", sum := "f7f3917d558a628d9ab676fca1aeb4b1b0e4ada2cf9e080236697404443fc251", checked := Try.checked }
namespace Rows
def none {H : Type} : Left H := { results := [], args := [] }

/-- 'hopmeshlaw08.ClockShows': WHATEVER THE INPUT: true; the input reads as it did. -/
def clockShowsSpec : ChangeSpec := { name := "clockShows", fn := fun _ => fun
  | [d1, d2, d3] => { results := [.lit (.bool true)], args := [d1, d2, d3] }
  | _ => none }
def clockShowsRow : OpenClaim := { program := "ythddkcbgmhijnaa", sum := "f7f3917d558a628d9ab676fca1aeb4b1b0e4ada2cf9e080236697404443fc251", func := "hopmesh/hopmeshlaw08.ClockShows", spec := "clockShows", unfollowed := true, recurses := true, apart := false }
def ClockShowsSaid : Prop := clockShowsRow.holds Try.pinned (OpenSpec.ofChange clockShowsSpec)

/-- ITS FALSE NEIGHBOUR: 'it returns false'. Refute it at one input. -/
def clockShowsWrong : ChangeSpec := { name := "clockShows", fn := fun _ => fun
  | [d1, d2, d3] => { results := [.lit (.bool false)], args := [d1, d2, d3] }
  | _ => none }
def ClockShowsWrongFalsely : Prop := clockShowsRow.holds Try.pinned (OpenSpec.ofChange clockShowsWrong)

/-- 'hopmeshlaw08.ClockSlots': WHATEVER THE INPUT: true; the input reads as it did. -/
def clockSlotsSpec : ChangeSpec := { name := "clockSlots", fn := fun _ => fun
  | [d1, d2] => { results := [.lit (.bool true)], args := [d1, d2] }
  | _ => none }
def clockSlotsRow : OpenClaim := { program := "ythddkcbgmhijnaa", sum := "f7f3917d558a628d9ab676fca1aeb4b1b0e4ada2cf9e080236697404443fc251", func := "hopmesh/hopmeshlaw08.ClockSlots", spec := "clockSlots", unfollowed := true, recurses := true, apart := false }
def ClockSlotsSaid : Prop := clockSlotsRow.holds Try.pinned (OpenSpec.ofChange clockSlotsSpec)

/-- ITS FALSE NEIGHBOUR: 'it returns false'. Refute it at one input. -/
def clockSlotsWrong : ChangeSpec := { name := "clockSlots", fn := fun _ => fun
  | [d1, d2] => { results := [.lit (.bool false)], args := [d1, d2] }
  | _ => none }
def ClockSlotsWrongFalsely : Prop := clockSlotsRow.holds Try.pinned (OpenSpec.ofChange clockSlotsWrong)

/-- 'hopmeshlaw08.ClockAdjusts': WHATEVER THE INPUT: true; the input reads as it did. -/
def clockAdjustsSpec : ChangeSpec := { name := "clockAdjusts", fn := fun _ => fun
  | [d1, d2, d3] => { results := [.lit (.bool true)], args := [d1, d2, d3] }
  | _ => none }
def clockAdjustsRow : OpenClaim := { program := "ythddkcbgmhijnaa", sum := "f7f3917d558a628d9ab676fca1aeb4b1b0e4ada2cf9e080236697404443fc251", func := "hopmesh/hopmeshlaw08.ClockAdjusts", spec := "clockAdjusts", unfollowed := true, recurses := true, apart := false }
def ClockAdjustsSaid : Prop := clockAdjustsRow.holds Try.pinned (OpenSpec.ofChange clockAdjustsSpec)

/-- ITS FALSE NEIGHBOUR: 'it returns false'. Refute it at one input. -/
def clockAdjustsWrong : ChangeSpec := { name := "clockAdjusts", fn := fun _ => fun
  | [d1, d2, d3] => { results := [.lit (.bool false)], args := [d1, d2, d3] }
  | _ => none }
def ClockAdjustsWrongFalsely : Prop := clockAdjustsRow.holds Try.pinned (OpenSpec.ofChange clockAdjustsWrong)

/-- 'hopmeshlaw08.ClockForward': WHATEVER THE INPUT: true; the input reads as it did. -/
def clockForwardSpec : ChangeSpec := { name := "clockForward", fn := fun _ => fun
  | [d1, d2] => { results := [.lit (.bool true)], args := [d1, d2] }
  | _ => none }
def clockForwardRow : OpenClaim := { program := "ythddkcbgmhijnaa", sum := "f7f3917d558a628d9ab676fca1aeb4b1b0e4ada2cf9e080236697404443fc251", func := "hopmesh/hopmeshlaw08.ClockForward", spec := "clockForward", unfollowed := true, recurses := true, apart := false }
def ClockForwardSaid : Prop := clockForwardRow.holds Try.pinned (OpenSpec.ofChange clockForwardSpec)

/-- ITS FALSE NEIGHBOUR: 'it returns false'. Refute it at one input. -/
def clockForwardWrong : ChangeSpec := { name := "clockForward", fn := fun _ => fun
  | [d1, d2] => { results := [.lit (.bool false)], args := [d1, d2] }
  | _ => none }
def ClockForwardWrongFalsely : Prop := clockForwardRow.holds Try.pinned (OpenSpec.ofChange clockForwardWrong)

/-- 'hopmeshlaw08.ClockDrifts': WHATEVER THE INPUT: true; the input reads as it did. -/
def clockDriftsSpec : ChangeSpec := { name := "clockDrifts", fn := fun _ => fun
  | [d1, d2, d3] => { results := [.lit (.bool true)], args := [d1, d2, d3] }
  | _ => none }
def clockDriftsRow : OpenClaim := { program := "ythddkcbgmhijnaa", sum := "f7f3917d558a628d9ab676fca1aeb4b1b0e4ada2cf9e080236697404443fc251", func := "hopmesh/hopmeshlaw08.ClockDrifts", spec := "clockDrifts", unfollowed := true, recurses := true, apart := false }
def ClockDriftsSaid : Prop := clockDriftsRow.holds Try.pinned (OpenSpec.ofChange clockDriftsSpec)

/-- ITS FALSE NEIGHBOUR: 'it returns false'. Refute it at one input. -/
def clockDriftsWrong : ChangeSpec := { name := "clockDrifts", fn := fun _ => fun
  | [d1, d2, d3] => { results := [.lit (.bool false)], args := [d1, d2, d3] }
  | _ => none }
def ClockDriftsWrongFalsely : Prop := clockDriftsRow.holds Try.pinned (OpenSpec.ofChange clockDriftsWrong)

/-- 'hopmeshlaw08.ClockReaches': WHATEVER THE INPUT: true; the input reads as it did. -/
def clockReachesSpec : ChangeSpec := { name := "clockReaches", fn := fun _ => fun
  | [d1, d2, d3] => { results := [.lit (.bool true)], args := [d1, d2, d3] }
  | _ => none }
def clockReachesRow : OpenClaim := { program := "ythddkcbgmhijnaa", sum := "f7f3917d558a628d9ab676fca1aeb4b1b0e4ada2cf9e080236697404443fc251", func := "hopmesh/hopmeshlaw08.ClockReaches", spec := "clockReaches", unfollowed := true, recurses := true, apart := false }
def ClockReachesSaid : Prop := clockReachesRow.holds Try.pinned (OpenSpec.ofChange clockReachesSpec)

/-- ITS FALSE NEIGHBOUR: 'it returns false'. Refute it at one input. -/
def clockReachesWrong : ChangeSpec := { name := "clockReaches", fn := fun _ => fun
  | [d1, d2, d3] => { results := [.lit (.bool false)], args := [d1, d2, d3] }
  | _ => none }
def ClockReachesWrongFalsely : Prop := clockReachesRow.holds Try.pinned (OpenSpec.ofChange clockReachesWrong)

/-- 'hopmeshlaw08.ClockOwn': WHATEVER THE INPUT: true; the input reads as it did. -/
def clockOwnSpec : ChangeSpec := { name := "clockOwn", fn := fun _ => fun
  | [d1, d2] => { results := [.lit (.bool true)], args := [d1, d2] }
  | _ => none }
def clockOwnRow : OpenClaim := { program := "ythddkcbgmhijnaa", sum := "f7f3917d558a628d9ab676fca1aeb4b1b0e4ada2cf9e080236697404443fc251", func := "hopmesh/hopmeshlaw08.ClockOwn", spec := "clockOwn", unfollowed := true, recurses := true, apart := false }
def ClockOwnSaid : Prop := clockOwnRow.holds Try.pinned (OpenSpec.ofChange clockOwnSpec)

/-- ITS FALSE NEIGHBOUR: 'it returns false'. Refute it at one input. -/
def clockOwnWrong : ChangeSpec := { name := "clockOwn", fn := fun _ => fun
  | [d1, d2] => { results := [.lit (.bool false)], args := [d1, d2] }
  | _ => none }
def ClockOwnWrongFalsely : Prop := clockOwnRow.holds Try.pinned (OpenSpec.ofChange clockOwnWrong)

/-- 'hopmeshlaw08.ClockShifts': WHATEVER THE INPUT: true; the input reads as it did. -/
def clockShiftsSpec : ChangeSpec := { name := "clockShifts", fn := fun _ => fun
  | [d1, d2, d3] => { results := [.lit (.bool true)], args := [d1, d2, d3] }
  | _ => none }
def clockShiftsRow : OpenClaim := { program := "ythddkcbgmhijnaa", sum := "f7f3917d558a628d9ab676fca1aeb4b1b0e4ada2cf9e080236697404443fc251", func := "hopmesh/hopmeshlaw08.ClockShifts", spec := "clockShifts", unfollowed := true, recurses := true, apart := false }
def ClockShiftsSaid : Prop := clockShiftsRow.holds Try.pinned (OpenSpec.ofChange clockShiftsSpec)

/-- ITS FALSE NEIGHBOUR: 'it returns false'. Refute it at one input. -/
def clockShiftsWrong : ChangeSpec := { name := "clockShifts", fn := fun _ => fun
  | [d1, d2, d3] => { results := [.lit (.bool false)], args := [d1, d2, d3] }
  | _ => none }
def ClockShiftsWrongFalsely : Prop := clockShiftsRow.holds Try.pinned (OpenSpec.ofChange clockShiftsWrong)

/- THE SECOND FORM. 'bulk': how many values and letters a reading holds, each counted each time it is reached (what is shared counts as often as it is met; a slice's spare places count too). A statement '..UptoSaid' is the law's where the arguments, and the package variables that the reading takes, are together of bulk at most 1048576: NARROWER than '..Said'. Prove '..Said' where nothing that the law and all that it calls make is longer than what came in: it says more and counts as full. Else prove '..UptoSaid'. A law counts once. -/
mutual
def uptoBulk {H : Type} : DataW H → Nat
  | .lit (.string bytes) => bytes.length + 1
  | .lit _ => 1
  | .nil => 1
  | .ptr d => uptoBulk d + 1
  | .slice elems spare => uptoBulkAll elems + uptoBulkAll spare + 1
  | .agg parts => uptoBulkAll parts + 1
  | .iface _ d => uptoBulk d + 1
  | .map entries => uptoBulkEntries entries + 1
  | .held _ => 1
def uptoBulkAll {H : Type} : List (DataW H) → Nat
  | [] => 0
  | d :: r => uptoBulk d + uptoBulkAll r
def uptoBulkEntries {H : Type} : List (Lit × DataW H) → Nat
  | [] => 0
  | x :: r => uptoBulkEntry x + uptoBulkEntries r
def uptoBulkEntry {H : Type} : Lit × DataW H → Nat
  | (.string bytes, d) => bytes.length + uptoBulk d + 1
  | (_, d) => uptoBulk d + 1
 end
def uptoSmall : (H : Type) → List (DataW H) → Bool := fun _ ds => decide (uptoBulkAll ds ≤ 1048576)
def OpenSpec.upto (s : _root_.Go.ChangeSpec) : _root_.Go.OpenSpec := { _root_.Go.OpenSpec.ofChange s with cond := some uptoSmall }

/-- 'hopmeshlaw08.ClockShows', WHERE WHAT IT READS IS OF BULK AT MOST 1048576: true; the input reads as it did. -/
def clockShowsUptoRow : OpenClaim := { program := "ythddkcbgmhijnaa", sum := "f7f3917d558a628d9ab676fca1aeb4b1b0e4ada2cf9e080236697404443fc251", func := "hopmesh/hopmeshlaw08.ClockShows", spec := "clockShows", unfollowed := true, recurses := true, apart := false, narrowed := true }
def ClockShowsUptoSaid : Prop := clockShowsUptoRow.holds Try.pinned (OpenSpec.upto clockShowsSpec)

/-- 'hopmeshlaw08.ClockSlots', WHERE WHAT IT READS IS OF BULK AT MOST 1048576: true; the input reads as it did. -/
def clockSlotsUptoRow : OpenClaim := { program := "ythddkcbgmhijnaa", sum := "f7f3917d558a628d9ab676fca1aeb4b1b0e4ada2cf9e080236697404443fc251", func := "hopmesh/hopmeshlaw08.ClockSlots", spec := "clockSlots", unfollowed := true, recurses := true, apart := false, narrowed := true }
def ClockSlotsUptoSaid : Prop := clockSlotsUptoRow.holds Try.pinned (OpenSpec.upto clockSlotsSpec)

/-- 'hopmeshlaw08.ClockAdjusts', WHERE WHAT IT READS IS OF BULK AT MOST 1048576: true; the input reads as it did. -/
def clockAdjustsUptoRow : OpenClaim := { program := "ythddkcbgmhijnaa", sum := "f7f3917d558a628d9ab676fca1aeb4b1b0e4ada2cf9e080236697404443fc251", func := "hopmesh/hopmeshlaw08.ClockAdjusts", spec := "clockAdjusts", unfollowed := true, recurses := true, apart := false, narrowed := true }
def ClockAdjustsUptoSaid : Prop := clockAdjustsUptoRow.holds Try.pinned (OpenSpec.upto clockAdjustsSpec)

/-- 'hopmeshlaw08.ClockForward', WHERE WHAT IT READS IS OF BULK AT MOST 1048576: true; the input reads as it did. -/
def clockForwardUptoRow : OpenClaim := { program := "ythddkcbgmhijnaa", sum := "f7f3917d558a628d9ab676fca1aeb4b1b0e4ada2cf9e080236697404443fc251", func := "hopmesh/hopmeshlaw08.ClockForward", spec := "clockForward", unfollowed := true, recurses := true, apart := false, narrowed := true }
def ClockForwardUptoSaid : Prop := clockForwardUptoRow.holds Try.pinned (OpenSpec.upto clockForwardSpec)

/-- 'hopmeshlaw08.ClockDrifts', WHERE WHAT IT READS IS OF BULK AT MOST 1048576: true; the input reads as it did. -/
def clockDriftsUptoRow : OpenClaim := { program := "ythddkcbgmhijnaa", sum := "f7f3917d558a628d9ab676fca1aeb4b1b0e4ada2cf9e080236697404443fc251", func := "hopmesh/hopmeshlaw08.ClockDrifts", spec := "clockDrifts", unfollowed := true, recurses := true, apart := false, narrowed := true }
def ClockDriftsUptoSaid : Prop := clockDriftsUptoRow.holds Try.pinned (OpenSpec.upto clockDriftsSpec)

/-- 'hopmeshlaw08.ClockReaches', WHERE WHAT IT READS IS OF BULK AT MOST 1048576: true; the input reads as it did. -/
def clockReachesUptoRow : OpenClaim := { program := "ythddkcbgmhijnaa", sum := "f7f3917d558a628d9ab676fca1aeb4b1b0e4ada2cf9e080236697404443fc251", func := "hopmesh/hopmeshlaw08.ClockReaches", spec := "clockReaches", unfollowed := true, recurses := true, apart := false, narrowed := true }
def ClockReachesUptoSaid : Prop := clockReachesUptoRow.holds Try.pinned (OpenSpec.upto clockReachesSpec)

/-- 'hopmeshlaw08.ClockOwn', WHERE WHAT IT READS IS OF BULK AT MOST 1048576: true; the input reads as it did. -/
def clockOwnUptoRow : OpenClaim := { program := "ythddkcbgmhijnaa", sum := "f7f3917d558a628d9ab676fca1aeb4b1b0e4ada2cf9e080236697404443fc251", func := "hopmesh/hopmeshlaw08.ClockOwn", spec := "clockOwn", unfollowed := true, recurses := true, apart := false, narrowed := true }
def ClockOwnUptoSaid : Prop := clockOwnUptoRow.holds Try.pinned (OpenSpec.upto clockOwnSpec)

/-- 'hopmeshlaw08.ClockShifts', WHERE WHAT IT READS IS OF BULK AT MOST 1048576: true; the input reads as it did. -/
def clockShiftsUptoRow : OpenClaim := { program := "ythddkcbgmhijnaa", sum := "f7f3917d558a628d9ab676fca1aeb4b1b0e4ada2cf9e080236697404443fc251", func := "hopmesh/hopmeshlaw08.ClockShifts", spec := "clockShifts", unfollowed := true, recurses := true, apart := false, narrowed := true }
def ClockShiftsUptoSaid : Prop := clockShiftsUptoRow.holds Try.pinned (OpenSpec.upto clockShiftsSpec)

end Rows
end Go.Proofs.Ythddkcbgmhijnaa
