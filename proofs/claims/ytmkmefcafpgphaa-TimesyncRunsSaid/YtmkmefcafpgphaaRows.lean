/-
  No cell of these rows narrows 'for every input' (looked for: loops, veiled, ifaces, maps, wideKeys, modest, calm, conditions, laid).
  DERIVED. THE GIVEN ROWS OF THIS SEAT. 7 by the template 'for every input the law returns true; each argument reads behind the call as it read before'; 0 by the template 'total and deterministic' (their statements: YtmkmefcafpgphaaTotals.lean).
  GIVEN WITH THE SEED: the statements are not yours to turn. If you find one false, say at which input.
  Laid BY PROGRAM, IN A SANDBOX (cutbox-rows.mjs): the forced cells as the released guide's own fill.sh prints them over the translation 48c0d7b1042c0e79… (all of the seat's roots in one cut). By AI agents, Wed Nov 11 2026. No macro, syntax, notation, axiom, sorry.
-/
import Derived.Test.YtmkmefcafpgphaaChecked
import GoSem.Claim
import GoSem.ClaimJoined
import GoSem.ClaimMapViews
import Derived.JoinedTies
import Derived.KernelRfl
namespace Go.Proofs.Ytmkmefcafpgphaa
/- THE CELL 'sum', in the pinned program and in every row, IS THE sha256 OF THE DUMP (.gsa) THAT YtmkmefcafpgphaaProg.lean LOADS. Nothing in Lean hashes anything: it is a label: what it is worth is what the hold of that sum in a sandbox is worth. -/
noncomputable def Try.pinned : Pinned := { name := "ytmkmefcafpgphaa", sum := "48c0d7b1042c0e79975adb08b4e820ee54a2c9a48c728283bbb644764e13bb78", checked := Try.checked }
namespace Rows
def none {H : Type} : Left H := { results := [], args := [] }

/-- 'hopmeshlaw10.TimesyncCorrects': WHATEVER THE INPUT: true; the input reads as it did. -/
def timesyncCorrectsSpec : ChangeSpec := { name := "timesyncCorrects", fn := fun _ => fun
  | [d1, d2] => { results := [.lit (.bool true)], args := [d1, d2] }
  | _ => none }
def timesyncCorrectsRow : OpenClaim := { program := "ytmkmefcafpgphaa", sum := "48c0d7b1042c0e79975adb08b4e820ee54a2c9a48c728283bbb644764e13bb78", func := "hopmesh/hopmeshlaw10.TimesyncCorrects", spec := "timesyncCorrects", unfollowed := true, recurses := true, apart := false }
def TimesyncCorrectsSaid : Prop := timesyncCorrectsRow.holds Try.pinned (OpenSpec.ofChange timesyncCorrectsSpec)

/-- ITS FALSE NEIGHBOUR: 'it returns false'. Refute it at one input. -/
def timesyncCorrectsWrong : ChangeSpec := { name := "timesyncCorrects", fn := fun _ => fun
  | [d1, d2] => { results := [.lit (.bool false)], args := [d1, d2] }
  | _ => none }
def TimesyncCorrectsWrongFalsely : Prop := timesyncCorrectsRow.holds Try.pinned (OpenSpec.ofChange timesyncCorrectsWrong)

/-- 'hopmeshlaw10.TimesyncRuns': WHATEVER THE INPUT: true; the input reads as it did. -/
def timesyncRunsSpec : ChangeSpec := { name := "timesyncRuns", fn := fun _ => fun
  | [d1, d2, d3] => { results := [.lit (.bool true)], args := [d1, d2, d3] }
  | _ => none }
def timesyncRunsRow : OpenClaim := { program := "ytmkmefcafpgphaa", sum := "48c0d7b1042c0e79975adb08b4e820ee54a2c9a48c728283bbb644764e13bb78", func := "hopmesh/hopmeshlaw10.TimesyncRuns", spec := "timesyncRuns", unfollowed := true, recurses := true, apart := false }
def TimesyncRunsSaid : Prop := timesyncRunsRow.holds Try.pinned (OpenSpec.ofChange timesyncRunsSpec)

/-- ITS FALSE NEIGHBOUR: 'it returns false'. Refute it at one input. -/
def timesyncRunsWrong : ChangeSpec := { name := "timesyncRuns", fn := fun _ => fun
  | [d1, d2, d3] => { results := [.lit (.bool false)], args := [d1, d2, d3] }
  | _ => none }
def TimesyncRunsWrongFalsely : Prop := timesyncRunsRow.holds Try.pinned (OpenSpec.ofChange timesyncRunsWrong)

/-- 'hopmeshlaw10.TimesyncMeets': WHATEVER THE INPUT: true; the input reads as it did. -/
def timesyncMeetsSpec : ChangeSpec := { name := "timesyncMeets", fn := fun _ => fun
  | [d1, d2, d3] => { results := [.lit (.bool true)], args := [d1, d2, d3] }
  | _ => none }
def timesyncMeetsRow : OpenClaim := { program := "ytmkmefcafpgphaa", sum := "48c0d7b1042c0e79975adb08b4e820ee54a2c9a48c728283bbb644764e13bb78", func := "hopmesh/hopmeshlaw10.TimesyncMeets", spec := "timesyncMeets", unfollowed := true, recurses := true, apart := false }
def TimesyncMeetsSaid : Prop := timesyncMeetsRow.holds Try.pinned (OpenSpec.ofChange timesyncMeetsSpec)

/-- ITS FALSE NEIGHBOUR: 'it returns false'. Refute it at one input. -/
def timesyncMeetsWrong : ChangeSpec := { name := "timesyncMeets", fn := fun _ => fun
  | [d1, d2, d3] => { results := [.lit (.bool false)], args := [d1, d2, d3] }
  | _ => none }
def TimesyncMeetsWrongFalsely : Prop := timesyncMeetsRow.holds Try.pinned (OpenSpec.ofChange timesyncMeetsWrong)

/-- 'hopmeshlaw10.TimesyncOne': WHATEVER THE INPUT: true; the input reads as it did. -/
def timesyncOneSpec : ChangeSpec := { name := "timesyncOne", fn := fun _ => fun
  | [d1, d2, d3] => { results := [.lit (.bool true)], args := [d1, d2, d3] }
  | _ => none }
def timesyncOneRow : OpenClaim := { program := "ytmkmefcafpgphaa", sum := "48c0d7b1042c0e79975adb08b4e820ee54a2c9a48c728283bbb644764e13bb78", func := "hopmesh/hopmeshlaw10.TimesyncOne", spec := "timesyncOne", unfollowed := true, recurses := true, apart := false }
def TimesyncOneSaid : Prop := timesyncOneRow.holds Try.pinned (OpenSpec.ofChange timesyncOneSpec)

/-- ITS FALSE NEIGHBOUR: 'it returns false'. Refute it at one input. -/
def timesyncOneWrong : ChangeSpec := { name := "timesyncOne", fn := fun _ => fun
  | [d1, d2, d3] => { results := [.lit (.bool false)], args := [d1, d2, d3] }
  | _ => none }
def TimesyncOneWrongFalsely : Prop := timesyncOneRow.holds Try.pinned (OpenSpec.ofChange timesyncOneWrong)

/-- 'hopmeshlaw10.TimesyncDepths': WHATEVER THE INPUT: true; the input reads as it did. -/
def timesyncDepthsSpec : ChangeSpec := { name := "timesyncDepths", fn := fun _ => fun
  | [d] => { results := [.lit (.bool true)], args := [d] }
  | _ => none }
def timesyncDepthsRow : OpenClaim := { program := "ytmkmefcafpgphaa", sum := "48c0d7b1042c0e79975adb08b4e820ee54a2c9a48c728283bbb644764e13bb78", func := "hopmesh/hopmeshlaw10.TimesyncDepths", spec := "timesyncDepths", unfollowed := true, recurses := true, apart := false }
def TimesyncDepthsSaid : Prop := timesyncDepthsRow.holds Try.pinned (OpenSpec.ofChange timesyncDepthsSpec)

/-- ITS FALSE NEIGHBOUR: 'it returns false'. Refute it at one input. -/
def timesyncDepthsWrong : ChangeSpec := { name := "timesyncDepths", fn := fun _ => fun
  | [d] => { results := [.lit (.bool false)], args := [d] }
  | _ => none }
def TimesyncDepthsWrongFalsely : Prop := timesyncDepthsRow.holds Try.pinned (OpenSpec.ofChange timesyncDepthsWrong)

/-- 'hopmeshlaw10.TimesyncSpreads': WHATEVER THE INPUT: true; the input reads as it did. -/
def timesyncSpreadsSpec : ChangeSpec := { name := "timesyncSpreads", fn := fun _ => fun
  | [d1, d2, d3] => { results := [.lit (.bool true)], args := [d1, d2, d3] }
  | _ => none }
def timesyncSpreadsRow : OpenClaim := { program := "ytmkmefcafpgphaa", sum := "48c0d7b1042c0e79975adb08b4e820ee54a2c9a48c728283bbb644764e13bb78", func := "hopmesh/hopmeshlaw10.TimesyncSpreads", spec := "timesyncSpreads", unfollowed := true, recurses := true, apart := false }
def TimesyncSpreadsSaid : Prop := timesyncSpreadsRow.holds Try.pinned (OpenSpec.ofChange timesyncSpreadsSpec)

/-- ITS FALSE NEIGHBOUR: 'it returns false'. Refute it at one input. -/
def timesyncSpreadsWrong : ChangeSpec := { name := "timesyncSpreads", fn := fun _ => fun
  | [d1, d2, d3] => { results := [.lit (.bool false)], args := [d1, d2, d3] }
  | _ => none }
def TimesyncSpreadsWrongFalsely : Prop := timesyncSpreadsRow.holds Try.pinned (OpenSpec.ofChange timesyncSpreadsWrong)

/-- 'hopmeshlaw10.TimesyncKeeps': WHATEVER THE INPUT: true; the input reads as it did. -/
def timesyncKeepsSpec : ChangeSpec := { name := "timesyncKeeps", fn := fun _ => fun
  | [d1, d2, d3] => { results := [.lit (.bool true)], args := [d1, d2, d3] }
  | _ => none }
def timesyncKeepsRow : OpenClaim := { program := "ytmkmefcafpgphaa", sum := "48c0d7b1042c0e79975adb08b4e820ee54a2c9a48c728283bbb644764e13bb78", func := "hopmesh/hopmeshlaw10.TimesyncKeeps", spec := "timesyncKeeps", unfollowed := true, recurses := true, apart := false }
def TimesyncKeepsSaid : Prop := timesyncKeepsRow.holds Try.pinned (OpenSpec.ofChange timesyncKeepsSpec)

/-- ITS FALSE NEIGHBOUR: 'it returns false'. Refute it at one input. -/
def timesyncKeepsWrong : ChangeSpec := { name := "timesyncKeeps", fn := fun _ => fun
  | [d1, d2, d3] => { results := [.lit (.bool false)], args := [d1, d2, d3] }
  | _ => none }
def TimesyncKeepsWrongFalsely : Prop := timesyncKeepsRow.holds Try.pinned (OpenSpec.ofChange timesyncKeepsWrong)

/- THE SECOND FORM. 'bulk': how many values and letters a reading holds, each counted each time it is reached (what is shared counts as often as it is met; a slice's spare places count too). A statement '..UptoSaid' is the law's where the arguments, and the package variables that the reading takes, are together of bulk at most 1048576: NARROWER than '..Said'. Prove '..Said' where nothing that the law and all that it calls make is longer than what came in: it says more and counts as full. Else prove '..UptoSaid'. A law counts once. -/
mutual
def uptoBulk {H : Type} : DataW H → Nat
  | .lit (.string bytes) => bytes.length + 1
  | .lit _ => 1
  | .nil => 1
  | .ptr d => uptoBulk d + 1
  | .slice elems spare => uptoBulkAll elems + uptoBulkAll spare + 1
  | .agg parts => uptoBulkAll parts + 1
  | .iface _ d => uptoBulk d + 1
  | .map entries => uptoBulkEntries entries + 1
  | .held _ => 1
def uptoBulkAll {H : Type} : List (DataW H) → Nat
  | [] => 0
  | d :: r => uptoBulk d + uptoBulkAll r
def uptoBulkEntries {H : Type} : List (Lit × DataW H) → Nat
  | [] => 0
  | x :: r => uptoBulkEntry x + uptoBulkEntries r
def uptoBulkEntry {H : Type} : Lit × DataW H → Nat
  | (.string bytes, d) => bytes.length + uptoBulk d + 1
  | (_, d) => uptoBulk d + 1
 end
def uptoSmall : (H : Type) → List (DataW H) → Bool := fun _ ds => decide (uptoBulkAll ds ≤ 1048576)
def OpenSpec.upto (s : _root_.Go.ChangeSpec) : _root_.Go.OpenSpec := { _root_.Go.OpenSpec.ofChange s with cond := some uptoSmall }

/-- 'hopmeshlaw10.TimesyncCorrects', WHERE WHAT IT READS IS OF BULK AT MOST 1048576: true; the input reads as it did. -/
def timesyncCorrectsUptoRow : OpenClaim := { program := "ytmkmefcafpgphaa", sum := "48c0d7b1042c0e79975adb08b4e820ee54a2c9a48c728283bbb644764e13bb78", func := "hopmesh/hopmeshlaw10.TimesyncCorrects", spec := "timesyncCorrects", unfollowed := true, recurses := true, apart := false, narrowed := true }
def TimesyncCorrectsUptoSaid : Prop := timesyncCorrectsUptoRow.holds Try.pinned (OpenSpec.upto timesyncCorrectsSpec)

/-- 'hopmeshlaw10.TimesyncRuns', WHERE WHAT IT READS IS OF BULK AT MOST 1048576: true; the input reads as it did. -/
def timesyncRunsUptoRow : OpenClaim := { program := "ytmkmefcafpgphaa", sum := "48c0d7b1042c0e79975adb08b4e820ee54a2c9a48c728283bbb644764e13bb78", func := "hopmesh/hopmeshlaw10.TimesyncRuns", spec := "timesyncRuns", unfollowed := true, recurses := true, apart := false, narrowed := true }
def TimesyncRunsUptoSaid : Prop := timesyncRunsUptoRow.holds Try.pinned (OpenSpec.upto timesyncRunsSpec)

/-- 'hopmeshlaw10.TimesyncMeets', WHERE WHAT IT READS IS OF BULK AT MOST 1048576: true; the input reads as it did. -/
def timesyncMeetsUptoRow : OpenClaim := { program := "ytmkmefcafpgphaa", sum := "48c0d7b1042c0e79975adb08b4e820ee54a2c9a48c728283bbb644764e13bb78", func := "hopmesh/hopmeshlaw10.TimesyncMeets", spec := "timesyncMeets", unfollowed := true, recurses := true, apart := false, narrowed := true }
def TimesyncMeetsUptoSaid : Prop := timesyncMeetsUptoRow.holds Try.pinned (OpenSpec.upto timesyncMeetsSpec)

/-- 'hopmeshlaw10.TimesyncOne', WHERE WHAT IT READS IS OF BULK AT MOST 1048576: true; the input reads as it did. -/
def timesyncOneUptoRow : OpenClaim := { program := "ytmkmefcafpgphaa", sum := "48c0d7b1042c0e79975adb08b4e820ee54a2c9a48c728283bbb644764e13bb78", func := "hopmesh/hopmeshlaw10.TimesyncOne", spec := "timesyncOne", unfollowed := true, recurses := true, apart := false, narrowed := true }
def TimesyncOneUptoSaid : Prop := timesyncOneUptoRow.holds Try.pinned (OpenSpec.upto timesyncOneSpec)

/-- 'hopmeshlaw10.TimesyncDepths', WHERE WHAT IT READS IS OF BULK AT MOST 1048576: true; the input reads as it did. -/
def timesyncDepthsUptoRow : OpenClaim := { program := "ytmkmefcafpgphaa", sum := "48c0d7b1042c0e79975adb08b4e820ee54a2c9a48c728283bbb644764e13bb78", func := "hopmesh/hopmeshlaw10.TimesyncDepths", spec := "timesyncDepths", unfollowed := true, recurses := true, apart := false, narrowed := true }
def TimesyncDepthsUptoSaid : Prop := timesyncDepthsUptoRow.holds Try.pinned (OpenSpec.upto timesyncDepthsSpec)

/-- 'hopmeshlaw10.TimesyncSpreads', WHERE WHAT IT READS IS OF BULK AT MOST 1048576: true; the input reads as it did. -/
def timesyncSpreadsUptoRow : OpenClaim := { program := "ytmkmefcafpgphaa", sum := "48c0d7b1042c0e79975adb08b4e820ee54a2c9a48c728283bbb644764e13bb78", func := "hopmesh/hopmeshlaw10.TimesyncSpreads", spec := "timesyncSpreads", unfollowed := true, recurses := true, apart := false, narrowed := true }
def TimesyncSpreadsUptoSaid : Prop := timesyncSpreadsUptoRow.holds Try.pinned (OpenSpec.upto timesyncSpreadsSpec)

/-- 'hopmeshlaw10.TimesyncKeeps', WHERE WHAT IT READS IS OF BULK AT MOST 1048576: true; the input reads as it did. -/
def timesyncKeepsUptoRow : OpenClaim := { program := "ytmkmefcafpgphaa", sum := "48c0d7b1042c0e79975adb08b4e820ee54a2c9a48c728283bbb644764e13bb78", func := "hopmesh/hopmeshlaw10.TimesyncKeeps", spec := "timesyncKeeps", unfollowed := true, recurses := true, apart := false, narrowed := true }
def TimesyncKeepsUptoSaid : Prop := timesyncKeepsUptoRow.holds Try.pinned (OpenSpec.upto timesyncKeepsSpec)

end Rows
end Go.Proofs.Ytmkmefcafpgphaa
