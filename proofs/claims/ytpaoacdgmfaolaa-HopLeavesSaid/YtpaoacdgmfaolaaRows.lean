/-
  No cell of these rows narrows 'for every input' (looked for: loops, veiled, ifaces, maps, wideKeys, modest, calm, conditions, laid).
  DERIVED. THE GIVEN ROWS OF THIS SEAT. 8 by the template 'for every input the law returns true; each argument reads behind the call as it read before'; 0 by the template 'total and deterministic' (their statements: YtpaoacdgmfaolaaTotals.lean).
  GIVEN WITH THE SEED: the statements are not yours to turn. If you find one false, say at which input.
  Laid BY PROGRAM, IN A SANDBOX (cutbox-rows.mjs): the forced cells as the released guide's own fill.sh prints them over the translation 7d95c98947e7d821… (all of the seat's roots in one cut). By AI agents, Wed Nov 11 2026. No macro, syntax, notation, axiom, sorry.
-/
import Derived.Test.YtpaoacdgmfaolaaChecked
import GoSem.Claim
import GoSem.ClaimJoined
import GoSem.ClaimMapViews
import Derived.JoinedTies
import Derived.KernelRfl
namespace Go.Proofs.Ytpaoacdgmfaolaa
/- THE CELL 'sum', in the pinned program and in every row, IS THE sha256 OF THE DUMP (.gsa) THAT YtpaoacdgmfaolaaProg.lean LOADS. Nothing in Lean hashes anything: it is a label: what it is worth is what the hold of that sum in a sandbox is worth. -/
noncomputable def Try.pinned : Pinned := { name := "ytpaoacdgmfaolaa", sum := "7d95c98947e7d821a1ae16b72bd647f3871bf00fa89d2bd4e0e4ca48be721fd6", checked := Try.checked }
namespace Rows
def none {H : Type} : Left H := { results := [], args := [] }

/-- 'hopmeshlaw11.HopChannels': WHATEVER THE INPUT: true; the input reads as it did. -/
def hopChannelsSpec : ChangeSpec := { name := "hopChannels", fn := fun _ => fun
  | [d1, d2] => { results := [.lit (.bool true)], args := [d1, d2] }
  | _ => none }
def hopChannelsRow : OpenClaim := { program := "ytpaoacdgmfaolaa", sum := "7d95c98947e7d821a1ae16b72bd647f3871bf00fa89d2bd4e0e4ca48be721fd6", func := "hopmesh/hopmeshlaw11.HopChannels", spec := "hopChannels", unfollowed := true, recurses := true, apart := false }
def HopChannelsSaid : Prop := hopChannelsRow.holds Try.pinned (OpenSpec.ofChange hopChannelsSpec)

/-- ITS FALSE NEIGHBOUR: 'it returns false'. Refute it at one input. -/
def hopChannelsWrong : ChangeSpec := { name := "hopChannels", fn := fun _ => fun
  | [d1, d2] => { results := [.lit (.bool false)], args := [d1, d2] }
  | _ => none }
def HopChannelsWrongFalsely : Prop := hopChannelsRow.holds Try.pinned (OpenSpec.ofChange hopChannelsWrong)

/-- 'hopmeshlaw11.HopSequences': WHATEVER THE INPUT: true; the input reads as it did. -/
def hopSequencesSpec : ChangeSpec := { name := "hopSequences", fn := fun _ => fun
  | [d1, d2] => { results := [.lit (.bool true)], args := [d1, d2] }
  | _ => none }
def hopSequencesRow : OpenClaim := { program := "ytpaoacdgmfaolaa", sum := "7d95c98947e7d821a1ae16b72bd647f3871bf00fa89d2bd4e0e4ca48be721fd6", func := "hopmesh/hopmeshlaw11.HopSequences", spec := "hopSequences", unfollowed := true, recurses := true, apart := false }
def HopSequencesSaid : Prop := hopSequencesRow.holds Try.pinned (OpenSpec.ofChange hopSequencesSpec)

/-- ITS FALSE NEIGHBOUR: 'it returns false'. Refute it at one input. -/
def hopSequencesWrong : ChangeSpec := { name := "hopSequences", fn := fun _ => fun
  | [d1, d2] => { results := [.lit (.bool false)], args := [d1, d2] }
  | _ => none }
def HopSequencesWrongFalsely : Prop := hopSequencesRow.holds Try.pinned (OpenSpec.ofChange hopSequencesWrong)

/-- 'hopmeshlaw11.HopLeaves': WHATEVER THE INPUT: true; the input reads as it did. -/
def hopLeavesSpec : ChangeSpec := { name := "hopLeaves", fn := fun _ => fun
  | [d1, d2, d3] => { results := [.lit (.bool true)], args := [d1, d2, d3] }
  | _ => none }
def hopLeavesRow : OpenClaim := { program := "ytpaoacdgmfaolaa", sum := "7d95c98947e7d821a1ae16b72bd647f3871bf00fa89d2bd4e0e4ca48be721fd6", func := "hopmesh/hopmeshlaw11.HopLeaves", spec := "hopLeaves", unfollowed := true, recurses := true, apart := false }
def HopLeavesSaid : Prop := hopLeavesRow.holds Try.pinned (OpenSpec.ofChange hopLeavesSpec)

/-- ITS FALSE NEIGHBOUR: 'it returns false'. Refute it at one input. -/
def hopLeavesWrong : ChangeSpec := { name := "hopLeaves", fn := fun _ => fun
  | [d1, d2, d3] => { results := [.lit (.bool false)], args := [d1, d2, d3] }
  | _ => none }
def HopLeavesWrongFalsely : Prop := hopLeavesRow.holds Try.pinned (OpenSpec.ofChange hopLeavesWrong)

/-- 'hopmeshlaw11.HopDiffers': WHATEVER THE INPUT: true; the input reads as it did. -/
def hopDiffersSpec : ChangeSpec := { name := "hopDiffers", fn := fun _ => fun
  | [d1, d2] => { results := [.lit (.bool true)], args := [d1, d2] }
  | _ => none }
def hopDiffersRow : OpenClaim := { program := "ytpaoacdgmfaolaa", sum := "7d95c98947e7d821a1ae16b72bd647f3871bf00fa89d2bd4e0e4ca48be721fd6", func := "hopmesh/hopmeshlaw11.HopDiffers", spec := "hopDiffers", unfollowed := true, recurses := true, apart := false }
def HopDiffersSaid : Prop := hopDiffersRow.holds Try.pinned (OpenSpec.ofChange hopDiffersSpec)

/-- ITS FALSE NEIGHBOUR: 'it returns false'. Refute it at one input. -/
def hopDiffersWrong : ChangeSpec := { name := "hopDiffers", fn := fun _ => fun
  | [d1, d2] => { results := [.lit (.bool false)], args := [d1, d2] }
  | _ => none }
def HopDiffersWrongFalsely : Prop := hopDiffersRow.holds Try.pinned (OpenSpec.ofChange hopDiffersWrong)

/-- 'hopmeshlaw11.HopVisits': WHATEVER THE INPUT: true; the input reads as it did. -/
def hopVisitsSpec : ChangeSpec := { name := "hopVisits", fn := fun _ => fun
  | [d1, d2, d3] => { results := [.lit (.bool true)], args := [d1, d2, d3] }
  | _ => none }
def hopVisitsRow : OpenClaim := { program := "ytpaoacdgmfaolaa", sum := "7d95c98947e7d821a1ae16b72bd647f3871bf00fa89d2bd4e0e4ca48be721fd6", func := "hopmesh/hopmeshlaw11.HopVisits", spec := "hopVisits", unfollowed := true, recurses := true, apart := false }
def HopVisitsSaid : Prop := hopVisitsRow.holds Try.pinned (OpenSpec.ofChange hopVisitsSpec)

/-- ITS FALSE NEIGHBOUR: 'it returns false'. Refute it at one input. -/
def hopVisitsWrong : ChangeSpec := { name := "hopVisits", fn := fun _ => fun
  | [d1, d2, d3] => { results := [.lit (.bool false)], args := [d1, d2, d3] }
  | _ => none }
def HopVisitsWrongFalsely : Prop := hopVisitsRow.holds Try.pinned (OpenSpec.ofChange hopVisitsWrong)

/-- 'hopmeshlaw11.HopCovers': WHATEVER THE INPUT: true; the input reads as it did. -/
def hopCoversSpec : ChangeSpec := { name := "hopCovers", fn := fun _ => fun
  | [d1, d2] => { results := [.lit (.bool true)], args := [d1, d2] }
  | _ => none }
def hopCoversRow : OpenClaim := { program := "ytpaoacdgmfaolaa", sum := "7d95c98947e7d821a1ae16b72bd647f3871bf00fa89d2bd4e0e4ca48be721fd6", func := "hopmesh/hopmeshlaw11.HopCovers", spec := "hopCovers", unfollowed := true, recurses := true, apart := false }
def HopCoversSaid : Prop := hopCoversRow.holds Try.pinned (OpenSpec.ofChange hopCoversSpec)

/-- ITS FALSE NEIGHBOUR: 'it returns false'. Refute it at one input. -/
def hopCoversWrong : ChangeSpec := { name := "hopCovers", fn := fun _ => fun
  | [d1, d2] => { results := [.lit (.bool false)], args := [d1, d2] }
  | _ => none }
def HopCoversWrongFalsely : Prop := hopCoversRow.holds Try.pinned (OpenSpec.ofChange hopCoversWrong)

/-- 'hopmeshlaw11.HopStays': WHATEVER THE INPUT: true; the input reads as it did. -/
def hopStaysSpec : ChangeSpec := { name := "hopStays", fn := fun _ => fun
  | [d] => { results := [.lit (.bool true)], args := [d] }
  | _ => none }
def hopStaysRow : OpenClaim := { program := "ytpaoacdgmfaolaa", sum := "7d95c98947e7d821a1ae16b72bd647f3871bf00fa89d2bd4e0e4ca48be721fd6", func := "hopmesh/hopmeshlaw11.HopStays", spec := "hopStays", unfollowed := true, recurses := true, apart := false }
def HopStaysSaid : Prop := hopStaysRow.holds Try.pinned (OpenSpec.ofChange hopStaysSpec)

/-- ITS FALSE NEIGHBOUR: 'it returns false'. Refute it at one input. -/
def hopStaysWrong : ChangeSpec := { name := "hopStays", fn := fun _ => fun
  | [d] => { results := [.lit (.bool false)], args := [d] }
  | _ => none }
def HopStaysWrongFalsely : Prop := hopStaysRow.holds Try.pinned (OpenSpec.ofChange hopStaysWrong)

/-- 'hopmeshlaw11.HopNewer': WHATEVER THE INPUT: true; the input reads as it did. -/
def hopNewerSpec : ChangeSpec := { name := "hopNewer", fn := fun _ => fun
  | [d1, d2, d3] => { results := [.lit (.bool true)], args := [d1, d2, d3] }
  | _ => none }
def hopNewerRow : OpenClaim := { program := "ytpaoacdgmfaolaa", sum := "7d95c98947e7d821a1ae16b72bd647f3871bf00fa89d2bd4e0e4ca48be721fd6", func := "hopmesh/hopmeshlaw11.HopNewer", spec := "hopNewer", unfollowed := true, recurses := true, apart := false }
def HopNewerSaid : Prop := hopNewerRow.holds Try.pinned (OpenSpec.ofChange hopNewerSpec)

/-- ITS FALSE NEIGHBOUR: 'it returns false'. Refute it at one input. -/
def hopNewerWrong : ChangeSpec := { name := "hopNewer", fn := fun _ => fun
  | [d1, d2, d3] => { results := [.lit (.bool false)], args := [d1, d2, d3] }
  | _ => none }
def HopNewerWrongFalsely : Prop := hopNewerRow.holds Try.pinned (OpenSpec.ofChange hopNewerWrong)

/- THE SECOND FORM. 'bulk': how many values and letters a reading holds, each counted each time it is reached (what is shared counts as often as it is met; a slice's spare places count too). A statement '..UptoSaid' is the law's where the arguments, and the package variables that the reading takes, are together of bulk at most 1048576: NARROWER than '..Said'. Prove '..Said' where nothing that the law and all that it calls make is longer than what came in: it says more and counts as full. Else prove '..UptoSaid'. A law counts once. -/
mutual
def uptoBulk {H : Type} : DataW H → Nat
  | .lit (.string bytes) => bytes.length + 1
  | .lit _ => 1
  | .nil => 1
  | .ptr d => uptoBulk d + 1
  | .slice elems spare => uptoBulkAll elems + uptoBulkAll spare + 1
  | .agg parts => uptoBulkAll parts + 1
  | .iface _ d => uptoBulk d + 1
  | .map entries => uptoBulkEntries entries + 1
  | .held _ => 1
def uptoBulkAll {H : Type} : List (DataW H) → Nat
  | [] => 0
  | d :: r => uptoBulk d + uptoBulkAll r
def uptoBulkEntries {H : Type} : List (Lit × DataW H) → Nat
  | [] => 0
  | x :: r => uptoBulkEntry x + uptoBulkEntries r
def uptoBulkEntry {H : Type} : Lit × DataW H → Nat
  | (.string bytes, d) => bytes.length + uptoBulk d + 1
  | (_, d) => uptoBulk d + 1
 end
def uptoSmall : (H : Type) → List (DataW H) → Bool := fun _ ds => decide (uptoBulkAll ds ≤ 1048576)
def OpenSpec.upto (s : _root_.Go.ChangeSpec) : _root_.Go.OpenSpec := { _root_.Go.OpenSpec.ofChange s with cond := some uptoSmall }

/-- 'hopmeshlaw11.HopChannels', WHERE WHAT IT READS IS OF BULK AT MOST 1048576: true; the input reads as it did. -/
def hopChannelsUptoRow : OpenClaim := { program := "ytpaoacdgmfaolaa", sum := "7d95c98947e7d821a1ae16b72bd647f3871bf00fa89d2bd4e0e4ca48be721fd6", func := "hopmesh/hopmeshlaw11.HopChannels", spec := "hopChannels", unfollowed := true, recurses := true, apart := false, narrowed := true }
def HopChannelsUptoSaid : Prop := hopChannelsUptoRow.holds Try.pinned (OpenSpec.upto hopChannelsSpec)

/-- 'hopmeshlaw11.HopSequences', WHERE WHAT IT READS IS OF BULK AT MOST 1048576: true; the input reads as it did. -/
def hopSequencesUptoRow : OpenClaim := { program := "ytpaoacdgmfaolaa", sum := "7d95c98947e7d821a1ae16b72bd647f3871bf00fa89d2bd4e0e4ca48be721fd6", func := "hopmesh/hopmeshlaw11.HopSequences", spec := "hopSequences", unfollowed := true, recurses := true, apart := false, narrowed := true }
def HopSequencesUptoSaid : Prop := hopSequencesUptoRow.holds Try.pinned (OpenSpec.upto hopSequencesSpec)

/-- 'hopmeshlaw11.HopLeaves', WHERE WHAT IT READS IS OF BULK AT MOST 1048576: true; the input reads as it did. -/
def hopLeavesUptoRow : OpenClaim := { program := "ytpaoacdgmfaolaa", sum := "7d95c98947e7d821a1ae16b72bd647f3871bf00fa89d2bd4e0e4ca48be721fd6", func := "hopmesh/hopmeshlaw11.HopLeaves", spec := "hopLeaves", unfollowed := true, recurses := true, apart := false, narrowed := true }
def HopLeavesUptoSaid : Prop := hopLeavesUptoRow.holds Try.pinned (OpenSpec.upto hopLeavesSpec)

/-- 'hopmeshlaw11.HopDiffers', WHERE WHAT IT READS IS OF BULK AT MOST 1048576: true; the input reads as it did. -/
def hopDiffersUptoRow : OpenClaim := { program := "ytpaoacdgmfaolaa", sum := "7d95c98947e7d821a1ae16b72bd647f3871bf00fa89d2bd4e0e4ca48be721fd6", func := "hopmesh/hopmeshlaw11.HopDiffers", spec := "hopDiffers", unfollowed := true, recurses := true, apart := false, narrowed := true }
def HopDiffersUptoSaid : Prop := hopDiffersUptoRow.holds Try.pinned (OpenSpec.upto hopDiffersSpec)

/-- 'hopmeshlaw11.HopVisits', WHERE WHAT IT READS IS OF BULK AT MOST 1048576: true; the input reads as it did. -/
def hopVisitsUptoRow : OpenClaim := { program := "ytpaoacdgmfaolaa", sum := "7d95c98947e7d821a1ae16b72bd647f3871bf00fa89d2bd4e0e4ca48be721fd6", func := "hopmesh/hopmeshlaw11.HopVisits", spec := "hopVisits", unfollowed := true, recurses := true, apart := false, narrowed := true }
def HopVisitsUptoSaid : Prop := hopVisitsUptoRow.holds Try.pinned (OpenSpec.upto hopVisitsSpec)

/-- 'hopmeshlaw11.HopCovers', WHERE WHAT IT READS IS OF BULK AT MOST 1048576: true; the input reads as it did. -/
def hopCoversUptoRow : OpenClaim := { program := "ytpaoacdgmfaolaa", sum := "7d95c98947e7d821a1ae16b72bd647f3871bf00fa89d2bd4e0e4ca48be721fd6", func := "hopmesh/hopmeshlaw11.HopCovers", spec := "hopCovers", unfollowed := true, recurses := true, apart := false, narrowed := true }
def HopCoversUptoSaid : Prop := hopCoversUptoRow.holds Try.pinned (OpenSpec.upto hopCoversSpec)

/-- 'hopmeshlaw11.HopStays', WHERE WHAT IT READS IS OF BULK AT MOST 1048576: true; the input reads as it did. -/
def hopStaysUptoRow : OpenClaim := { program := "ytpaoacdgmfaolaa", sum := "7d95c98947e7d821a1ae16b72bd647f3871bf00fa89d2bd4e0e4ca48be721fd6", func := "hopmesh/hopmeshlaw11.HopStays", spec := "hopStays", unfollowed := true, recurses := true, apart := false, narrowed := true }
def HopStaysUptoSaid : Prop := hopStaysUptoRow.holds Try.pinned (OpenSpec.upto hopStaysSpec)

/-- 'hopmeshlaw11.HopNewer', WHERE WHAT IT READS IS OF BULK AT MOST 1048576: true; the input reads as it did. -/
def hopNewerUptoRow : OpenClaim := { program := "ytpaoacdgmfaolaa", sum := "7d95c98947e7d821a1ae16b72bd647f3871bf00fa89d2bd4e0e4ca48be721fd6", func := "hopmesh/hopmeshlaw11.HopNewer", spec := "hopNewer", unfollowed := true, recurses := true, apart := false, narrowed := true }
def HopNewerUptoSaid : Prop := hopNewerUptoRow.holds Try.pinned (OpenSpec.upto hopNewerSpec)

end Rows
end Go.Proofs.Ytpaoacdgmfaolaa
