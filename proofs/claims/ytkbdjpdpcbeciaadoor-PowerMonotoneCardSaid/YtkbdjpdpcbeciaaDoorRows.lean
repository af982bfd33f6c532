/-
  NARROWER THAN 'FOR EVERY INPUT', by the rows' own cells (each row's printed sentence says how): PowerLevels: laid · PowerReceives: laid · PowerTexts: laid · PowerOrder: laid · PowerMonotone: laid · PowerMargins: laid · PowerCapture: laid · PowerScales: laid.
  DERIVED. THE GIVEN ROWS OF THIS SEAT. 8 by the template 'for every input the law returns true; each argument reads behind the call as it read before'; 0 by the template 'total and deterministic' (their statements: YtkbdjpdpcbeciaaDoorTotals.lean).
  GIVEN WITH THE SEED: the statements are not yours to turn. If you find one false, say at which input.
  Laid BY PROGRAM, IN A SANDBOX (cutbox-rows.mjs): the forced cells as the released guide's own fill.sh prints them over the translation 902fa94f5b5bc929… (all of the seat's roots in one cut). By AI agents, Wed Nov 11 2026. No macro, syntax, notation, axiom, sorry.
-/
import Derived.Test.YtkbdjpdpcbeciaaDoorChecked
import GoSem.Claim
import GoSem.ClaimJoined
import GoSem.ClaimMapViews
import Derived.JoinedTies
import Derived.KernelRfl
namespace Go.Proofs.YtkbdjpdpcbeciaaDoor
/- THE CELL 'sum', in the pinned program and in every row, IS THE sha256 OF THE DUMP (.gsa) THAT YtkbdjpdpcbeciaaDoorProg.lean LOADS. Nothing in Lean hashes anything: it is a label: what it is worth is what the hold of that sum in a sandbox is worth. -/
noncomputable def Tryd.pinned : Pinned := { name := "ytkbdjpdpcbeciaadoor", sum := "902fa94f5b5bc9292f909a136973ff5c4699c9827b8c9952d54d8a8108fe7359", checked := Tryd.checked }
namespace Rows
def none {H : Type} : Left H := { results := [], args := [] }

/- WHAT THE LISTED PACKAGE-LEVEL VARIABLES READ AS WHEN THE CALL BEGINS. Each datum BY PROGRAM (the guide's laid-datum.mjs) off the statement by which the dump's own 'gosem.cut.vars' lays the variable. In a bare row this is a premise. The card (YtkbdjpdpcbeciaaDoorCards.lean) ties it to the program's text. -/
def laid_math_bits_deBruijn32tab {H : Type} : DataW H := .agg [.lit (.int .u8 0), .lit (.int .u8 1), .lit (.int .u8 28), .lit (.int .u8 2), .lit (.int .u8 29), .lit (.int .u8 14), .lit (.int .u8 24), .lit (.int .u8 3), .lit (.int .u8 30), .lit (.int .u8 22), .lit (.int .u8 20), .lit (.int .u8 15), .lit (.int .u8 25), .lit (.int .u8 17), .lit (.int .u8 4), .lit (.int .u8 8), .lit (.int .u8 31), .lit (.int .u8 27), .lit (.int .u8 13), .lit (.int .u8 23), .lit (.int .u8 21), .lit (.int .u8 19), .lit (.int .u8 16), .lit (.int .u8 7), .lit (.int .u8 26), .lit (.int .u8 12), .lit (.int .u8 18), .lit (.int .u8 6), .lit (.int .u8 11), .lit (.int .u8 5), .lit (.int .u8 10), .lit (.int .u8 9)]
def laid_math_bits_deBruijn64tab {H : Type} : DataW H := .agg [.lit (.int .u8 0), .lit (.int .u8 1), .lit (.int .u8 56), .lit (.int .u8 2), .lit (.int .u8 57), .lit (.int .u8 49), .lit (.int .u8 28), .lit (.int .u8 3), .lit (.int .u8 61), .lit (.int .u8 58), .lit (.int .u8 42), .lit (.int .u8 50), .lit (.int .u8 38), .lit (.int .u8 29), .lit (.int .u8 17), .lit (.int .u8 4), .lit (.int .u8 62), .lit (.int .u8 47), .lit (.int .u8 59), .lit (.int .u8 36), .lit (.int .u8 45), .lit (.int .u8 43), .lit (.int .u8 51), .lit (.int .u8 22), .lit (.int .u8 53), .lit (.int .u8 39), .lit (.int .u8 33), .lit (.int .u8 30), .lit (.int .u8 24), .lit (.int .u8 18), .lit (.int .u8 12), .lit (.int .u8 5), .lit (.int .u8 63), .lit (.int .u8 55), .lit (.int .u8 48), .lit (.int .u8 27), .lit (.int .u8 60), .lit (.int .u8 41), .lit (.int .u8 37), .lit (.int .u8 16), .lit (.int .u8 46), .lit (.int .u8 35), .lit (.int .u8 44), .lit (.int .u8 21), .lit (.int .u8 52), .lit (.int .u8 32), .lit (.int .u8 23), .lit (.int .u8 11), .lit (.int .u8 54), .lit (.int .u8 26), .lit (.int .u8 40), .lit (.int .u8 15), .lit (.int .u8 34), .lit (.int .u8 20), .lit (.int .u8 31), .lit (.int .u8 10), .lit (.int .u8 25), .lit (.int .u8 14), .lit (.int .u8 19), .lit (.int .u8 9), .lit (.int .u8 13), .lit (.int .u8 8), .lit (.int .u8 7), .lit (.int .u8 6)]
def laid_internal_strconv_uint64pow10 {H : Type} : DataW H := .agg [.lit (.int .u64 1), .lit (.int .u64 10), .lit (.int .u64 100), .lit (.int .u64 1000), .lit (.int .u64 10000), .lit (.int .u64 100000), .lit (.int .u64 1000000), .lit (.int .u64 10000000), .lit (.int .u64 100000000), .lit (.int .u64 1000000000), .lit (.int .u64 10000000000), .lit (.int .u64 100000000000), .lit (.int .u64 1000000000000), .lit (.int .u64 10000000000000), .lit (.int .u64 100000000000000), .lit (.int .u64 1000000000000000), .lit (.int .u64 10000000000000000), .lit (.int .u64 100000000000000000), .lit (.int .u64 1000000000000000000), .lit (.int .u64 10000000000000000000)]
def laid_hopmesh_power_decade {H : Type} : DataW H := .agg [.lit (.int .i64 1000), .lit (.int .i64 1259), .lit (.int .i64 1585), .lit (.int .i64 1995), .lit (.int .i64 2512), .lit (.int .i64 3162), .lit (.int .i64 3981), .lit (.int .i64 5012), .lit (.int .i64 6310), .lit (.int .i64 7943)]
def laid_strconv_ErrRange {H : Type} : DataW H := .iface "*errors.errorString" (.ptr (.agg [.lit (.string [118, 97, 108, 117, 101, 32, 111, 117, 116, 32, 111, 102, 32, 114, 97, 110, 103, 101])]))
def laid_strconv_ErrSyntax {H : Type} : DataW H := .iface "*errors.errorString" (.ptr (.agg [.lit (.string [105, 110, 118, 97, 108, 105, 100, 32, 115, 121, 110, 116, 97, 120])]))

/-- 'hopmeshlaw04.PowerLevels': WHATEVER THE INPUT: true; the input reads as it did. -/
def powerLevelsSpec : ChangeSpec := { name := "powerLevels", fn := fun _ => fun
  | [d1, d2, d3] => { results := [.lit (.bool true)], args := [d1, d2, d3] }
  | _ => none }
def powerLevelsRow : OpenClaim := { program := "ytkbdjpdpcbeciaadoor", sum := "902fa94f5b5bc9292f909a136973ff5c4699c9827b8c9952d54d8a8108fe7359", func := "hopmesh/hopmeshlaw04.PowerLevels", spec := "powerLevels", unfollowed := true, recurses := true, named := ["hopmesh/power.decade", "internal/strconv.uint64pow10", "math/bits.deBruijn32tab", "math/bits.deBruijn64tab"], apart := false, laid := [("math/bits.deBruijn32tab", laid_math_bits_deBruijn32tab), ("math/bits.deBruijn64tab", laid_math_bits_deBruijn64tab), ("internal/strconv.uint64pow10", laid_internal_strconv_uint64pow10), ("hopmesh/power.decade", laid_hopmesh_power_decade)] }
def PowerLevelsSaid : Prop := powerLevelsRow.holds Tryd.pinned (OpenSpec.ofChange powerLevelsSpec)

/-- ITS FALSE NEIGHBOUR: 'it returns false'. Refute it at one input. -/
def powerLevelsWrong : ChangeSpec := { name := "powerLevels", fn := fun _ => fun
  | [d1, d2, d3] => { results := [.lit (.bool false)], args := [d1, d2, d3] }
  | _ => none }
def PowerLevelsWrongFalsely : Prop := powerLevelsRow.holds Tryd.pinned (OpenSpec.ofChange powerLevelsWrong)

/-- 'hopmeshlaw04.PowerReceives': WHATEVER THE INPUT: true; the input reads as it did. -/
def powerReceivesSpec : ChangeSpec := { name := "powerReceives", fn := fun _ => fun
  | [d1, d2] => { results := [.lit (.bool true)], args := [d1, d2] }
  | _ => none }
def powerReceivesRow : OpenClaim := { program := "ytkbdjpdpcbeciaadoor", sum := "902fa94f5b5bc9292f909a136973ff5c4699c9827b8c9952d54d8a8108fe7359", func := "hopmesh/hopmeshlaw04.PowerReceives", spec := "powerReceives", unfollowed := true, recurses := true, named := ["hopmesh/power.decade", "internal/strconv.uint64pow10", "math/bits.deBruijn32tab", "math/bits.deBruijn64tab"], apart := false, laid := [("math/bits.deBruijn32tab", laid_math_bits_deBruijn32tab), ("math/bits.deBruijn64tab", laid_math_bits_deBruijn64tab), ("internal/strconv.uint64pow10", laid_internal_strconv_uint64pow10), ("hopmesh/power.decade", laid_hopmesh_power_decade)] }
def PowerReceivesSaid : Prop := powerReceivesRow.holds Tryd.pinned (OpenSpec.ofChange powerReceivesSpec)

/-- ITS FALSE NEIGHBOUR: 'it returns false'. Refute it at one input. -/
def powerReceivesWrong : ChangeSpec := { name := "powerReceives", fn := fun _ => fun
  | [d1, d2] => { results := [.lit (.bool false)], args := [d1, d2] }
  | _ => none }
def PowerReceivesWrongFalsely : Prop := powerReceivesRow.holds Tryd.pinned (OpenSpec.ofChange powerReceivesWrong)

/-- 'hopmeshlaw04.PowerTexts': WHATEVER THE INPUT: true; the input reads as it did. -/
def powerTextsSpec : ChangeSpec := { name := "powerTexts", fn := fun _ => fun
  | [d1, d2] => { results := [.lit (.bool true)], args := [d1, d2] }
  | _ => none }
def powerTextsRow : OpenClaim := { program := "ytkbdjpdpcbeciaadoor", sum := "902fa94f5b5bc9292f909a136973ff5c4699c9827b8c9952d54d8a8108fe7359", func := "hopmesh/hopmeshlaw04.PowerTexts", spec := "powerTexts", unfollowed := true, recurses := true, named := ["hopmesh/power.decade", "internal/strconv.uint64pow10", "math/bits.deBruijn32tab", "math/bits.deBruijn64tab", "strconv.ErrSyntax", "strconv.ErrRange"], apart := false, laid := [("math/bits.deBruijn32tab", laid_math_bits_deBruijn32tab), ("math/bits.deBruijn64tab", laid_math_bits_deBruijn64tab), ("internal/strconv.uint64pow10", laid_internal_strconv_uint64pow10), ("strconv.ErrRange", laid_strconv_ErrRange), ("strconv.ErrSyntax", laid_strconv_ErrSyntax), ("hopmesh/power.decade", laid_hopmesh_power_decade)] }
def PowerTextsSaid : Prop := powerTextsRow.holds Tryd.pinned (OpenSpec.ofChange powerTextsSpec)

/-- ITS FALSE NEIGHBOUR: 'it returns false'. Refute it at one input. -/
def powerTextsWrong : ChangeSpec := { name := "powerTexts", fn := fun _ => fun
  | [d1, d2] => { results := [.lit (.bool false)], args := [d1, d2] }
  | _ => none }
def PowerTextsWrongFalsely : Prop := powerTextsRow.holds Tryd.pinned (OpenSpec.ofChange powerTextsWrong)

/-- 'hopmeshlaw04.PowerOrder': WHATEVER THE INPUT: true; the input reads as it did. -/
def powerOrderSpec : ChangeSpec := { name := "powerOrder", fn := fun _ => fun
  | [d1, d2] => { results := [.lit (.bool true)], args := [d1, d2] }
  | _ => none }
def powerOrderRow : OpenClaim := { program := "ytkbdjpdpcbeciaadoor", sum := "902fa94f5b5bc9292f909a136973ff5c4699c9827b8c9952d54d8a8108fe7359", func := "hopmesh/hopmeshlaw04.PowerOrder", spec := "powerOrder", unfollowed := true, recurses := true, named := ["hopmesh/power.decade", "internal/strconv.uint64pow10", "math/bits.deBruijn32tab", "math/bits.deBruijn64tab"], apart := false, laid := [("math/bits.deBruijn32tab", laid_math_bits_deBruijn32tab), ("math/bits.deBruijn64tab", laid_math_bits_deBruijn64tab), ("internal/strconv.uint64pow10", laid_internal_strconv_uint64pow10), ("hopmesh/power.decade", laid_hopmesh_power_decade)] }
def PowerOrderSaid : Prop := powerOrderRow.holds Tryd.pinned (OpenSpec.ofChange powerOrderSpec)

/-- ITS FALSE NEIGHBOUR: 'it returns false'. Refute it at one input. -/
def powerOrderWrong : ChangeSpec := { name := "powerOrder", fn := fun _ => fun
  | [d1, d2] => { results := [.lit (.bool false)], args := [d1, d2] }
  | _ => none }
def PowerOrderWrongFalsely : Prop := powerOrderRow.holds Tryd.pinned (OpenSpec.ofChange powerOrderWrong)

/-- 'hopmeshlaw04.PowerMonotone': WHATEVER THE INPUT: true; the input reads as it did. -/
def powerMonotoneSpec : ChangeSpec := { name := "powerMonotone", fn := fun _ => fun
  | [d1, d2, d3] => { results := [.lit (.bool true)], args := [d1, d2, d3] }
  | _ => none }
def powerMonotoneRow : OpenClaim := { program := "ytkbdjpdpcbeciaadoor", sum := "902fa94f5b5bc9292f909a136973ff5c4699c9827b8c9952d54d8a8108fe7359", func := "hopmesh/hopmeshlaw04.PowerMonotone", spec := "powerMonotone", unfollowed := true, recurses := true, named := ["hopmesh/power.decade", "internal/strconv.uint64pow10", "math/bits.deBruijn32tab", "math/bits.deBruijn64tab"], apart := false, laid := [("math/bits.deBruijn32tab", laid_math_bits_deBruijn32tab), ("math/bits.deBruijn64tab", laid_math_bits_deBruijn64tab), ("internal/strconv.uint64pow10", laid_internal_strconv_uint64pow10), ("hopmesh/power.decade", laid_hopmesh_power_decade)] }
def PowerMonotoneSaid : Prop := powerMonotoneRow.holds Tryd.pinned (OpenSpec.ofChange powerMonotoneSpec)

/-- ITS FALSE NEIGHBOUR: 'it returns false'. Refute it at one input. -/
def powerMonotoneWrong : ChangeSpec := { name := "powerMonotone", fn := fun _ => fun
  | [d1, d2, d3] => { results := [.lit (.bool false)], args := [d1, d2, d3] }
  | _ => none }
def PowerMonotoneWrongFalsely : Prop := powerMonotoneRow.holds Tryd.pinned (OpenSpec.ofChange powerMonotoneWrong)

/-- 'hopmeshlaw04.PowerMargins': WHATEVER THE INPUT: true; the input reads as it did. -/
def powerMarginsSpec : ChangeSpec := { name := "powerMargins", fn := fun _ => fun
  | [d] => { results := [.lit (.bool true)], args := [d] }
  | _ => none }
def powerMarginsRow : OpenClaim := { program := "ytkbdjpdpcbeciaadoor", sum := "902fa94f5b5bc9292f909a136973ff5c4699c9827b8c9952d54d8a8108fe7359", func := "hopmesh/hopmeshlaw04.PowerMargins", spec := "powerMargins", unfollowed := true, recurses := true, named := ["hopmesh/power.decade", "internal/strconv.uint64pow10", "math/bits.deBruijn32tab", "math/bits.deBruijn64tab"], apart := false, laid := [("math/bits.deBruijn32tab", laid_math_bits_deBruijn32tab), ("math/bits.deBruijn64tab", laid_math_bits_deBruijn64tab), ("internal/strconv.uint64pow10", laid_internal_strconv_uint64pow10), ("hopmesh/power.decade", laid_hopmesh_power_decade)] }
def PowerMarginsSaid : Prop := powerMarginsRow.holds Tryd.pinned (OpenSpec.ofChange powerMarginsSpec)

/-- ITS FALSE NEIGHBOUR: 'it returns false'. Refute it at one input. -/
def powerMarginsWrong : ChangeSpec := { name := "powerMargins", fn := fun _ => fun
  | [d] => { results := [.lit (.bool false)], args := [d] }
  | _ => none }
def PowerMarginsWrongFalsely : Prop := powerMarginsRow.holds Tryd.pinned (OpenSpec.ofChange powerMarginsWrong)

/-- 'hopmeshlaw04.PowerCapture': WHATEVER THE INPUT: true; the input reads as it did. -/
def powerCaptureSpec : ChangeSpec := { name := "powerCapture", fn := fun _ => fun
  | [d1, d2, d3] => { results := [.lit (.bool true)], args := [d1, d2, d3] }
  | _ => none }
def powerCaptureRow : OpenClaim := { program := "ytkbdjpdpcbeciaadoor", sum := "902fa94f5b5bc9292f909a136973ff5c4699c9827b8c9952d54d8a8108fe7359", func := "hopmesh/hopmeshlaw04.PowerCapture", spec := "powerCapture", unfollowed := true, recurses := true, named := ["hopmesh/power.decade", "internal/strconv.uint64pow10", "math/bits.deBruijn32tab", "math/bits.deBruijn64tab"], apart := false, laid := [("math/bits.deBruijn32tab", laid_math_bits_deBruijn32tab), ("math/bits.deBruijn64tab", laid_math_bits_deBruijn64tab), ("internal/strconv.uint64pow10", laid_internal_strconv_uint64pow10), ("hopmesh/power.decade", laid_hopmesh_power_decade)] }
def PowerCaptureSaid : Prop := powerCaptureRow.holds Tryd.pinned (OpenSpec.ofChange powerCaptureSpec)

/-- ITS FALSE NEIGHBOUR: 'it returns false'. Refute it at one input. -/
def powerCaptureWrong : ChangeSpec := { name := "powerCapture", fn := fun _ => fun
  | [d1, d2, d3] => { results := [.lit (.bool false)], args := [d1, d2, d3] }
  | _ => none }
def PowerCaptureWrongFalsely : Prop := powerCaptureRow.holds Tryd.pinned (OpenSpec.ofChange powerCaptureWrong)

/-- 'hopmeshlaw04.PowerScales': WHATEVER THE INPUT: true; the input reads as it did. -/
def powerScalesSpec : ChangeSpec := { name := "powerScales", fn := fun _ => fun
  | [d1, d2, d3] => { results := [.lit (.bool true)], args := [d1, d2, d3] }
  | _ => none }
def powerScalesRow : OpenClaim := { program := "ytkbdjpdpcbeciaadoor", sum := "902fa94f5b5bc9292f909a136973ff5c4699c9827b8c9952d54d8a8108fe7359", func := "hopmesh/hopmeshlaw04.PowerScales", spec := "powerScales", unfollowed := true, recurses := true, named := ["hopmesh/power.decade", "internal/strconv.uint64pow10", "math/bits.deBruijn32tab", "math/bits.deBruijn64tab"], apart := false, laid := [("math/bits.deBruijn32tab", laid_math_bits_deBruijn32tab), ("math/bits.deBruijn64tab", laid_math_bits_deBruijn64tab), ("internal/strconv.uint64pow10", laid_internal_strconv_uint64pow10), ("hopmesh/power.decade", laid_hopmesh_power_decade)] }
def PowerScalesSaid : Prop := powerScalesRow.holds Tryd.pinned (OpenSpec.ofChange powerScalesSpec)

/-- ITS FALSE NEIGHBOUR: 'it returns false'. Refute it at one input. -/
def powerScalesWrong : ChangeSpec := { name := "powerScales", fn := fun _ => fun
  | [d1, d2, d3] => { results := [.lit (.bool false)], args := [d1, d2, d3] }
  | _ => none }
def PowerScalesWrongFalsely : Prop := powerScalesRow.holds Tryd.pinned (OpenSpec.ofChange powerScalesWrong)

/- THE SECOND FORM. 'bulk': how many values and letters a reading holds, each counted each time it is reached (what is shared counts as often as it is met; a slice's spare places count too). A statement '..UptoSaid' is the law's where the arguments, and the package variables that the reading takes, are together of bulk at most 1048576: NARROWER than '..Said'. Prove '..Said' where nothing that the law and all that it calls make is longer than what came in: it says more and counts as full. Else prove '..UptoSaid'. A law counts once. -/
mutual
def uptoBulk {H : Type} : DataW H → Nat
  | .lit (.string bytes) => bytes.length + 1
  | .lit _ => 1
  | .nil => 1
  | .ptr d => uptoBulk d + 1
  | .slice elems spare => uptoBulkAll elems + uptoBulkAll spare + 1
  | .agg parts => uptoBulkAll parts + 1
  | .iface _ d => uptoBulk d + 1
  | .map entries => uptoBulkEntries entries + 1
  | .held _ => 1
def uptoBulkAll {H : Type} : List (DataW H) → Nat
  | [] => 0
  | d :: r => uptoBulk d + uptoBulkAll r
def uptoBulkEntries {H : Type} : List (Lit × DataW H) → Nat
  | [] => 0
  | x :: r => uptoBulkEntry x + uptoBulkEntries r
def uptoBulkEntry {H : Type} : Lit × DataW H → Nat
  | (.string bytes, d) => bytes.length + uptoBulk d + 1
  | (_, d) => uptoBulk d + 1
 end
def uptoSmall : (H : Type) → List (DataW H) → Bool := fun _ ds => decide (uptoBulkAll ds ≤ 1048576)
def OpenSpec.upto (s : _root_.Go.ChangeSpec) : _root_.Go.OpenSpec := { _root_.Go.OpenSpec.ofChange s with cond := some uptoSmall }

/-- 'hopmeshlaw04.PowerLevels', WHERE WHAT IT READS IS OF BULK AT MOST 1048576: true; the input reads as it did. -/
def powerLevelsUptoRow : OpenClaim := { program := "ytkbdjpdpcbeciaadoor", sum := "902fa94f5b5bc9292f909a136973ff5c4699c9827b8c9952d54d8a8108fe7359", func := "hopmesh/hopmeshlaw04.PowerLevels", spec := "powerLevels", unfollowed := true, recurses := true, named := ["hopmesh/power.decade", "internal/strconv.uint64pow10", "math/bits.deBruijn32tab", "math/bits.deBruijn64tab"], apart := false, laid := [("math/bits.deBruijn32tab", laid_math_bits_deBruijn32tab), ("math/bits.deBruijn64tab", laid_math_bits_deBruijn64tab), ("internal/strconv.uint64pow10", laid_internal_strconv_uint64pow10), ("hopmesh/power.decade", laid_hopmesh_power_decade)], narrowed := true }
def PowerLevelsUptoSaid : Prop := powerLevelsUptoRow.holds Tryd.pinned (OpenSpec.upto powerLevelsSpec)

/-- 'hopmeshlaw04.PowerReceives', WHERE WHAT IT READS IS OF BULK AT MOST 1048576: true; the input reads as it did. -/
def powerReceivesUptoRow : OpenClaim := { program := "ytkbdjpdpcbeciaadoor", sum := "902fa94f5b5bc9292f909a136973ff5c4699c9827b8c9952d54d8a8108fe7359", func := "hopmesh/hopmeshlaw04.PowerReceives", spec := "powerReceives", unfollowed := true, recurses := true, named := ["hopmesh/power.decade", "internal/strconv.uint64pow10", "math/bits.deBruijn32tab", "math/bits.deBruijn64tab"], apart := false, laid := [("math/bits.deBruijn32tab", laid_math_bits_deBruijn32tab), ("math/bits.deBruijn64tab", laid_math_bits_deBruijn64tab), ("internal/strconv.uint64pow10", laid_internal_strconv_uint64pow10), ("hopmesh/power.decade", laid_hopmesh_power_decade)], narrowed := true }
def PowerReceivesUptoSaid : Prop := powerReceivesUptoRow.holds Tryd.pinned (OpenSpec.upto powerReceivesSpec)

/-- 'hopmeshlaw04.PowerTexts', WHERE WHAT IT READS IS OF BULK AT MOST 1048576: true; the input reads as it did. -/
def powerTextsUptoRow : OpenClaim := { program := "ytkbdjpdpcbeciaadoor", sum := "902fa94f5b5bc9292f909a136973ff5c4699c9827b8c9952d54d8a8108fe7359", func := "hopmesh/hopmeshlaw04.PowerTexts", spec := "powerTexts", unfollowed := true, recurses := true, named := ["hopmesh/power.decade", "internal/strconv.uint64pow10", "math/bits.deBruijn32tab", "math/bits.deBruijn64tab", "strconv.ErrSyntax", "strconv.ErrRange"], apart := false, laid := [("math/bits.deBruijn32tab", laid_math_bits_deBruijn32tab), ("math/bits.deBruijn64tab", laid_math_bits_deBruijn64tab), ("internal/strconv.uint64pow10", laid_internal_strconv_uint64pow10), ("strconv.ErrRange", laid_strconv_ErrRange), ("strconv.ErrSyntax", laid_strconv_ErrSyntax), ("hopmesh/power.decade", laid_hopmesh_power_decade)], narrowed := true }
def PowerTextsUptoSaid : Prop := powerTextsUptoRow.holds Tryd.pinned (OpenSpec.upto powerTextsSpec)

/-- 'hopmeshlaw04.PowerOrder', WHERE WHAT IT READS IS OF BULK AT MOST 1048576: true; the input reads as it did. -/
def powerOrderUptoRow : OpenClaim := { program := "ytkbdjpdpcbeciaadoor", sum := "902fa94f5b5bc9292f909a136973ff5c4699c9827b8c9952d54d8a8108fe7359", func := "hopmesh/hopmeshlaw04.PowerOrder", spec := "powerOrder", unfollowed := true, recurses := true, named := ["hopmesh/power.decade", "internal/strconv.uint64pow10", "math/bits.deBruijn32tab", "math/bits.deBruijn64tab"], apart := false, laid := [("math/bits.deBruijn32tab", laid_math_bits_deBruijn32tab), ("math/bits.deBruijn64tab", laid_math_bits_deBruijn64tab), ("internal/strconv.uint64pow10", laid_internal_strconv_uint64pow10), ("hopmesh/power.decade", laid_hopmesh_power_decade)], narrowed := true }
def PowerOrderUptoSaid : Prop := powerOrderUptoRow.holds Tryd.pinned (OpenSpec.upto powerOrderSpec)

/-- 'hopmeshlaw04.PowerMonotone', WHERE WHAT IT READS IS OF BULK AT MOST 1048576: true; the input reads as it did. -/
def powerMonotoneUptoRow : OpenClaim := { program := "ytkbdjpdpcbeciaadoor", sum := "902fa94f5b5bc9292f909a136973ff5c4699c9827b8c9952d54d8a8108fe7359", func := "hopmesh/hopmeshlaw04.PowerMonotone", spec := "powerMonotone", unfollowed := true, recurses := true, named := ["hopmesh/power.decade", "internal/strconv.uint64pow10", "math/bits.deBruijn32tab", "math/bits.deBruijn64tab"], apart := false, laid := [("math/bits.deBruijn32tab", laid_math_bits_deBruijn32tab), ("math/bits.deBruijn64tab", laid_math_bits_deBruijn64tab), ("internal/strconv.uint64pow10", laid_internal_strconv_uint64pow10), ("hopmesh/power.decade", laid_hopmesh_power_decade)], narrowed := true }
def PowerMonotoneUptoSaid : Prop := powerMonotoneUptoRow.holds Tryd.pinned (OpenSpec.upto powerMonotoneSpec)

/-- 'hopmeshlaw04.PowerMargins', WHERE WHAT IT READS IS OF BULK AT MOST 1048576: true; the input reads as it did. -/
def powerMarginsUptoRow : OpenClaim := { program := "ytkbdjpdpcbeciaadoor", sum := "902fa94f5b5bc9292f909a136973ff5c4699c9827b8c9952d54d8a8108fe7359", func := "hopmesh/hopmeshlaw04.PowerMargins", spec := "powerMargins", unfollowed := true, recurses := true, named := ["hopmesh/power.decade", "internal/strconv.uint64pow10", "math/bits.deBruijn32tab", "math/bits.deBruijn64tab"], apart := false, laid := [("math/bits.deBruijn32tab", laid_math_bits_deBruijn32tab), ("math/bits.deBruijn64tab", laid_math_bits_deBruijn64tab), ("internal/strconv.uint64pow10", laid_internal_strconv_uint64pow10), ("hopmesh/power.decade", laid_hopmesh_power_decade)], narrowed := true }
def PowerMarginsUptoSaid : Prop := powerMarginsUptoRow.holds Tryd.pinned (OpenSpec.upto powerMarginsSpec)

/-- 'hopmeshlaw04.PowerCapture', WHERE WHAT IT READS IS OF BULK AT MOST 1048576: true; the input reads as it did. -/
def powerCaptureUptoRow : OpenClaim := { program := "ytkbdjpdpcbeciaadoor", sum := "902fa94f5b5bc9292f909a136973ff5c4699c9827b8c9952d54d8a8108fe7359", func := "hopmesh/hopmeshlaw04.PowerCapture", spec := "powerCapture", unfollowed := true, recurses := true, named := ["hopmesh/power.decade", "internal/strconv.uint64pow10", "math/bits.deBruijn32tab", "math/bits.deBruijn64tab"], apart := false, laid := [("math/bits.deBruijn32tab", laid_math_bits_deBruijn32tab), ("math/bits.deBruijn64tab", laid_math_bits_deBruijn64tab), ("internal/strconv.uint64pow10", laid_internal_strconv_uint64pow10), ("hopmesh/power.decade", laid_hopmesh_power_decade)], narrowed := true }
def PowerCaptureUptoSaid : Prop := powerCaptureUptoRow.holds Tryd.pinned (OpenSpec.upto powerCaptureSpec)

/-- 'hopmeshlaw04.PowerScales', WHERE WHAT IT READS IS OF BULK AT MOST 1048576: true; the input reads as it did. -/
def powerScalesUptoRow : OpenClaim := { program := "ytkbdjpdpcbeciaadoor", sum := "902fa94f5b5bc9292f909a136973ff5c4699c9827b8c9952d54d8a8108fe7359", func := "hopmesh/hopmeshlaw04.PowerScales", spec := "powerScales", unfollowed := true, recurses := true, named := ["hopmesh/power.decade", "internal/strconv.uint64pow10", "math/bits.deBruijn32tab", "math/bits.deBruijn64tab"], apart := false, laid := [("math/bits.deBruijn32tab", laid_math_bits_deBruijn32tab), ("math/bits.deBruijn64tab", laid_math_bits_deBruijn64tab), ("internal/strconv.uint64pow10", laid_internal_strconv_uint64pow10), ("hopmesh/power.decade", laid_hopmesh_power_decade)], narrowed := true }
def PowerScalesUptoSaid : Prop := powerScalesUptoRow.holds Tryd.pinned (OpenSpec.upto powerScalesSpec)

end Rows
end Go.Proofs.YtkbdjpdpcbeciaaDoor
