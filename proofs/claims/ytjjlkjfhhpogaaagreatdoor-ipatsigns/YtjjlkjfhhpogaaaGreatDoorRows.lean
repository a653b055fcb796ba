/-
  NARROWER THAN 'FOR EVERY INPUT', by the rows' own cells (each row's printed sentence says how): IpatParses: laid · IpatPrints: loops, laid · IpatBack: loops, laid · IpatSigns: loops, laid · JpatPrints: loops, laid · JpatBack: loops, laid · JpatBoth: loops, laid.
  DERIVED. THE GIVEN ROWS OF THIS SEAT. 7 by the template 'for every input the law returns true; each argument reads behind the call as it read before'; 0 by the template 'total and deterministic' (their statements: YtjjlkjfhhpogaaaGreatDoorTotals.lean).
  GIVEN WITH THE SEED: the statements are not yours to turn. If you find one false, say at which input.
  Laid BY PROGRAM, IN A SANDBOX (cutbox-rows.mjs): the forced cells as the released guide's own fill.sh prints them over the translation cdbd60c166ffbf41… (all of the seat's roots in one cut). By AI agents, Wed Nov 11 2026. No macro, syntax, notation, axiom, sorry.
-/
import Derived.Test.YtjjlkjfhhpogaaaGreatDoorChecked
import GoSem.Claim
import GoSem.ClaimJoined
import GoSem.ClaimMapViews
import Derived.JoinedTies
import Derived.KernelRfl
namespace Go.Proofs.YtjjlkjfhhpogaaaGreatDoor
/- THE CELL 'sum', in the pinned program and in every row, IS THE sha256 OF THE DUMP (.gsa) THAT YtjjlkjfhhpogaaaGreatDoorProg.lean LOADS. Nothing in Lean hashes anything: it is a label: what it is worth is what the hold of that sum in a sandbox is worth. -/
noncomputable def Tryz.pinned : Pinned := { name := "ytjjlkjfhhpogaaagreatdoor", sum := "cdbd60c166ffbf41a31a19872ee06b83c6f62a3bf2107f3c1db6fe107723f5ac", checked := Tryz.checked }
namespace Rows
def none {H : Type} : Left H := { results := [], args := [] }

/- WHAT THE LISTED PACKAGE-LEVEL VARIABLES READ AS WHEN THE CALL BEGINS. Each datum BY PROGRAM (the guide's laid-datum.mjs) off the statement by which the dump's own 'gosem.cut.vars' lays the variable. In a bare row this is a premise. The card (YtjjlkjfhhpogaaaGreatDoorCards.lean) ties it to the program's text. -/
def laid_math_bits_deBruijn32tab {H : Type} : DataW H := .agg [.lit (.int .u8 0), .lit (.int .u8 1), .lit (.int .u8 28), .lit (.int .u8 2), .lit (.int .u8 29), .lit (.int .u8 14), .lit (.int .u8 24), .lit (.int .u8 3), .lit (.int .u8 30), .lit (.int .u8 22), .lit (.int .u8 20), .lit (.int .u8 15), .lit (.int .u8 25), .lit (.int .u8 17), .lit (.int .u8 4), .lit (.int .u8 8), .lit (.int .u8 31), .lit (.int .u8 27), .lit (.int .u8 13), .lit (.int .u8 23), .lit (.int .u8 21), .lit (.int .u8 19), .lit (.int .u8 16), .lit (.int .u8 7), .lit (.int .u8 26), .lit (.int .u8 12), .lit (.int .u8 18), .lit (.int .u8 6), .lit (.int .u8 11), .lit (.int .u8 5), .lit (.int .u8 10), .lit (.int .u8 9)]
def laid_math_bits_deBruijn64tab {H : Type} : DataW H := .agg [.lit (.int .u8 0), .lit (.int .u8 1), .lit (.int .u8 56), .lit (.int .u8 2), .lit (.int .u8 57), .lit (.int .u8 49), .lit (.int .u8 28), .lit (.int .u8 3), .lit (.int .u8 61), .lit (.int .u8 58), .lit (.int .u8 42), .lit (.int .u8 50), .lit (.int .u8 38), .lit (.int .u8 29), .lit (.int .u8 17), .lit (.int .u8 4), .lit (.int .u8 62), .lit (.int .u8 47), .lit (.int .u8 59), .lit (.int .u8 36), .lit (.int .u8 45), .lit (.int .u8 43), .lit (.int .u8 51), .lit (.int .u8 22), .lit (.int .u8 53), .lit (.int .u8 39), .lit (.int .u8 33), .lit (.int .u8 30), .lit (.int .u8 24), .lit (.int .u8 18), .lit (.int .u8 12), .lit (.int .u8 5), .lit (.int .u8 63), .lit (.int .u8 55), .lit (.int .u8 48), .lit (.int .u8 27), .lit (.int .u8 60), .lit (.int .u8 41), .lit (.int .u8 37), .lit (.int .u8 16), .lit (.int .u8 46), .lit (.int .u8 35), .lit (.int .u8 44), .lit (.int .u8 21), .lit (.int .u8 52), .lit (.int .u8 32), .lit (.int .u8 23), .lit (.int .u8 11), .lit (.int .u8 54), .lit (.int .u8 26), .lit (.int .u8 40), .lit (.int .u8 15), .lit (.int .u8 34), .lit (.int .u8 20), .lit (.int .u8 31), .lit (.int .u8 10), .lit (.int .u8 25), .lit (.int .u8 14), .lit (.int .u8 19), .lit (.int .u8 9), .lit (.int .u8 13), .lit (.int .u8 8), .lit (.int .u8 7), .lit (.int .u8 6)]
def laid_internal_strconv_uint64pow10 {H : Type} : DataW H := .agg [.lit (.int .u64 1), .lit (.int .u64 10), .lit (.int .u64 100), .lit (.int .u64 1000), .lit (.int .u64 10000), .lit (.int .u64 100000), .lit (.int .u64 1000000), .lit (.int .u64 10000000), .lit (.int .u64 100000000), .lit (.int .u64 1000000000), .lit (.int .u64 10000000000), .lit (.int .u64 100000000000), .lit (.int .u64 1000000000000), .lit (.int .u64 10000000000000), .lit (.int .u64 100000000000000), .lit (.int .u64 1000000000000000), .lit (.int .u64 10000000000000000), .lit (.int .u64 100000000000000000), .lit (.int .u64 1000000000000000000), .lit (.int .u64 10000000000000000000)]

/-- 'dragomanlaw06.IpatParses': WHATEVER THE INPUT: true; the input reads as it did. -/
def ipatParsesSpec : ChangeSpec := { name := "ipatParses", fn := fun _ => fun
  | [d] => { results := [.lit (.bool true)], args := [d] }
  | _ => none }
def ipatParsesRow : OpenClaim := { program := "ytjjlkjfhhpogaaagreatdoor", sum := "cdbd60c166ffbf41a31a19872ee06b83c6f62a3bf2107f3c1db6fe107723f5ac", func := "dragoman/dragomanlaw06.IpatParses", spec := "ipatParses", inPlace := ["internal/abi.NoEscape", "internal/bytealg.MakeNoZero"], unfollowed := true, recurses := true, named := ["internal/strconv.uint64pow10", "math/bits.deBruijn32tab", "math/bits.deBruijn64tab"], apart := false, laid := [("math/bits.deBruijn32tab", laid_math_bits_deBruijn32tab), ("math/bits.deBruijn64tab", laid_math_bits_deBruijn64tab), ("internal/strconv.uint64pow10", laid_internal_strconv_uint64pow10)] }
def IpatParsesSaid : Prop := ipatParsesRow.holds Tryz.pinned (OpenSpec.ofChange ipatParsesSpec)

/-- ITS FALSE NEIGHBOUR: 'it returns false'. Refute it at one input. -/
def ipatParsesWrong : ChangeSpec := { name := "ipatParses", fn := fun _ => fun
  | [d] => { results := [.lit (.bool false)], args := [d] }
  | _ => none }
def IpatParsesWrongFalsely : Prop := ipatParsesRow.holds Tryz.pinned (OpenSpec.ofChange ipatParsesWrong)

/-- 'dragomanlaw06.IpatPrints': WHATEVER THE INPUT: true; the input reads as it did. -/
def ipatPrintsSpec : ChangeSpec := { name := "ipatPrints", fn := fun _ => fun
  | [d] => { results := [.lit (.bool true)], args := [d] }
  | _ => none }
def ipatPrintsRow : OpenClaim := { program := "ytjjlkjfhhpogaaagreatdoor", sum := "cdbd60c166ffbf41a31a19872ee06b83c6f62a3bf2107f3c1db6fe107723f5ac", func := "dragoman/dragomanlaw06.IpatPrints", spec := "ipatPrints", inPlace := ["internal/abi.NoEscape", "internal/bytealg.MakeNoZero"], unfollowed := true, recurses := true, named := ["internal/strconv.uint64pow10", "math/bits.deBruijn32tab", "math/bits.deBruijn64tab"], loops := true, apart := false, laid := [("math/bits.deBruijn32tab", laid_math_bits_deBruijn32tab), ("math/bits.deBruijn64tab", laid_math_bits_deBruijn64tab), ("internal/strconv.uint64pow10", laid_internal_strconv_uint64pow10)] }
def IpatPrintsSaid : Prop := ipatPrintsRow.holds Tryz.pinned (OpenSpec.ofChange ipatPrintsSpec)

/-- ITS FALSE NEIGHBOUR: 'it returns false'. Refute it at one input. -/
def ipatPrintsWrong : ChangeSpec := { name := "ipatPrints", fn := fun _ => fun
  | [d] => { results := [.lit (.bool false)], args := [d] }
  | _ => none }
def IpatPrintsWrongFalsely : Prop := ipatPrintsRow.holds Tryz.pinned (OpenSpec.ofChange ipatPrintsWrong)

/-- 'dragomanlaw06.IpatBack': WHATEVER THE INPUT: true; the input reads as it did. -/
def ipatBackSpec : ChangeSpec := { name := "ipatBack", fn := fun _ => fun
  | [d1, d2] => { results := [.lit (.bool true)], args := [d1, d2] }
  | _ => none }
def ipatBackRow : OpenClaim := { program := "ytjjlkjfhhpogaaagreatdoor", sum := "cdbd60c166ffbf41a31a19872ee06b83c6f62a3bf2107f3c1db6fe107723f5ac", func := "dragoman/dragomanlaw06.IpatBack", spec := "ipatBack", inPlace := ["internal/abi.NoEscape", "internal/bytealg.MakeNoZero"], unfollowed := true, recurses := true, named := ["internal/strconv.uint64pow10", "math/bits.deBruijn32tab", "math/bits.deBruijn64tab"], loops := true, apart := false, laid := [("math/bits.deBruijn32tab", laid_math_bits_deBruijn32tab), ("math/bits.deBruijn64tab", laid_math_bits_deBruijn64tab), ("internal/strconv.uint64pow10", laid_internal_strconv_uint64pow10)] }
def IpatBackSaid : Prop := ipatBackRow.holds Tryz.pinned (OpenSpec.ofChange ipatBackSpec)

/-- ITS FALSE NEIGHBOUR: 'it returns false'. Refute it at one input. -/
def ipatBackWrong : ChangeSpec := { name := "ipatBack", fn := fun _ => fun
  | [d1, d2] => { results := [.lit (.bool false)], args := [d1, d2] }
  | _ => none }
def IpatBackWrongFalsely : Prop := ipatBackRow.holds Tryz.pinned (OpenSpec.ofChange ipatBackWrong)

/-- 'dragomanlaw06.IpatSigns': WHATEVER THE INPUT: true; the input reads as it did. -/
def ipatSignsSpec : ChangeSpec := { name := "ipatSigns", fn := fun _ => fun
  | [d1, d2] => { results := [.lit (.bool true)], args := [d1, d2] }
  | _ => none }
def ipatSignsRow : OpenClaim := { program := "ytjjlkjfhhpogaaagreatdoor", sum := "cdbd60c166ffbf41a31a19872ee06b83c6f62a3bf2107f3c1db6fe107723f5ac", func := "dragoman/dragomanlaw06.IpatSigns", spec := "ipatSigns", inPlace := ["internal/abi.NoEscape", "internal/bytealg.MakeNoZero"], unfollowed := true, recurses := true, named := ["internal/strconv.uint64pow10", "math/bits.deBruijn32tab", "math/bits.deBruijn64tab"], loops := true, apart := false, laid := [("math/bits.deBruijn32tab", laid_math_bits_deBruijn32tab), ("math/bits.deBruijn64tab", laid_math_bits_deBruijn64tab), ("internal/strconv.uint64pow10", laid_internal_strconv_uint64pow10)] }
def IpatSignsSaid : Prop := ipatSignsRow.holds Tryz.pinned (OpenSpec.ofChange ipatSignsSpec)

/-- ITS FALSE NEIGHBOUR: 'it returns false'. Refute it at one input. -/
def ipatSignsWrong : ChangeSpec := { name := "ipatSigns", fn := fun _ => fun
  | [d1, d2] => { results := [.lit (.bool false)], args := [d1, d2] }
  | _ => none }
def IpatSignsWrongFalsely : Prop := ipatSignsRow.holds Tryz.pinned (OpenSpec.ofChange ipatSignsWrong)

/-- 'dragomanlaw07.JpatPrints': WHATEVER THE INPUT: true; the input reads as it did. -/
def jpatPrintsSpec : ChangeSpec := { name := "jpatPrints", fn := fun _ => fun
  | [d] => { results := [.lit (.bool true)], args := [d] }
  | _ => none }
def jpatPrintsRow : OpenClaim := { program := "ytjjlkjfhhpogaaagreatdoor", sum := "cdbd60c166ffbf41a31a19872ee06b83c6f62a3bf2107f3c1db6fe107723f5ac", func := "dragoman/dragomanlaw07.JpatPrints", spec := "jpatPrints", inPlace := ["internal/abi.NoEscape", "internal/bytealg.MakeNoZero"], unfollowed := true, recurses := true, named := ["internal/strconv.uint64pow10", "math/bits.deBruijn32tab", "math/bits.deBruijn64tab"], loops := true, apart := false, laid := [("math/bits.deBruijn32tab", laid_math_bits_deBruijn32tab), ("math/bits.deBruijn64tab", laid_math_bits_deBruijn64tab), ("internal/strconv.uint64pow10", laid_internal_strconv_uint64pow10)] }
def JpatPrintsSaid : Prop := jpatPrintsRow.holds Tryz.pinned (OpenSpec.ofChange jpatPrintsSpec)

/-- ITS FALSE NEIGHBOUR: 'it returns false'. Refute it at one input. -/
def jpatPrintsWrong : ChangeSpec := { name := "jpatPrints", fn := fun _ => fun
  | [d] => { results := [.lit (.bool false)], args := [d] }
  | _ => none }
def JpatPrintsWrongFalsely : Prop := jpatPrintsRow.holds Tryz.pinned (OpenSpec.ofChange jpatPrintsWrong)

/-- 'dragomanlaw07.JpatBack': WHATEVER THE INPUT: true; the input reads as it did. -/
def jpatBackSpec : ChangeSpec := { name := "jpatBack", fn := fun _ => fun
  | [d1, d2] => { results := [.lit (.bool true)], args := [d1, d2] }
  | _ => none }
def jpatBackRow : OpenClaim := { program := "ytjjlkjfhhpogaaagreatdoor", sum := "cdbd60c166ffbf41a31a19872ee06b83c6f62a3bf2107f3c1db6fe107723f5ac", func := "dragoman/dragomanlaw07.JpatBack", spec := "jpatBack", inPlace := ["internal/abi.NoEscape", "internal/bytealg.MakeNoZero"], unfollowed := true, recurses := true, named := ["internal/strconv.uint64pow10", "math/bits.deBruijn32tab", "math/bits.deBruijn64tab"], loops := true, apart := false, laid := [("math/bits.deBruijn32tab", laid_math_bits_deBruijn32tab), ("math/bits.deBruijn64tab", laid_math_bits_deBruijn64tab), ("internal/strconv.uint64pow10", laid_internal_strconv_uint64pow10)] }
def JpatBackSaid : Prop := jpatBackRow.holds Tryz.pinned (OpenSpec.ofChange jpatBackSpec)

/-- ITS FALSE NEIGHBOUR: 'it returns false'. Refute it at one input. -/
def jpatBackWrong : ChangeSpec := { name := "jpatBack", fn := fun _ => fun
  | [d1, d2] => { results := [.lit (.bool false)], args := [d1, d2] }
  | _ => none }
def JpatBackWrongFalsely : Prop := jpatBackRow.holds Tryz.pinned (OpenSpec.ofChange jpatBackWrong)

/-- 'dragomanlaw07.JpatBoth': WHATEVER THE INPUT: true; the input reads as it did. -/
def jpatBothSpec : ChangeSpec := { name := "jpatBoth", fn := fun _ => fun
  | [d1, d2] => { results := [.lit (.bool true)], args := [d1, d2] }
  | _ => none }
def jpatBothRow : OpenClaim := { program := "ytjjlkjfhhpogaaagreatdoor", sum := "cdbd60c166ffbf41a31a19872ee06b83c6f62a3bf2107f3c1db6fe107723f5ac", func := "dragoman/dragomanlaw07.JpatBoth", spec := "jpatBoth", inPlace := ["internal/abi.NoEscape", "internal/bytealg.MakeNoZero"], unfollowed := true, recurses := true, named := ["internal/strconv.uint64pow10", "math/bits.deBruijn32tab", "math/bits.deBruijn64tab"], loops := true, apart := false, laid := [("math/bits.deBruijn32tab", laid_math_bits_deBruijn32tab), ("math/bits.deBruijn64tab", laid_math_bits_deBruijn64tab), ("internal/strconv.uint64pow10", laid_internal_strconv_uint64pow10)] }
def JpatBothSaid : Prop := jpatBothRow.holds Tryz.pinned (OpenSpec.ofChange jpatBothSpec)

/-- ITS FALSE NEIGHBOUR: 'it returns false'. Refute it at one input. -/
def jpatBothWrong : ChangeSpec := { name := "jpatBoth", fn := fun _ => fun
  | [d1, d2] => { results := [.lit (.bool false)], args := [d1, d2] }
  | _ => none }
def JpatBothWrongFalsely : Prop := jpatBothRow.holds Tryz.pinned (OpenSpec.ofChange jpatBothWrong)

/- THE SECOND FORM. 'bulk': how many values and letters a reading holds, each counted each time it is reached (what is shared counts as often as it is met; a slice's spare places count too). A statement '..UptoSaid' is the law's where the arguments, and the package variables that the reading takes, are together of bulk at most 1048576: NARROWER than '..Said'. Prove '..Said' where nothing that the law and all that it calls make is longer than what came in: it says more and counts as full. Else prove '..UptoSaid'. A law counts once. -/
mutual
def uptoBulk {H : Type} : DataW H → Nat
  | .lit (.string bytes) => bytes.length + 1
  | .lit _ => 1
  | .nil => 1
  | .ptr d => uptoBulk d + 1
  | .slice elems spare => uptoBulkAll elems + uptoBulkAll spare + 1
  | .agg parts => uptoBulkAll parts + 1
  | .iface _ d => uptoBulk d + 1
  | .map entries => uptoBulkEntries entries + 1
  | .held _ => 1
def uptoBulkAll {H : Type} : List (DataW H) → Nat
  | [] => 0
  | d :: r => uptoBulk d + uptoBulkAll r
def uptoBulkEntries {H : Type} : List (Lit × DataW H) → Nat
  | [] => 0
  | x :: r => uptoBulkEntry x + uptoBulkEntries r
def uptoBulkEntry {H : Type} : Lit × DataW H → Nat
  | (.string bytes, d) => bytes.length + uptoBulk d + 1
  | (_, d) => uptoBulk d + 1
 end
def uptoSmall : (H : Type) → List (DataW H) → Bool := fun _ ds => decide (uptoBulkAll ds ≤ 1048576)
def OpenSpec.upto (s : _root_.Go.ChangeSpec) : _root_.Go.OpenSpec := { _root_.Go.OpenSpec.ofChange s with cond := some uptoSmall }

/-- 'dragomanlaw06.IpatParses', WHERE WHAT IT READS IS OF BULK AT MOST 1048576: true; the input reads as it did. -/
def ipatParsesUptoRow : OpenClaim := { program := "ytjjlkjfhhpogaaagreatdoor", sum := "cdbd60c166ffbf41a31a19872ee06b83c6f62a3bf2107f3c1db6fe107723f5ac", func := "dragoman/dragomanlaw06.IpatParses", spec := "ipatParses", inPlace := ["internal/abi.NoEscape", "internal/bytealg.MakeNoZero"], unfollowed := true, recurses := true, named := ["internal/strconv.uint64pow10", "math/bits.deBruijn32tab", "math/bits.deBruijn64tab"], apart := false, laid := [("math/bits.deBruijn32tab", laid_math_bits_deBruijn32tab), ("math/bits.deBruijn64tab", laid_math_bits_deBruijn64tab), ("internal/strconv.uint64pow10", laid_internal_strconv_uint64pow10)], narrowed := true }
def IpatParsesUptoSaid : Prop := ipatParsesUptoRow.holds Tryz.pinned (OpenSpec.upto ipatParsesSpec)

/-- 'dragomanlaw06.IpatPrints', WHERE WHAT IT READS IS OF BULK AT MOST 1048576: true; the input reads as it did. -/
def ipatPrintsUptoRow : OpenClaim := { program := "ytjjlkjfhhpogaaagreatdoor", sum := "cdbd60c166ffbf41a31a19872ee06b83c6f62a3bf2107f3c1db6fe107723f5ac", func := "dragoman/dragomanlaw06.IpatPrints", spec := "ipatPrints", inPlace := ["internal/abi.NoEscape", "internal/bytealg.MakeNoZero"], unfollowed := true, recurses := true, named := ["internal/strconv.uint64pow10", "math/bits.deBruijn32tab", "math/bits.deBruijn64tab"], loops := true, apart := false, laid := [("math/bits.deBruijn32tab", laid_math_bits_deBruijn32tab), ("math/bits.deBruijn64tab", laid_math_bits_deBruijn64tab), ("internal/strconv.uint64pow10", laid_internal_strconv_uint64pow10)], narrowed := true }
def IpatPrintsUptoSaid : Prop := ipatPrintsUptoRow.holds Tryz.pinned (OpenSpec.upto ipatPrintsSpec)

/-- 'dragomanlaw06.IpatBack', WHERE WHAT IT READS IS OF BULK AT MOST 1048576: true; the input reads as it did. -/
def ipatBackUptoRow : OpenClaim := { program := "ytjjlkjfhhpogaaagreatdoor", sum := "cdbd60c166ffbf41a31a19872ee06b83c6f62a3bf2107f3c1db6fe107723f5ac", func := "dragoman/dragomanlaw06.IpatBack", spec := "ipatBack", inPlace := ["internal/abi.NoEscape", "internal/bytealg.MakeNoZero"], unfollowed := true, recurses := true, named := ["internal/strconv.uint64pow10", "math/bits.deBruijn32tab", "math/bits.deBruijn64tab"], loops := true, apart := false, laid := [("math/bits.deBruijn32tab", laid_math_bits_deBruijn32tab), ("math/bits.deBruijn64tab", laid_math_bits_deBruijn64tab), ("internal/strconv.uint64pow10", laid_internal_strconv_uint64pow10)], narrowed := true }
def IpatBackUptoSaid : Prop := ipatBackUptoRow.holds Tryz.pinned (OpenSpec.upto ipatBackSpec)

/-- 'dragomanlaw06.IpatSigns', WHERE WHAT IT READS IS OF BULK AT MOST 1048576: true; the input reads as it did. -/
def ipatSignsUptoRow : OpenClaim := { program := "ytjjlkjfhhpogaaagreatdoor", sum := "cdbd60c166ffbf41a31a19872ee06b83c6f62a3bf2107f3c1db6fe107723f5ac", func := "dragoman/dragomanlaw06.IpatSigns", spec := "ipatSigns", inPlace := ["internal/abi.NoEscape", "internal/bytealg.MakeNoZero"], unfollowed := true, recurses := true, named := ["internal/strconv.uint64pow10", "math/bits.deBruijn32tab", "math/bits.deBruijn64tab"], loops := true, apart := false, laid := [("math/bits.deBruijn32tab", laid_math_bits_deBruijn32tab), ("math/bits.deBruijn64tab", laid_math_bits_deBruijn64tab), ("internal/strconv.uint64pow10", laid_internal_strconv_uint64pow10)], narrowed := true }
def IpatSignsUptoSaid : Prop := ipatSignsUptoRow.holds Tryz.pinned (OpenSpec.upto ipatSignsSpec)

/-- 'dragomanlaw07.JpatPrints', WHERE WHAT IT READS IS OF BULK AT MOST 1048576: true; the input reads as it did. -/
def jpatPrintsUptoRow : OpenClaim := { program := "ytjjlkjfhhpogaaagreatdoor", sum := "cdbd60c166ffbf41a31a19872ee06b83c6f62a3bf2107f3c1db6fe107723f5ac", func := "dragoman/dragomanlaw07.JpatPrints", spec := "jpatPrints", inPlace := ["internal/abi.NoEscape", "internal/bytealg.MakeNoZero"], unfollowed := true, recurses := true, named := ["internal/strconv.uint64pow10", "math/bits.deBruijn32tab", "math/bits.deBruijn64tab"], loops := true, apart := false, laid := [("math/bits.deBruijn32tab", laid_math_bits_deBruijn32tab), ("math/bits.deBruijn64tab", laid_math_bits_deBruijn64tab), ("internal/strconv.uint64pow10", laid_internal_strconv_uint64pow10)], narrowed := true }
def JpatPrintsUptoSaid : Prop := jpatPrintsUptoRow.holds Tryz.pinned (OpenSpec.upto jpatPrintsSpec)

/-- 'dragomanlaw07.JpatBack', WHERE WHAT IT READS IS OF BULK AT MOST 1048576: true; the input reads as it did. -/
def jpatBackUptoRow : OpenClaim := { program := "ytjjlkjfhhpogaaagreatdoor", sum := "cdbd60c166ffbf41a31a19872ee06b83c6f62a3bf2107f3c1db6fe107723f5ac", func := "dragoman/dragomanlaw07.JpatBack", spec := "jpatBack", inPlace := ["internal/abi.NoEscape", "internal/bytealg.MakeNoZero"], unfollowed := true, recurses := true, named := ["internal/strconv.uint64pow10", "math/bits.deBruijn32tab", "math/bits.deBruijn64tab"], loops := true, apart := false, laid := [("math/bits.deBruijn32tab", laid_math_bits_deBruijn32tab), ("math/bits.deBruijn64tab", laid_math_bits_deBruijn64tab), ("internal/strconv.uint64pow10", laid_internal_strconv_uint64pow10)], narrowed := true }
def JpatBackUptoSaid : Prop := jpatBackUptoRow.holds Tryz.pinned (OpenSpec.upto jpatBackSpec)

/-- 'dragomanlaw07.JpatBoth', WHERE WHAT IT READS IS OF BULK AT MOST 1048576: true; the input reads as it did. -/
def jpatBothUptoRow : OpenClaim := { program := "ytjjlkjfhhpogaaagreatdoor", sum := "cdbd60c166ffbf41a31a19872ee06b83c6f62a3bf2107f3c1db6fe107723f5ac", func := "dragoman/dragomanlaw07.JpatBoth", spec := "jpatBoth", inPlace := ["internal/abi.NoEscape", "internal/bytealg.MakeNoZero"], unfollowed := true, recurses := true, named := ["internal/strconv.uint64pow10", "math/bits.deBruijn32tab", "math/bits.deBruijn64tab"], loops := true, apart := false, laid := [("math/bits.deBruijn32tab", laid_math_bits_deBruijn32tab), ("math/bits.deBruijn64tab", laid_math_bits_deBruijn64tab), ("internal/strconv.uint64pow10", laid_internal_strconv_uint64pow10)], narrowed := true }
def JpatBothUptoSaid : Prop := jpatBothUptoRow.holds Tryz.pinned (OpenSpec.upto jpatBothSpec)

end Rows
end Go.Proofs.YtjjlkjfhhpogaaaGreatDoor
