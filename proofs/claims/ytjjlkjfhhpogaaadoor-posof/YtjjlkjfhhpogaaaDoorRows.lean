/-
  NARROWER THAN 'FOR EVERY INPUT', by the rows' own cells (each row's printed sentence says how): PatMatches: loops, laid · PatSizes: loops, laid · PatTimes: loops, laid · PatJoins: loops, laid · PatStars: loops, laid · PatCounts: laid · IpatLong: laid · PosOf: loops, laid · PosRuns: loops, laid · PosEnds: loops, laid · PosStars: loops, laid.
  DERIVED. THE GIVEN ROWS OF THIS SEAT. 11 by the template 'for every input the law returns true; each argument reads behind the call as it read before'; 0 by the template 'total and deterministic' (their statements: YtjjlkjfhhpogaaaDoorTotals.lean).
  GIVEN WITH THE SEED: the statements are not yours to turn. If you find one false, say at which input.
  Laid BY PROGRAM, IN A SANDBOX (cutbox-rows.mjs): the forced cells as the released guide's own fill.sh prints them over the translation d04ef9d0f1432f64… (all of the seat's roots in one cut). By AI agents, Wed Nov 11 2026. No macro, syntax, notation, axiom, sorry.
-/
import Derived.Test.YtjjlkjfhhpogaaaDoorChecked
import GoSem.Claim
import GoSem.ClaimJoined
import GoSem.ClaimMapViews
import Derived.JoinedTies
import Derived.KernelRfl
namespace Go.Proofs.YtjjlkjfhhpogaaaDoor
/- THE CELL 'sum', in the pinned program and in every row, IS THE sha256 OF THE DUMP (.gsa) THAT YtjjlkjfhhpogaaaDoorProg.lean LOADS. Nothing in Lean hashes anything: it is a label: what it is worth is what the hold of that sum in a sandbox is worth. -/
noncomputable def Tryd.pinned : Pinned := { name := "ytjjlkjfhhpogaaadoor", sum := "d04ef9d0f1432f64f0223a3de24071213208363125587e5417412c5625befb36", checked := Tryd.checked }
namespace Rows
def none {H : Type} : Left H := { results := [], args := [] }

/- WHAT THE LISTED PACKAGE-LEVEL VARIABLES READ AS WHEN THE CALL BEGINS. Each datum BY PROGRAM (the guide's laid-datum.mjs) off the statement by which the dump's own 'gosem.cut.vars' lays the variable. In a bare row this is a premise. The card (YtjjlkjfhhpogaaaDoorCards.lean) ties it to the program's text. -/
def laid_math_bits_deBruijn64tab {H : Type} : DataW H := .agg [.lit (.int .u8 0), .lit (.int .u8 1), .lit (.int .u8 56), .lit (.int .u8 2), .lit (.int .u8 57), .lit (.int .u8 49), .lit (.int .u8 28), .lit (.int .u8 3), .lit (.int .u8 61), .lit (.int .u8 58), .lit (.int .u8 42), .lit (.int .u8 50), .lit (.int .u8 38), .lit (.int .u8 29), .lit (.int .u8 17), .lit (.int .u8 4), .lit (.int .u8 62), .lit (.int .u8 47), .lit (.int .u8 59), .lit (.int .u8 36), .lit (.int .u8 45), .lit (.int .u8 43), .lit (.int .u8 51), .lit (.int .u8 22), .lit (.int .u8 53), .lit (.int .u8 39), .lit (.int .u8 33), .lit (.int .u8 30), .lit (.int .u8 24), .lit (.int .u8 18), .lit (.int .u8 12), .lit (.int .u8 5), .lit (.int .u8 63), .lit (.int .u8 55), .lit (.int .u8 48), .lit (.int .u8 27), .lit (.int .u8 60), .lit (.int .u8 41), .lit (.int .u8 37), .lit (.int .u8 16), .lit (.int .u8 46), .lit (.int .u8 35), .lit (.int .u8 44), .lit (.int .u8 21), .lit (.int .u8 52), .lit (.int .u8 32), .lit (.int .u8 23), .lit (.int .u8 11), .lit (.int .u8 54), .lit (.int .u8 26), .lit (.int .u8 40), .lit (.int .u8 15), .lit (.int .u8 34), .lit (.int .u8 20), .lit (.int .u8 31), .lit (.int .u8 10), .lit (.int .u8 25), .lit (.int .u8 14), .lit (.int .u8 19), .lit (.int .u8 9), .lit (.int .u8 13), .lit (.int .u8 8), .lit (.int .u8 7), .lit (.int .u8 6)]
def laid_math_bits_deBruijn32tab {H : Type} : DataW H := .agg [.lit (.int .u8 0), .lit (.int .u8 1), .lit (.int .u8 28), .lit (.int .u8 2), .lit (.int .u8 29), .lit (.int .u8 14), .lit (.int .u8 24), .lit (.int .u8 3), .lit (.int .u8 30), .lit (.int .u8 22), .lit (.int .u8 20), .lit (.int .u8 15), .lit (.int .u8 25), .lit (.int .u8 17), .lit (.int .u8 4), .lit (.int .u8 8), .lit (.int .u8 31), .lit (.int .u8 27), .lit (.int .u8 13), .lit (.int .u8 23), .lit (.int .u8 21), .lit (.int .u8 19), .lit (.int .u8 16), .lit (.int .u8 7), .lit (.int .u8 26), .lit (.int .u8 12), .lit (.int .u8 18), .lit (.int .u8 6), .lit (.int .u8 11), .lit (.int .u8 5), .lit (.int .u8 10), .lit (.int .u8 9)]
def laid_internal_strconv_uint64pow10 {H : Type} : DataW H := .agg [.lit (.int .u64 1), .lit (.int .u64 10), .lit (.int .u64 100), .lit (.int .u64 1000), .lit (.int .u64 10000), .lit (.int .u64 100000), .lit (.int .u64 1000000), .lit (.int .u64 10000000), .lit (.int .u64 100000000), .lit (.int .u64 1000000000), .lit (.int .u64 10000000000), .lit (.int .u64 100000000000), .lit (.int .u64 1000000000000), .lit (.int .u64 10000000000000), .lit (.int .u64 100000000000000), .lit (.int .u64 1000000000000000), .lit (.int .u64 10000000000000000), .lit (.int .u64 100000000000000000), .lit (.int .u64 1000000000000000000), .lit (.int .u64 10000000000000000000)]

/-- 'dragomanlaw05.PatMatches': WHATEVER THE INPUT: true; the input reads as it did. -/
def patMatchesSpec : ChangeSpec := { name := "patMatches", fn := fun _ => fun
  | [d1, d2] => { results := [.lit (.bool true)], args := [d1, d2] }
  | _ => none }
def patMatchesRow : OpenClaim := { program := "ytjjlkjfhhpogaaadoor", sum := "d04ef9d0f1432f64f0223a3de24071213208363125587e5417412c5625befb36", func := "dragoman/dragomanlaw05.PatMatches", spec := "patMatches", unfollowed := true, recurses := true, named := ["math/bits.deBruijn64tab"], loops := true, apart := false, laid := [("math/bits.deBruijn64tab", laid_math_bits_deBruijn64tab)] }
def PatMatchesSaid : Prop := patMatchesRow.holds Tryd.pinned (OpenSpec.ofChange patMatchesSpec)

/-- ITS FALSE NEIGHBOUR: 'it returns false'. Refute it at one input. -/
def patMatchesWrong : ChangeSpec := { name := "patMatches", fn := fun _ => fun
  | [d1, d2] => { results := [.lit (.bool false)], args := [d1, d2] }
  | _ => none }
def PatMatchesWrongFalsely : Prop := patMatchesRow.holds Tryd.pinned (OpenSpec.ofChange patMatchesWrong)

/-- 'dragomanlaw05.PatSizes': WHATEVER THE INPUT: true; the input reads as it did. -/
def patSizesSpec : ChangeSpec := { name := "patSizes", fn := fun _ => fun
  | [d] => { results := [.lit (.bool true)], args := [d] }
  | _ => none }
def patSizesRow : OpenClaim := { program := "ytjjlkjfhhpogaaadoor", sum := "d04ef9d0f1432f64f0223a3de24071213208363125587e5417412c5625befb36", func := "dragoman/dragomanlaw05.PatSizes", spec := "patSizes", unfollowed := true, recurses := true, named := ["math/bits.deBruijn64tab"], loops := true, apart := false, laid := [("math/bits.deBruijn64tab", laid_math_bits_deBruijn64tab)] }
def PatSizesSaid : Prop := patSizesRow.holds Tryd.pinned (OpenSpec.ofChange patSizesSpec)

/-- ITS FALSE NEIGHBOUR: 'it returns false'. Refute it at one input. -/
def patSizesWrong : ChangeSpec := { name := "patSizes", fn := fun _ => fun
  | [d] => { results := [.lit (.bool false)], args := [d] }
  | _ => none }
def PatSizesWrongFalsely : Prop := patSizesRow.holds Tryd.pinned (OpenSpec.ofChange patSizesWrong)

/-- 'dragomanlaw05.PatTimes': WHATEVER THE INPUT: true; the input reads as it did. -/
def patTimesSpec : ChangeSpec := { name := "patTimes", fn := fun _ => fun
  | [d1, d2, d3] => { results := [.lit (.bool true)], args := [d1, d2, d3] }
  | _ => none }
def patTimesRow : OpenClaim := { program := "ytjjlkjfhhpogaaadoor", sum := "d04ef9d0f1432f64f0223a3de24071213208363125587e5417412c5625befb36", func := "dragoman/dragomanlaw05.PatTimes", spec := "patTimes", unfollowed := true, recurses := true, named := ["math/bits.deBruijn64tab"], loops := true, apart := false, laid := [("math/bits.deBruijn64tab", laid_math_bits_deBruijn64tab)] }
def PatTimesSaid : Prop := patTimesRow.holds Tryd.pinned (OpenSpec.ofChange patTimesSpec)

/-- ITS FALSE NEIGHBOUR: 'it returns false'. Refute it at one input. -/
def patTimesWrong : ChangeSpec := { name := "patTimes", fn := fun _ => fun
  | [d1, d2, d3] => { results := [.lit (.bool false)], args := [d1, d2, d3] }
  | _ => none }
def PatTimesWrongFalsely : Prop := patTimesRow.holds Tryd.pinned (OpenSpec.ofChange patTimesWrong)

/-- 'dragomanlaw05.PatJoins': WHATEVER THE INPUT: true; the input reads as it did. -/
def patJoinsSpec : ChangeSpec := { name := "patJoins", fn := fun _ => fun
  | [d1, d2, d3] => { results := [.lit (.bool true)], args := [d1, d2, d3] }
  | _ => none }
def patJoinsRow : OpenClaim := { program := "ytjjlkjfhhpogaaadoor", sum := "d04ef9d0f1432f64f0223a3de24071213208363125587e5417412c5625befb36", func := "dragoman/dragomanlaw05.PatJoins", spec := "patJoins", unfollowed := true, recurses := true, named := ["math/bits.deBruijn64tab"], loops := true, apart := false, laid := [("math/bits.deBruijn64tab", laid_math_bits_deBruijn64tab)] }
def PatJoinsSaid : Prop := patJoinsRow.holds Tryd.pinned (OpenSpec.ofChange patJoinsSpec)

/-- ITS FALSE NEIGHBOUR: 'it returns false'. Refute it at one input. -/
def patJoinsWrong : ChangeSpec := { name := "patJoins", fn := fun _ => fun
  | [d1, d2, d3] => { results := [.lit (.bool false)], args := [d1, d2, d3] }
  | _ => none }
def PatJoinsWrongFalsely : Prop := patJoinsRow.holds Tryd.pinned (OpenSpec.ofChange patJoinsWrong)

/-- 'dragomanlaw05.PatStars': WHATEVER THE INPUT: true; the input reads as it did. -/
def patStarsSpec : ChangeSpec := { name := "patStars", fn := fun _ => fun
  | [d1, d2] => { results := [.lit (.bool true)], args := [d1, d2] }
  | _ => none }
def patStarsRow : OpenClaim := { program := "ytjjlkjfhhpogaaadoor", sum := "d04ef9d0f1432f64f0223a3de24071213208363125587e5417412c5625befb36", func := "dragoman/dragomanlaw05.PatStars", spec := "patStars", unfollowed := true, recurses := true, named := ["math/bits.deBruijn64tab"], loops := true, apart := false, laid := [("math/bits.deBruijn64tab", laid_math_bits_deBruijn64tab)] }
def PatStarsSaid : Prop := patStarsRow.holds Tryd.pinned (OpenSpec.ofChange patStarsSpec)

/-- ITS FALSE NEIGHBOUR: 'it returns false'. Refute it at one input. -/
def patStarsWrong : ChangeSpec := { name := "patStars", fn := fun _ => fun
  | [d1, d2] => { results := [.lit (.bool false)], args := [d1, d2] }
  | _ => none }
def PatStarsWrongFalsely : Prop := patStarsRow.holds Tryd.pinned (OpenSpec.ofChange patStarsWrong)

/-- 'dragomanlaw05.PatCounts': WHATEVER THE INPUT: true; the input reads as it did. -/
def patCountsSpec : ChangeSpec := { name := "patCounts", fn := fun _ => fun
  | [d1, d2, d3] => { results := [.lit (.bool true)], args := [d1, d2, d3] }
  | _ => none }
def patCountsRow : OpenClaim := { program := "ytjjlkjfhhpogaaadoor", sum := "d04ef9d0f1432f64f0223a3de24071213208363125587e5417412c5625befb36", func := "dragoman/dragomanlaw05.PatCounts", spec := "patCounts", unfollowed := true, recurses := true, named := ["math/bits.deBruijn64tab"], apart := false, laid := [("math/bits.deBruijn64tab", laid_math_bits_deBruijn64tab)] }
def PatCountsSaid : Prop := patCountsRow.holds Tryd.pinned (OpenSpec.ofChange patCountsSpec)

/-- ITS FALSE NEIGHBOUR: 'it returns false'. Refute it at one input. -/
def patCountsWrong : ChangeSpec := { name := "patCounts", fn := fun _ => fun
  | [d1, d2, d3] => { results := [.lit (.bool false)], args := [d1, d2, d3] }
  | _ => none }
def PatCountsWrongFalsely : Prop := patCountsRow.holds Tryd.pinned (OpenSpec.ofChange patCountsWrong)

/-- 'dragomanlaw06.IpatLong': WHATEVER THE INPUT: true; the input reads as it did. -/
def ipatLongSpec : ChangeSpec := { name := "ipatLong", fn := fun _ => fun
  | [d1, d2] => { results := [.lit (.bool true)], args := [d1, d2] }
  | _ => none }
def ipatLongRow : OpenClaim := { program := "ytjjlkjfhhpogaaadoor", sum := "d04ef9d0f1432f64f0223a3de24071213208363125587e5417412c5625befb36", func := "dragoman/dragomanlaw06.IpatLong", spec := "ipatLong", inPlace := ["internal/abi.NoEscape", "internal/bytealg.MakeNoZero"], unfollowed := true, recurses := true, named := ["internal/strconv.uint64pow10", "math/bits.deBruijn32tab", "math/bits.deBruijn64tab"], apart := false, laid := [("math/bits.deBruijn32tab", laid_math_bits_deBruijn32tab), ("math/bits.deBruijn64tab", laid_math_bits_deBruijn64tab), ("internal/strconv.uint64pow10", laid_internal_strconv_uint64pow10)] }
def IpatLongSaid : Prop := ipatLongRow.holds Tryd.pinned (OpenSpec.ofChange ipatLongSpec)

/-- ITS FALSE NEIGHBOUR: 'it returns false'. Refute it at one input. -/
def ipatLongWrong : ChangeSpec := { name := "ipatLong", fn := fun _ => fun
  | [d1, d2] => { results := [.lit (.bool false)], args := [d1, d2] }
  | _ => none }
def IpatLongWrongFalsely : Prop := ipatLongRow.holds Tryd.pinned (OpenSpec.ofChange ipatLongWrong)

/-- 'dragomanlaw08.PosOf': WHATEVER THE INPUT: true; the input reads as it did. -/
def posOfSpec : ChangeSpec := { name := "posOf", fn := fun _ => fun
  | [d] => { results := [.lit (.bool true)], args := [d] }
  | _ => none }
def posOfRow : OpenClaim := { program := "ytjjlkjfhhpogaaadoor", sum := "d04ef9d0f1432f64f0223a3de24071213208363125587e5417412c5625befb36", func := "dragoman/dragomanlaw08.PosOf", spec := "posOf", inPlace := ["slices.overlaps[int]"], unfollowed := true, recurses := true, named := ["math/bits.deBruijn64tab"], loops := true, apart := false, laid := [("math/bits.deBruijn64tab", laid_math_bits_deBruijn64tab)] }
def PosOfSaid : Prop := posOfRow.holds Tryd.pinned (OpenSpec.ofChange posOfSpec)

/-- ITS FALSE NEIGHBOUR: 'it returns false'. Refute it at one input. -/
def posOfWrong : ChangeSpec := { name := "posOf", fn := fun _ => fun
  | [d] => { results := [.lit (.bool false)], args := [d] }
  | _ => none }
def PosOfWrongFalsely : Prop := posOfRow.holds Tryd.pinned (OpenSpec.ofChange posOfWrong)

/-- 'dragomanlaw08.PosRuns': WHATEVER THE INPUT: true; the input reads as it did. -/
def posRunsSpec : ChangeSpec := { name := "posRuns", fn := fun _ => fun
  | [d1, d2] => { results := [.lit (.bool true)], args := [d1, d2] }
  | _ => none }
def posRunsRow : OpenClaim := { program := "ytjjlkjfhhpogaaadoor", sum := "d04ef9d0f1432f64f0223a3de24071213208363125587e5417412c5625befb36", func := "dragoman/dragomanlaw08.PosRuns", spec := "posRuns", inPlace := ["slices.overlaps[int]"], unfollowed := true, recurses := true, named := ["math/bits.deBruijn64tab"], loops := true, apart := false, laid := [("math/bits.deBruijn64tab", laid_math_bits_deBruijn64tab)] }
def PosRunsSaid : Prop := posRunsRow.holds Tryd.pinned (OpenSpec.ofChange posRunsSpec)

/-- ITS FALSE NEIGHBOUR: 'it returns false'. Refute it at one input. -/
def posRunsWrong : ChangeSpec := { name := "posRuns", fn := fun _ => fun
  | [d1, d2] => { results := [.lit (.bool false)], args := [d1, d2] }
  | _ => none }
def PosRunsWrongFalsely : Prop := posRunsRow.holds Tryd.pinned (OpenSpec.ofChange posRunsWrong)

/-- 'dragomanlaw08.PosEnds': WHATEVER THE INPUT: true; the input reads as it did. -/
def posEndsSpec : ChangeSpec := { name := "posEnds", fn := fun _ => fun
  | [d1, d2] => { results := [.lit (.bool true)], args := [d1, d2] }
  | _ => none }
def posEndsRow : OpenClaim := { program := "ytjjlkjfhhpogaaadoor", sum := "d04ef9d0f1432f64f0223a3de24071213208363125587e5417412c5625befb36", func := "dragoman/dragomanlaw08.PosEnds", spec := "posEnds", inPlace := ["slices.overlaps[int]"], unfollowed := true, recurses := true, named := ["math/bits.deBruijn64tab"], loops := true, apart := false, laid := [("math/bits.deBruijn64tab", laid_math_bits_deBruijn64tab)] }
def PosEndsSaid : Prop := posEndsRow.holds Tryd.pinned (OpenSpec.ofChange posEndsSpec)

/-- ITS FALSE NEIGHBOUR: 'it returns false'. Refute it at one input. -/
def posEndsWrong : ChangeSpec := { name := "posEnds", fn := fun _ => fun
  | [d1, d2] => { results := [.lit (.bool false)], args := [d1, d2] }
  | _ => none }
def PosEndsWrongFalsely : Prop := posEndsRow.holds Tryd.pinned (OpenSpec.ofChange posEndsWrong)

/-- 'dragomanlaw08.PosStars': WHATEVER THE INPUT: true; the input reads as it did. -/
def posStarsSpec : ChangeSpec := { name := "posStars", fn := fun _ => fun
  | [d] => { results := [.lit (.bool true)], args := [d] }
  | _ => none }
def posStarsRow : OpenClaim := { program := "ytjjlkjfhhpogaaadoor", sum := "d04ef9d0f1432f64f0223a3de24071213208363125587e5417412c5625befb36", func := "dragoman/dragomanlaw08.PosStars", spec := "posStars", inPlace := ["slices.overlaps[int]"], unfollowed := true, recurses := true, named := ["math/bits.deBruijn64tab"], loops := true, apart := false, laid := [("math/bits.deBruijn64tab", laid_math_bits_deBruijn64tab)] }
def PosStarsSaid : Prop := posStarsRow.holds Tryd.pinned (OpenSpec.ofChange posStarsSpec)

/-- ITS FALSE NEIGHBOUR: 'it returns false'. Refute it at one input. -/
def posStarsWrong : ChangeSpec := { name := "posStars", fn := fun _ => fun
  | [d] => { results := [.lit (.bool false)], args := [d] }
  | _ => none }
def PosStarsWrongFalsely : Prop := posStarsRow.holds Tryd.pinned (OpenSpec.ofChange posStarsWrong)

/- THE SECOND FORM. 'bulk': how many values and letters a reading holds, each counted each time it is reached (what is shared counts as often as it is met; a slice's spare places count too). A statement '..UptoSaid' is the law's where the arguments, and the package variables that the reading takes, are together of bulk at most 1048576: NARROWER than '..Said'. Prove '..Said' where nothing that the law and all that it calls make is longer than what came in: it says more and counts as full. Else prove '..UptoSaid'. A law counts once. -/
mutual
def uptoBulk {H : Type} : DataW H → Nat
  | .lit (.string bytes) => bytes.length + 1
  | .lit _ => 1
  | .nil => 1
  | .ptr d => uptoBulk d + 1
  | .slice elems spare => uptoBulkAll elems + uptoBulkAll spare + 1
  | .agg parts => uptoBulkAll parts + 1
  | .iface _ d => uptoBulk d + 1
  | .map entries => uptoBulkEntries entries + 1
  | .held _ => 1
def uptoBulkAll {H : Type} : List (DataW H) → Nat
  | [] => 0
  | d :: r => uptoBulk d + uptoBulkAll r
def uptoBulkEntries {H : Type} : List (Lit × DataW H) → Nat
  | [] => 0
  | x :: r => uptoBulkEntry x + uptoBulkEntries r
def uptoBulkEntry {H : Type} : Lit × DataW H → Nat
  | (.string bytes, d) => bytes.length + uptoBulk d + 1
  | (_, d) => uptoBulk d + 1
 end
def uptoSmall : (H : Type) → List (DataW H) → Bool := fun _ ds => decide (uptoBulkAll ds ≤ 1048576)
def OpenSpec.upto (s : _root_.Go.ChangeSpec) : _root_.Go.OpenSpec := { _root_.Go.OpenSpec.ofChange s with cond := some uptoSmall }

/-- 'dragomanlaw05.PatMatches', WHERE WHAT IT READS IS OF BULK AT MOST 1048576: true; the input reads as it did. -/
def patMatchesUptoRow : OpenClaim := { program := "ytjjlkjfhhpogaaadoor", sum := "d04ef9d0f1432f64f0223a3de24071213208363125587e5417412c5625befb36", func := "dragoman/dragomanlaw05.PatMatches", spec := "patMatches", unfollowed := true, recurses := true, named := ["math/bits.deBruijn64tab"], loops := true, apart := false, laid := [("math/bits.deBruijn64tab", laid_math_bits_deBruijn64tab)], narrowed := true }
def PatMatchesUptoSaid : Prop := patMatchesUptoRow.holds Tryd.pinned (OpenSpec.upto patMatchesSpec)

/-- 'dragomanlaw05.PatSizes', WHERE WHAT IT READS IS OF BULK AT MOST 1048576: true; the input reads as it did. -/
def patSizesUptoRow : OpenClaim := { program := "ytjjlkjfhhpogaaadoor", sum := "d04ef9d0f1432f64f0223a3de24071213208363125587e5417412c5625befb36", func := "dragoman/dragomanlaw05.PatSizes", spec := "patSizes", unfollowed := true, recurses := true, named := ["math/bits.deBruijn64tab"], loops := true, apart := false, laid := [("math/bits.deBruijn64tab", laid_math_bits_deBruijn64tab)], narrowed := true }
def PatSizesUptoSaid : Prop := patSizesUptoRow.holds Tryd.pinned (OpenSpec.upto patSizesSpec)

/-- 'dragomanlaw05.PatTimes', WHERE WHAT IT READS IS OF BULK AT MOST 1048576: true; the input reads as it did. -/
def patTimesUptoRow : OpenClaim := { program := "ytjjlkjfhhpogaaadoor", sum := "d04ef9d0f1432f64f0223a3de24071213208363125587e5417412c5625befb36", func := "dragoman/dragomanlaw05.PatTimes", spec := "patTimes", unfollowed := true, recurses := true, named := ["math/bits.deBruijn64tab"], loops := true, apart := false, laid := [("math/bits.deBruijn64tab", laid_math_bits_deBruijn64tab)], narrowed := true }
def PatTimesUptoSaid : Prop := patTimesUptoRow.holds Tryd.pinned (OpenSpec.upto patTimesSpec)

/-- 'dragomanlaw05.PatJoins', WHERE WHAT IT READS IS OF BULK AT MOST 1048576: true; the input reads as it did. -/
def patJoinsUptoRow : OpenClaim := { program := "ytjjlkjfhhpogaaadoor", sum := "d04ef9d0f1432f64f0223a3de24071213208363125587e5417412c5625befb36", func := "dragoman/dragomanlaw05.PatJoins", spec := "patJoins", unfollowed := true, recurses := true, named := ["math/bits.deBruijn64tab"], loops := true, apart := false, laid := [("math/bits.deBruijn64tab", laid_math_bits_deBruijn64tab)], narrowed := true }
def PatJoinsUptoSaid : Prop := patJoinsUptoRow.holds Tryd.pinned (OpenSpec.upto patJoinsSpec)

/-- 'dragomanlaw05.PatStars', WHERE WHAT IT READS IS OF BULK AT MOST 1048576: true; the input reads as it did. -/
def patStarsUptoRow : OpenClaim := { program := "ytjjlkjfhhpogaaadoor", sum := "d04ef9d0f1432f64f0223a3de24071213208363125587e5417412c5625befb36", func := "dragoman/dragomanlaw05.PatStars", spec := "patStars", unfollowed := true, recurses := true, named := ["math/bits.deBruijn64tab"], loops := true, apart := false, laid := [("math/bits.deBruijn64tab", laid_math_bits_deBruijn64tab)], narrowed := true }
def PatStarsUptoSaid : Prop := patStarsUptoRow.holds Tryd.pinned (OpenSpec.upto patStarsSpec)

/-- 'dragomanlaw05.PatCounts', WHERE WHAT IT READS IS OF BULK AT MOST 1048576: true; the input reads as it did. -/
def patCountsUptoRow : OpenClaim := { program := "ytjjlkjfhhpogaaadoor", sum := "d04ef9d0f1432f64f0223a3de24071213208363125587e5417412c5625befb36", func := "dragoman/dragomanlaw05.PatCounts", spec := "patCounts", unfollowed := true, recurses := true, named := ["math/bits.deBruijn64tab"], apart := false, laid := [("math/bits.deBruijn64tab", laid_math_bits_deBruijn64tab)], narrowed := true }
def PatCountsUptoSaid : Prop := patCountsUptoRow.holds Tryd.pinned (OpenSpec.upto patCountsSpec)

/-- 'dragomanlaw06.IpatLong', WHERE WHAT IT READS IS OF BULK AT MOST 1048576: true; the input reads as it did. -/
def ipatLongUptoRow : OpenClaim := { program := "ytjjlkjfhhpogaaadoor", sum := "d04ef9d0f1432f64f0223a3de24071213208363125587e5417412c5625befb36", func := "dragoman/dragomanlaw06.IpatLong", spec := "ipatLong", inPlace := ["internal/abi.NoEscape", "internal/bytealg.MakeNoZero"], unfollowed := true, recurses := true, named := ["internal/strconv.uint64pow10", "math/bits.deBruijn32tab", "math/bits.deBruijn64tab"], apart := false, laid := [("math/bits.deBruijn32tab", laid_math_bits_deBruijn32tab), ("math/bits.deBruijn64tab", laid_math_bits_deBruijn64tab), ("internal/strconv.uint64pow10", laid_internal_strconv_uint64pow10)], narrowed := true }
def IpatLongUptoSaid : Prop := ipatLongUptoRow.holds Tryd.pinned (OpenSpec.upto ipatLongSpec)

/-- 'dragomanlaw08.PosOf', WHERE WHAT IT READS IS OF BULK AT MOST 1048576: true; the input reads as it did. -/
def posOfUptoRow : OpenClaim := { program := "ytjjlkjfhhpogaaadoor", sum := "d04ef9d0f1432f64f0223a3de24071213208363125587e5417412c5625befb36", func := "dragoman/dragomanlaw08.PosOf", spec := "posOf", inPlace := ["slices.overlaps[int]"], unfollowed := true, recurses := true, named := ["math/bits.deBruijn64tab"], loops := true, apart := false, laid := [("math/bits.deBruijn64tab", laid_math_bits_deBruijn64tab)], narrowed := true }
def PosOfUptoSaid : Prop := posOfUptoRow.holds Tryd.pinned (OpenSpec.upto posOfSpec)

/-- 'dragomanlaw08.PosRuns', WHERE WHAT IT READS IS OF BULK AT MOST 1048576: true; the input reads as it did. -/
def posRunsUptoRow : OpenClaim := { program := "ytjjlkjfhhpogaaadoor", sum := "d04ef9d0f1432f64f0223a3de24071213208363125587e5417412c5625befb36", func := "dragoman/dragomanlaw08.PosRuns", spec := "posRuns", inPlace := ["slices.overlaps[int]"], unfollowed := true, recurses := true, named := ["math/bits.deBruijn64tab"], loops := true, apart := false, laid := [("math/bits.deBruijn64tab", laid_math_bits_deBruijn64tab)], narrowed := true }
def PosRunsUptoSaid : Prop := posRunsUptoRow.holds Tryd.pinned (OpenSpec.upto posRunsSpec)

/-- 'dragomanlaw08.PosEnds', WHERE WHAT IT READS IS OF BULK AT MOST 1048576: true; the input reads as it did. -/
def posEndsUptoRow : OpenClaim := { program := "ytjjlkjfhhpogaaadoor", sum := "d04ef9d0f1432f64f0223a3de24071213208363125587e5417412c5625befb36", func := "dragoman/dragomanlaw08.PosEnds", spec := "posEnds", inPlace := ["slices.overlaps[int]"], unfollowed := true, recurses := true, named := ["math/bits.deBruijn64tab"], loops := true, apart := false, laid := [("math/bits.deBruijn64tab", laid_math_bits_deBruijn64tab)], narrowed := true }
def PosEndsUptoSaid : Prop := posEndsUptoRow.holds Tryd.pinned (OpenSpec.upto posEndsSpec)

/-- 'dragomanlaw08.PosStars', WHERE WHAT IT READS IS OF BULK AT MOST 1048576: true; the input reads as it did. -/
def posStarsUptoRow : OpenClaim := { program := "ytjjlkjfhhpogaaadoor", sum := "d04ef9d0f1432f64f0223a3de24071213208363125587e5417412c5625befb36", func := "dragoman/dragomanlaw08.PosStars", spec := "posStars", inPlace := ["slices.overlaps[int]"], unfollowed := true, recurses := true, named := ["math/bits.deBruijn64tab"], loops := true, apart := false, laid := [("math/bits.deBruijn64tab", laid_math_bits_deBruijn64tab)], narrowed := true }
def PosStarsUptoSaid : Prop := posStarsUptoRow.holds Tryd.pinned (OpenSpec.upto posStarsSpec)

end Rows
end Go.Proofs.YtjjlkjfhhpogaaaDoor
