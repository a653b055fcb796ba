/-
  The tables that the rows list: what they give; a world that holds them.
-/
import Derived.Test.YtihnmamejfoeeaaGreatDoorOpen
import Derived.Test.YtihnmamejfoeeaaGreatDoorPr2
import Derived.Test.YtihnmamejfoeeaaGreatDoorCards
import Derived.Test.YtihnmamejfoeeaaGreatDoorTie
import Derived.OpenShut
import Derived.Deep.DeepHandedRow
import Derived.Lib.LaidTab
import Derived.LaidSub
namespace Go.Proofs.YtihnmamejfoeeaaGreatDoor
open Go.ChangeShapes Go.WideShapes Go.ChangeAt Go.RowKit

abbrev laidL : List (String × DataW Unit) := [("math/bits.deBruijn32tab", Rows.laid_math_bits_deBruijn32tab), ("math/bits.deBruijn64tab", Rows.laid_math_bits_deBruijn64tab), ("internal/strconv.uint64pow10", Rows.laid_internal_strconv_uint64pow10)]
theorem gPow : Tryz.prog.globalNamed "internal/strconv.uint64pow10" = some 1 := by kernel_rfl
theorem gPowType : (Tryz.prog.globals[1]?).map (·.type) = some 138 := by kernel_rfl
theorem laid_pow : laidL.filter (fun x => x.1 == "internal/strconv.uint64pow10") = [("internal/strconv.uint64pow10", Rows.laid_internal_strconv_uint64pow10)] := by kernel_rfl

/-- What the row's list gives: the tables' cells. -/
theorem tabP_of {W : World} (h : laidMetH Tryz.prog laidL W) : TabP W := by
  have h2 := laidMetH.filter (fun x => x.1 == "internal/strconv.uint64pow10") h
  rw [laid_pow] at h2
  exact Lib.tabIs_of_head (rest := []) gPow gPowType Tryz.underlying138 (by kernel_rfl) (by kernel_rfl) (by kernel_rfl) h2

def tab32 : List Int := [0, 1, 28, 2, 29, 14, 24, 3, 30, 22, 20, 15, 25, 17, 4, 8, 31, 27, 13, 23, 21, 19, 16, 7, 26, 12, 18, 6, 11, 5, 10, 9]
def fillB (l : Array Value) : Obj → Obj
  | .cells _ t frozen => .cells l t frozen
  | o => o
/-- The settled world, the tables holding what their initialisers lay. -/
noncomputable def laidWorld (os : Os) : World :=
  { World.holding Tryz.prog os ⟨#[], #[], []⟩ with heap := (((World.holding Tryz.prog os ⟨#[], #[], []⟩).heap.modify 3 (fillB (tab64.map fun z => Value.int .u8 z).toArray)).modify 1 (fillB (Lib.pow10Tab.map fun z => Value.int .u64 z).toArray)).modify 2 (fillB (tab32.map fun z => Value.int .u8 z).toArray) }
theorem laid_met (os : Os) : laidMet Tryz.prog laidL ((laidWorld os).forCall (fun _ _ => 0) ⟨#[], #[.string ⟨#[]⟩], []⟩).memory := laidMet_of_run' 8 (by kernel_rfl) (by kernel_rfl)

end Go.Proofs.YtihnmamejfoeeaaGreatDoor
