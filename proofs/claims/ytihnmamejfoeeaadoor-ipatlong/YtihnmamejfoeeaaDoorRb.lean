/-
  The tables that the rows list: what they give; a world that holds them.
-/
import Derived.Test.YtihnmamejfoeeaaDoorOpen
import Derived.Test.YtihnmamejfoeeaaDoorW6
import Derived.Test.YtihnmamejfoeeaaDoorFu
import Derived.Test.YtihnmamejfoeeaaDoorCards
import Derived.Test.YtihnmamejfoeeaaDoorTie
import Derived.OpenShut
import Derived.Deep.DeepHandedRow
import Derived.Lib.LaidTab
import Derived.LaidSub
namespace Go.Proofs.YtihnmamejfoeeaaDoor
open Go.ChangeShapes Go.WideShapes Go.ChangeAt Go.RowKit

abbrev laidL : List (String × DataW Unit) := [("math/bits.deBruijn32tab", Rows.laid_math_bits_deBruijn32tab), ("math/bits.deBruijn64tab", Rows.laid_math_bits_deBruijn64tab), ("internal/strconv.uint64pow10", Rows.laid_internal_strconv_uint64pow10)]
theorem gTab : Tryd.prog.globalNamed "math/bits.deBruijn64tab" = some 0 := by kernel_rfl
theorem gTabType : (Tryd.prog.globals[0]?).map (·.type) = some 96 := by kernel_rfl
theorem cells96 : Tryd.prog.cellsOf 96 = 64 := by kernel_rfl
theorem cells5 : Tryd.prog.cellsOf 5 = 1 := by kernel_rfl
theorem gPow : Tryd.prog.globalNamed "internal/strconv.uint64pow10" = some 2 := by kernel_rfl
theorem gPowType : (Tryd.prog.globals[2]?).map (·.type) = some 126 := by kernel_rfl
theorem laid_bits : laidL.filter (fun x => x.1 == "math/bits.deBruijn64tab") = [("math/bits.deBruijn64tab", Rows.laid_math_bits_deBruijn64tab)] := by kernel_rfl
theorem laid_pow : laidL.filter (fun x => x.1 == "internal/strconv.uint64pow10") = [("internal/strconv.uint64pow10", Rows.laid_internal_strconv_uint64pow10)] := by kernel_rfl

/-- What the row's list gives: the tables' cells. -/
theorem tab_of {W : World} (h : laidMetH Tryd.prog laidL W) : Tab W := by
  have h2 := laidMetH.filter (fun x => x.1 == "math/bits.deBruijn64tab") h
  rw [laid_bits] at h2
  have h1 : Lib.TabIs Tryd.prog W "math/bits.deBruijn64tab" .u8 tab64 := Lib.tabIs_of_head (rest := []) gTab gTabType Tryd.underlying96 Tryd.underlying5 cells5 cells96 h2
  intro i x hx
  have hi : i < tab64.length := (List.getElem?_eq_some_iff.1 hx).1
  have h2 := h1.cell gTab i hi
  rw [h2, List.getD_eq_getElem?_getD, hx]
  rfl
theorem tabP_of {W : World} (h : laidMetH Tryd.prog laidL W) : TabP W := by
  have h2 := laidMetH.filter (fun x => x.1 == "internal/strconv.uint64pow10") h
  rw [laid_pow] at h2
  exact Lib.tabIs_of_head (rest := []) gPow gPowType Tryd.underlying126 (by kernel_rfl) (by kernel_rfl) (by kernel_rfl) h2

def tab32 : List Int := [0, 1, 28, 2, 29, 14, 24, 3, 30, 22, 20, 15, 25, 17, 4, 8, 31, 27, 13, 23, 21, 19, 16, 7, 26, 12, 18, 6, 11, 5, 10, 9]
def fillB (l : Array Value) : Obj → Obj
  | .cells _ t frozen => .cells l t frozen
  | o => o
/-- The settled world, the tables holding what their initialisers lay. -/
noncomputable def laidWorld (os : Os) : World :=
  { World.holding Tryd.prog os ⟨#[], #[], []⟩ with heap := (((World.holding Tryd.prog os ⟨#[], #[], []⟩).heap.modify 0 (fillB (tab64.map fun z => Value.int .u8 z).toArray)).modify 2 (fillB (Lib.pow10Tab.map fun z => Value.int .u64 z).toArray)).modify 3 (fillB (tab32.map fun z => Value.int .u8 z).toArray) }
theorem laid_met (os : Os) : laidMet Tryd.prog laidL ((laidWorld os).forCall (fun _ _ => 0) ⟨#[], #[.string ⟨#[]⟩, .int .u8 0], []⟩).memory := laidMet_of_run' 8 (by kernel_rfl) (by kernel_rfl)

end Go.Proofs.YtihnmamejfoeeaaDoor
