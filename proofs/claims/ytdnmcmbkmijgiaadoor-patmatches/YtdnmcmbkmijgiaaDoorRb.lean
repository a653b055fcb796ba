/-
  The table that the rows list: what it gives; a world that holds it.
-/
import Derived.Test.YtdnmcmbkmijgiaaDoorOpen
import Derived.Test.YtdnmcmbkmijgiaaDoorW6
import Derived.Test.YtdnmcmbkmijgiaaDoorCards
import Derived.Test.YtdnmcmbkmijgiaaDoorTie
import Derived.OpenShut
import Derived.Deep.DeepHandedRow
import Derived.Lib.LaidTab
namespace Go.Proofs.YtdnmcmbkmijgiaaDoor
open Go.ChangeShapes Go.WideShapes Go.ChangeAt Go.RowKit

theorem gTab : Tryd.prog.globalNamed "math/bits.deBruijn64tab" = some 0 := by kernel_rfl
theorem gTabType : (Tryd.prog.globals[0]?).map (·.type) = some 69 := by kernel_rfl
theorem cells69 : Tryd.prog.cellsOf 69 = 64 := by kernel_rfl
theorem cells5 : Tryd.prog.cellsOf 5 = 1 := by kernel_rfl

/-- What the row's list gives: the table's cells. -/
theorem tab_of {W : World} (h : laidMetH Tryd.prog [("math/bits.deBruijn64tab", Rows.laid_math_bits_deBruijn64tab)] W) : Tab W := by
  have h1 : Lib.TabIs Tryd.prog W "math/bits.deBruijn64tab" .u8 tab64 := Lib.tabIs_of_head (rest := []) gTab gTabType Tryd.underlying69 Tryd.underlying5 cells5 cells69 h
  intro i x hx
  have hi : i < tab64.length := (List.getElem?_eq_some_iff.1 hx).1
  have h2 := h1.cell gTab i hi
  rw [h2, List.getD_eq_getElem?_getD, hx]
  rfl

/-- The settled world, the table (block 0) holding what its initialiser lays. -/
noncomputable def laidWorld (os : Os) : World :=
  { World.holding Tryd.prog os ⟨#[], #[], []⟩ with heap := (World.holding Tryd.prog os ⟨#[], #[], []⟩).heap.modify 0 fun
      | .cells _ t frozen => .cells (tab64.map fun z => Value.int .u8 z).toArray t frozen
      | o => o }

end Go.Proofs.YtdnmcmbkmijgiaaDoor
