/-
  The tables that the rows list: what they give; a world that holds them.
  A path that came in: its length is at most its capacity. Small numbers that came in.
-/
import Derived.Test.YtjjlkjfhhpogaaaGreatDoorOpen
import Derived.Test.YtjjlkjfhhpogaaaGreatDoorW7
import Derived.Test.YtjjlkjfhhpogaaaGreatDoorPr2
import Derived.Test.YtjjlkjfhhpogaaaGreatDoorCards
import Derived.Test.YtjjlkjfhhpogaaaGreatDoorTie
import Derived.OpenShut
import Derived.Deep.DeepHandedRow
import Derived.Lib.LaidTab
import Derived.LaidSub
namespace Go.Proofs.YtjjlkjfhhpogaaaGreatDoor
open Go.ChangeShapes Go.WideShapes Go.ChangeAt Go.RowKit

abbrev laidL : List (String × DataW Unit) := [("math/bits.deBruijn32tab", Rows.laid_math_bits_deBruijn32tab), ("math/bits.deBruijn64tab", Rows.laid_math_bits_deBruijn64tab), ("internal/strconv.uint64pow10", Rows.laid_internal_strconv_uint64pow10)]
theorem gTab : Tryz.prog.globalNamed "math/bits.deBruijn64tab" = some 0 := by kernel_rfl
theorem gTabType : (Tryz.prog.globals[0]?).map (·.type) = some 140 := by kernel_rfl
theorem cells140 : Tryz.prog.cellsOf 140 = 64 := by kernel_rfl
theorem cells5 : Tryz.prog.cellsOf 5 = 1 := by kernel_rfl
theorem gPow : Tryz.prog.globalNamed "internal/strconv.uint64pow10" = some 2 := by kernel_rfl
theorem gPowType : (Tryz.prog.globals[2]?).map (·.type) = some 167 := by kernel_rfl
theorem laid_bits : laidL.filter (fun x => x.1 == "math/bits.deBruijn64tab") = [("math/bits.deBruijn64tab", Rows.laid_math_bits_deBruijn64tab)] := by kernel_rfl
theorem laid_pow : laidL.filter (fun x => x.1 == "internal/strconv.uint64pow10") = [("internal/strconv.uint64pow10", Rows.laid_internal_strconv_uint64pow10)] := by kernel_rfl

/-- What the row's list gives: the tables' cells. -/
theorem tab_of {W : World} (h : laidMetH Tryz.prog laidL W) : Tab W := by
  have h2 := laidMetH.filter (fun x => x.1 == "math/bits.deBruijn64tab") h
  rw [laid_bits] at h2
  have h1 : Lib.TabIs Tryz.prog W "math/bits.deBruijn64tab" .u8 tab64 := Lib.tabIs_of_head (rest := []) gTab gTabType Tryz.underlying140 Tryz.underlying5 cells5 cells140 h2
  intro i x hx
  have hi : i < tab64.length := (List.getElem?_eq_some_iff.1 hx).1
  have h2 := h1.cell gTab i hi
  rw [h2, List.getD_eq_getElem?_getD, hx]
  rfl
theorem tabP_of {W : World} (h : laidMetH Tryz.prog laidL W) : TabP W := by
  have h2 := laidMetH.filter (fun x => x.1 == "internal/strconv.uint64pow10") h
  rw [laid_pow] at h2
  exact Lib.tabIs_of_head (rest := []) gPow gPowType Tryz.underlying167 (by kernel_rfl) (by kernel_rfl) (by kernel_rfl) h2

def tab32 : List Int := [0, 1, 28, 2, 29, 14, 24, 3, 30, 22, 20, 15, 25, 17, 4, 8, 31, 27, 13, 23, 21, 19, 16, 7, 26, 12, 18, 6, 11, 5, 10, 9]
def fillB (l : Array Value) : Obj → Obj
  | .cells _ t frozen => .cells l t frozen
  | o => o
/-- The settled world, the tables holding what their initialisers lay. -/
noncomputable def laidWorld (os : Os) : World :=
  { World.holding Tryz.prog os ⟨#[], #[], []⟩ with heap := (((World.holding Tryz.prog os ⟨#[], #[], []⟩).heap.modify 0 (fillB (tab64.map fun z => Value.int .u8 z).toArray)).modify 2 (fillB (Lib.pow10Tab.map fun z => Value.int .u64 z).toArray)).modify 3 (fillB (tab32.map fun z => Value.int .u8 z).toArray) }
theorem laid_met (os : Os) : laidMet Tryz.prog laidL ((laidWorld os).forCall (fun _ _ => 0) ⟨#[], #[.string ⟨#[]⟩, .int .u8 0], []⟩).memory := laidMet_of_run' 8 (by kernel_rfl) (by kernel_rfl)

end Go.Proofs.YtjjlkjfhhpogaaaGreatDoor

namespace Go.Proofs.YtjjlkjfhhpogaaaGreatDoor
open Go.ChangeShapes Go.WideShapes Go.ChangeAt Go.RowKit

set_option maxRecDepth 100000 in
theorem path_cap {H : Type} {enc : TypeId × Value → H} {W : World} {r : Reach} {b0 : Nat} {v : Value} {d : DataW H} {p : List MemPlace} (hv : Value.okWide Tryz.prog W r b0 40 v) (h : DataW.Trod enc Tryz.prog W 0 (fun _ => true) true 40 v d p) : ∀ (ao : Option Addr) (n c : Nat), v = .slice ao n c → n ≤ c := by
  obtain ⟨a0, len0, cap0, rfl⟩ := okWide_slice Tryz.underlying40 hv
  obtain ⟨fuel, hf⟩ := h
  intro ao n c e
  injection e with e1 e2 e3
  subst e1 e2 e3
  rcases DataW.trod_slice Tryz.underlying40 hf with ⟨hcs, _⟩ | ⟨a, len, cap, elems, rest, n, _, hcs, _, _, hl, _⟩
  · injection hcs with hcs _
    injection hcs with _ h2 h3
    omega
  · injection hcs with hcs _
    injection hcs with _ h2 h3
    omega

theorem bounds_u8 {x : Int} (h : (Lit.int .u8 x).wf = true) : 0 ≤ x ∧ x ≤ 255 := by
  simp [Lit.wf, IntKind.min, IntKind.max, IntKind.signed, IntKind.bits] at h
  exact ⟨by omega, by omega⟩

end Go.Proofs.YtjjlkjfhhpogaaaGreatDoor
