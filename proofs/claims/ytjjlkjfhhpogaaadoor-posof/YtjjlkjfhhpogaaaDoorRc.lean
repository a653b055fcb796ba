/-
  The table that the rows list: what it gives; a world that holds it.
  A path that came in: its length is at most its capacity. Small numbers that came in.
-/
import Derived.Test.YtjjlkjfhhpogaaaDoorOpen
import Derived.Test.YtjjlkjfhhpogaaaDoorW7
import Derived.Test.YtjjlkjfhhpogaaaDoorCards
import Derived.Test.YtjjlkjfhhpogaaaDoorTie
import Derived.OpenShut
import Derived.Deep.DeepHandedRow
import Derived.Lib.LaidTab
namespace Go.Proofs.YtjjlkjfhhpogaaaDoor
open Go.ChangeShapes Go.WideShapes Go.ChangeAt Go.RowKit

theorem gTab : Tryd.prog.globalNamed "math/bits.deBruijn64tab" = some 0 := by kernel_rfl
theorem gTabType : (Tryd.prog.globals[0]?).map (·.type) = some 130 := by kernel_rfl
theorem cells130 : Tryd.prog.cellsOf 130 = 64 := by kernel_rfl
theorem cells5 : Tryd.prog.cellsOf 5 = 1 := by kernel_rfl

/-- What the row's list gives: the table's cells. -/
theorem tab_of {W : World} (h : laidMetH Tryd.prog [("math/bits.deBruijn64tab", Rows.laid_math_bits_deBruijn64tab)] W) : Tab W := by
  have h1 : Lib.TabIs Tryd.prog W "math/bits.deBruijn64tab" .u8 tab64 := Lib.tabIs_of_head (rest := []) gTab gTabType Tryd.underlying130 Tryd.underlying5 cells5 cells130 h
  intro i x hx
  have hi : i < tab64.length := (List.getElem?_eq_some_iff.1 hx).1
  have h2 := h1.cell gTab i hi
  rw [h2, List.getD_eq_getElem?_getD, hx]
  rfl

/-- The settled world, the table (block 0) holding what its initialiser lays. -/
noncomputable def laidWorld (os : Os) : World :=
  { World.holding Tryd.prog os ⟨#[], #[], []⟩ with heap := (World.holding Tryd.prog os ⟨#[], #[], []⟩).heap.modify 0 fun
      | .cells _ t frozen => .cells (tab64.map fun z => Value.int .u8 z).toArray t frozen
      | o => o }

set_option maxRecDepth 100000 in
theorem path_cap {H : Type} {enc : TypeId × Value → H} {W : World} {r : Reach} {b0 : Nat} {v : Value} {d : DataW H} {p : List MemPlace} (hv : Value.okWide Tryd.prog W r b0 26 v) (h : DataW.Trod enc Tryd.prog W 0 (fun _ => true) true 26 v d p) : ∀ (ao : Option Addr) (n c : Nat), v = .slice ao n c → n ≤ c := by
  obtain ⟨a0, len0, cap0, rfl⟩ := okWide_slice Tryd.underlying26 hv
  obtain ⟨fuel, hf⟩ := h
  intro ao n c e
  injection e with e1 e2 e3
  subst e1 e2 e3
  rcases DataW.trod_slice Tryd.underlying26 hf with ⟨hcs, _⟩ | ⟨a, len, cap, elems, rest, n, _, hcs, _, _, hl, _⟩
  · injection hcs with hcs _
    injection hcs with _ h2 h3
    omega
  · injection hcs with hcs _
    injection hcs with _ h2 h3
    omega

theorem bounds_u8 {x : Int} (h : (Lit.int .u8 x).wf = true) : 0 ≤ x ∧ x ≤ 255 := by
  simp [Lit.wf, IntKind.min, IntKind.max, IntKind.signed, IntKind.bits] at h
  exact ⟨by omega, by omega⟩

end Go.Proofs.YtjjlkjfhhpogaaaDoor
