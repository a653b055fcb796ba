/-
  A path that came in: its length is at most its capacity. Small numbers that came in.
-/
import Derived.Test.YtihnmamejfoeeaaDoorRb
namespace Go.Proofs.YtihnmamejfoeeaaDoor
open Go.ChangeShapes Go.WideShapes Go.ChangeAt Go.RowKit

set_option maxRecDepth 100000 in
theorem path_cap {H : Type} {enc : TypeId × Value → H} {W : World} {r : Reach} {b0 : Nat} {v : Value} {d : DataW H} {p : List MemPlace} (hv : Value.okWide Tryd.prog W r b0 26 v) (h : DataW.Trod enc Tryd.prog W 0 (fun _ => true) true 26 v d p) : ∀ (ao : Option Addr) (n c : Nat), v = .slice ao n c → n ≤ c := by
  obtain ⟨a0, len0, cap0, rfl⟩ := okWide_slice Tryd.underlying26 hv
  obtain ⟨fuel, hf⟩ := h
  intro ao n c e
  injection e with e1 e2 e3
  subst e1 e2 e3
  rcases DataW.trod_slice Tryd.underlying26 hf with ⟨hcs, _⟩ | ⟨a, len, cap, elems, rest, n, _, hcs, _, _, hl, _⟩
  · injection hcs with hcs _
    injection hcs with _ h2 h3
    omega
  · injection hcs with hcs _
    injection hcs with _ h2 h3
    omega

theorem bounds_u8 {x : Int} (h : (Lit.int .u8 x).wf = true) : 0 ≤ x ∧ x ≤ 255 := by
  simp [Lit.wf, IntKind.min, IntKind.max, IntKind.signed, IntKind.bits] at h
  exact ⟨by omega, by omega⟩

end Go.Proofs.YtihnmamejfoeeaaDoor
