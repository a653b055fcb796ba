/-
  Walks: In of both packages; Same.
-/
import Derived.Test.YtihnmamejfoeeaaDoorS1W1
import Derived.Test.YtihnmamejfoeeaaDoorS1Row
import Derived.BigQuiet
import Derived.Deep.QuietTactic
import Derived.Laws.StructEq
namespace Go.Proofs.YtihnmamejfoeeaaDoorS1
open Go.RowKit

theorem inS_take_succ {l : List Sp} {k : Nat} {x : Sp} {n : Int} (hx : l[k]? = some x) : inS (l.take (k + 1)) n = (inS (l.take k) n || (decide (x.1 ≤ n) && decide (n ≤ x.2))) := by
  rw [List.take_add_one, hx, inS_append]
  simp [inS]

theorem inS_of_mem {l : List Sp} {k : Nat} {x : Sp} {n : Int} (hx : l[k]? = some x) (h1 : x.1 ≤ n) (h2 : n ≤ x.2) : inS l n = true :=
  inS_iff.2 ⟨x, List.mem_of_getElem? hx, h1, h2⟩

theorem ret_bool {a b : Bool} (h : a = b) : Ending.returned (.bool a) = .returned (.bool b) := by rw [h]

set_option maxHeartbeats 400000 in
theorem in_any (v : Value) (l : List Sp) (n : Int) (w : World) (hl : l.length ≤ 1000000) (hv : Row2 w v l) :
    Calls Tryd.prog 33 #[v, .int .u32 n] w fun e w' => e = .returned (.bool (inS l n)) ∧ Below w.heap.size w w' := by
  obtain ⟨ao, cap, rfl, hc⟩ := hv
  go_enter Tryd.func33, Tryd.ntmps33
  go_wp2
  go_loopw [9] (fun i wr => ∃ k : Nat, k ≤ l.length ∧ i = .int .i64 k ∧ inS (l.take k) n = false ∧ Below w.heap.size w wr) (fun i _ => l.length - (intOf i).toNat)
  case atStart => exact ⟨0, Nat.zero_le _, rfl, rfl, Below.refl _ _⟩
  case round =>
    obtain ⟨k, hk, rfl, hin, hB⟩ := hrel
    by_cases hlt : k < l.length
    · obtain ⟨b, off, rfl, hb, hcell⟩ := hc.1 (ne_nil_of_lt hlt)
      obtain ⟨x, hx⟩ : ∃ x, l[k]? = some x := ⟨_, List.getElem?_eq_getElem hlt⟩
      obtain ⟨c1, c2⟩ := hcell k x hx
      have c1' : wr.cell? ⟨b, off + k * 2, none⟩ = some (.int .u32 x.1) := (hB.cell (by exact hb)).trans c1
      have c2' : wr.cell? ⟨b, off + k * 2 + 1, none⟩ = some (.int .u32 x.2) := (hB.cell (by exact hb)).trans c2
      have HX : Hid (l[k]? = some x) := hx
      have HI : Hid (inS (l.take k) n = false) := hin
      have hB' := hB.size
      clear hc hcell c1 c2 hx hin
      go_wp2
      · go_ret
        exact ⟨by rw [inS_of_mem HX.out (by assumption) (by assumption)]; rfl, hB.alloc hB' _⟩
      all_goals
        go_roundw
        case rel => exact ⟨k + 1, by omega, by go_num, by rw [inS_take_succ HX.out, HI.out]; simp; omega, hB.alloc hB' _⟩
        case measure => simp [intOf]; omega
    · have e : l.take k = l := List.take_of_length_le (by omega)
      rw [e] at hin
      clear e hc
      go_wp2
      go_ret
      exact ⟨by rw [hin]; rfl, hB⟩

set_option maxHeartbeats 400000 in
theorem rin_any (v : Value) (l : List Sp) (n : Int) (w : World) (hl : l.length ≤ 1000000) (hv : Row2 w v l) :
    Calls Tryd.prog 38 #[v, .int .u32 n] w fun e w' => e = .returned (.bool (inS l n)) ∧ Below w.heap.size w w' := by
  obtain ⟨ao, cap, rfl, hc⟩ := hv
  go_enter Tryd.func38, Tryd.ntmps38
  go_wp2
  go_loopw [9] (fun i wr => ∃ k : Nat, k ≤ l.length ∧ i = .int .i64 k ∧ inS (l.take k) n = false ∧ Below w.heap.size w wr) (fun i _ => l.length - (intOf i).toNat)
  case atStart => exact ⟨0, Nat.zero_le _, rfl, rfl, Below.refl _ _⟩
  case round =>
    obtain ⟨k, hk, rfl, hin, hB⟩ := hrel
    by_cases hlt : k < l.length
    · obtain ⟨b, off, rfl, hb, hcell⟩ := hc.1 (ne_nil_of_lt hlt)
      obtain ⟨x, hx⟩ : ∃ x, l[k]? = some x := ⟨_, List.getElem?_eq_getElem hlt⟩
      obtain ⟨c1, c2⟩ := hcell k x hx
      have c1' : wr.cell? ⟨b, off + k * 2, none⟩ = some (.int .u32 x.1) := (hB.cell (by exact hb)).trans c1
      have c2' : wr.cell? ⟨b, off + k * 2 + 1, none⟩ = some (.int .u32 x.2) := (hB.cell (by exact hb)).trans c2
      have HX : Hid (l[k]? = some x) := hx
      have HI : Hid (inS (l.take k) n = false) := hin
      have hB' := hB.size
      clear hc hcell c1 c2 hx hin
      go_wp2
      · go_ret
        exact ⟨by rw [inS_of_mem HX.out (by assumption) (by assumption)]; rfl, hB.alloc hB' _⟩
      all_goals
        go_roundw
        case rel => exact ⟨k + 1, by omega, by go_num, by rw [inS_take_succ HX.out, HI.out]; simp; omega, hB.alloc hB' _⟩
        case measure => simp [intOf]; omega
    · have e : l.take k = l := List.take_of_length_le (by omega)
      rw [e] at hin
      clear e hc
      go_wp2
      go_ret
      exact ⟨by rw [hin]; rfl, hB⟩

theorem take_succ_of {α : Type} {l : List α} {k : Nat} {x : α} (hx : l[k]? = some x) : l.take (k + 1) = l.take k ++ [x] := by
  rw [List.take_add_one, hx]; rfl

theorem below_drewN {B : Nat} {a w : World} (h : Below B a w) : ∀ n, Below B a (w.drewN n) := fun _ => ⟨h.os, h.tape, h.output, h.size, h.block⟩

end Go.Proofs.YtihnmamejfoeeaaDoorS1
