/-
  Walks: In of both packages; Same.
-/
import Derived.Test.YthcaijcchjociaaW1
import Derived.Test.YthcaijcchjociaaRow
import Derived.BigQuiet
import Derived.Deep.QuietTactic
import Derived.Laws.StructEq
namespace Go.Proofs.Ythcaijcchjociaa
open Go.RowKit

theorem inS_take_succ {l : List Sp} {k : Nat} {x : Sp} {n : Int} (hx : l[k]? = some x) : inS (l.take (k + 1)) n = (inS (l.take k) n || (decide (x.1 ≤ n) && decide (n ≤ x.2))) := by
  rw [List.take_add_one, hx, inS_append]
  simp [inS]

theorem inS_of_mem {l : List Sp} {k : Nat} {x : Sp} {n : Int} (hx : l[k]? = some x) (h1 : x.1 ≤ n) (h2 : n ≤ x.2) : inS l n = true :=
  inS_iff.2 ⟨x, List.mem_of_getElem? hx, h1, h2⟩

theorem ret_bool {a b : Bool} (h : a = b) : Ending.returned (.bool a) = .returned (.bool b) := by rw [h]

set_option maxHeartbeats 400000 in
theorem in_any (v : Value) (l : List Sp) (n : Int) (w : World) (hl : l.length ≤ 1000000) (hv : Row2 w v l) :
    Calls Try.prog 14 #[v, .int .u32 n] w fun e w' => e = .returned (.bool (inS l n)) ∧ Below w.heap.size w w' := by
  obtain ⟨ao, cap, rfl, hc⟩ := hv
  go_enter Try.func14, Try.ntmps14
  go_wp2
  go_loopw [9] (fun i wr => ∃ k : Nat, k ≤ l.length ∧ i = .int .i64 k ∧ inS (l.take k) n = false ∧ Below w.heap.size w wr) (fun i _ => l.length - (intOf i).toNat)
  case atStart => exact ⟨0, Nat.zero_le _, rfl, rfl, Below.refl _ _⟩
  case round =>
    obtain ⟨k, hk, rfl, hin, hB⟩ := hrel
    by_cases hlt : k < l.length
    · obtain ⟨b, off, rfl, hb, hcell⟩ := hc.1 (ne_nil_of_lt hlt)
      obtain ⟨x, hx⟩ : ∃ x, l[k]? = some x := ⟨_, List.getElem?_eq_getElem hlt⟩
      obtain ⟨c1, c2⟩ := hcell k x hx
      have c1' : wr.cell? ⟨b, off + k * 2, none⟩ = some (.int .u32 x.1) := (hB.cell (by exact hb)).trans c1
      have c2' : wr.cell? ⟨b, off + k * 2 + 1, none⟩ = some (.int .u32 x.2) := (hB.cell (by exact hb)).trans c2
      have HX : Hid (l[k]? = some x) := hx
      have HI : Hid (inS (l.take k) n = false) := hin
      have hB' := hB.size
      clear hc hcell c1 c2 hx hin
      go_wp2
      · go_ret
        exact ⟨by rw [inS_of_mem HX.out (by assumption) (by assumption)]; rfl, hB.alloc hB' _⟩
      all_goals
        go_roundw
        case rel => exact ⟨k + 1, by omega, by go_num, by rw [inS_take_succ HX.out, HI.out]; simp; omega, hB.alloc hB' _⟩
        case measure => simp [intOf]; omega
    · have e : l.take k = l := List.take_of_length_le (by omega)
      rw [e] at hin
      clear e hc
      go_wp2
      go_ret
      exact ⟨by rw [hin]; rfl, hB⟩

set_option maxHeartbeats 400000 in
theorem rin_any (v : Value) (l : List Sp) (n : Int) (w : World) (hl : l.length ≤ 1000000) (hv : Row2 w v l) :
    Calls Try.prog 15 #[v, .int .u32 n] w fun e w' => e = .returned (.bool (inS l n)) ∧ Below w.heap.size w w' := by
  obtain ⟨ao, cap, rfl, hc⟩ := hv
  go_enter Try.func15, Try.ntmps15
  go_wp2
  go_loopw [9] (fun i wr => ∃ k : Nat, k ≤ l.length ∧ i = .int .i64 k ∧ inS (l.take k) n = false ∧ Below w.heap.size w wr) (fun i _ => l.length - (intOf i).toNat)
  case atStart => exact ⟨0, Nat.zero_le _, rfl, rfl, Below.refl _ _⟩
  case round =>
    obtain ⟨k, hk, rfl, hin, hB⟩ := hrel
    by_cases hlt : k < l.length
    · obtain ⟨b, off, rfl, hb, hcell⟩ := hc.1 (ne_nil_of_lt hlt)
      obtain ⟨x, hx⟩ : ∃ x, l[k]? = some x := ⟨_, List.getElem?_eq_getElem hlt⟩
      obtain ⟨c1, c2⟩ := hcell k x hx
      have c1' : wr.cell? ⟨b, off + k * 2, none⟩ = some (.int .u32 x.1) := (hB.cell (by exact hb)).trans c1
      have c2' : wr.cell? ⟨b, off + k * 2 + 1, none⟩ = some (.int .u32 x.2) := (hB.cell (by exact hb)).trans c2
      have HX : Hid (l[k]? = some x) := hx
      have HI : Hid (inS (l.take k) n = false) := hin
      have hB' := hB.size
      clear hc hcell c1 c2 hx hin
      go_wp2
      · go_ret
        exact ⟨by rw [inS_of_mem HX.out (by assumption) (by assumption)]; rfl, hB.alloc hB' _⟩
      all_goals
        go_roundw
        case rel => exact ⟨k + 1, by omega, by go_num, by rw [inS_take_succ HX.out, HI.out]; simp; omega, hB.alloc hB' _⟩
        case measure => simp [intOf]; omega
    · have e : l.take k = l := List.take_of_length_le (by omega)
      rw [e] at hin
      clear e hc
      go_wp2
      go_ret
      exact ⟨by rw [hin]; rfl, hB⟩

theorem neq35 (a b c d : Int) (w : World) : (binOp .neq 35 (.agg #[.int .u32 a, .int .u32 b]) (.agg #[.int .u32 c, .int .u32 d])).run Try.prog w = .ok (.bool (!(a == c && b == d))) w := by
  have u3 := Try.underlying23
  have a3 := Try.isAgg23
  have z3 := Try.sizeOf23
  have hS : Try.prog.underlying 35 = some (.struct (Try.prog.fieldsOf 35)) := by kernel_rfl
  have hp : Try.prog.stoodInHeld 35 = false := by kernel_rfl
  rw [run_neq_struct, show (10000 : Nat) = 9999 + 1 from rfl, run_equalIn_agg w 9999 35 _ _ hS hp]
  simp only [Program.fieldsOf, Try.underlying35]
  go_simp
  by_cases h1 : a = c <;> by_cases h2 : b = d <;> simp [h1, h2]

theorem take_succ_of {α : Type} {l : List α} {k : Nat} {x : α} (hx : l[k]? = some x) : l.take (k + 1) = l.take k ++ [x] := by
  rw [List.take_add_one, hx]; rfl

theorem below_drewN {B : Nat} {a w : World} (h : Below B a w) : ∀ n, Below B a (w.drewN n) := fun _ => ⟨h.os, h.tape, h.output, h.size, h.block⟩

set_option maxHeartbeats 1000000 in
theorem same_any (v u : Value) (l m : List Sp) (w : World) (hl : l.length ≤ 1000000) (hv : Row2 w v l) (hu : Row2 w u m) :
    Calls Try.prog 12 #[v, u] w fun e w' => e = .returned (.bool (decide (l = m))) ∧ Below w.heap.size w w' := by
  obtain ⟨ao, cap, rfl, hc⟩ := hv
  obtain ⟨ao2, cap2, rfl, hc2⟩ := hu
  by_cases hlen : l.length = m.length
  case neg =>
    have hne : ((l.length : Int) != (m.length : Int)) = true := by rw [bne_iff_ne]; omega
    have e : decide (l = m) = false := by simp; intro h; rw [h] at hlen; exact hlen rfl
    rw [e]
    clear e hc hc2 hlen
    go_enter Try.func12, Try.ntmps12
    go_wp2
    go_ret
    exact ⟨rfl, Below.refl _ _⟩
  have hne : ((l.length : Int) != (l.length : Int)) = false := by simp
  rw [← hlen]
  have HL : Hid (l.length = m.length) := hlen
  clear hlen
  go_enter Try.func12, Try.ntmps12
  go_wp2
  go_loopw [13] (fun i wr => ∃ k : Nat, k ≤ l.length ∧ i = .int .i64 k ∧ l.take k = m.take k ∧ Below w.heap.size w wr) (fun i _ => l.length - (intOf i).toNat)
  case atStart => exact ⟨0, Nat.zero_le _, rfl, by simp, Below.refl _ _⟩
  case round =>
    obtain ⟨k, hk, rfl, hin, hB⟩ := hrel
    by_cases hlt : k < l.length
    · obtain ⟨b, off, rfl, hb, hcell⟩ := hc.1 (ne_nil_of_lt hlt)
      obtain ⟨b2, off2, rfl, hb2, hcell2⟩ := hc2.1 (ne_nil_of_lt (k := k) (by rw [← HL.out]; exact hlt))
      obtain ⟨x, hx⟩ : ∃ x, l[k]? = some x := ⟨_, List.getElem?_eq_getElem hlt⟩
      obtain ⟨y, hy⟩ : ∃ y, m[k]? = some y := ⟨_, List.getElem?_eq_getElem (by rw [← HL.out]; exact hlt)⟩
      obtain ⟨c1, c2⟩ := hcell k x hx
      obtain ⟨d1, d2⟩ := hcell2 k y hy
      have c1' : ∀ q, (wr.drewN q).cell? ⟨b, off + k * 2, none⟩ = some (.int .u32 x.1) := fun _ => (hB.cell (by exact hb)).trans c1
      have c2' : ∀ q, (wr.drewN q).cell? ⟨b, off + k * 2 + 1, none⟩ = some (.int .u32 x.2) := fun _ => (hB.cell (by exact hb)).trans c2
      have d1' : ∀ q, (wr.drewN q).cell? ⟨b2, off2 + k * 2, none⟩ = some (.int .u32 y.1) := fun _ => (hB.cell (by exact hb2)).trans d1
      have d2' : ∀ q, (wr.drewN q).cell? ⟨b2, off2 + k * 2 + 1, none⟩ = some (.int .u32 y.2) := fun _ => (hB.cell (by exact hb2)).trans d2
      have HX : Hid (l[k]? = some x) := hx
      have HY : Hid (m[k]? = some y) := hy
      have HI : Hid (l.take k = m.take k) := hin
      by_cases hxy : x = y
      · have hnq : ∀ W, (binOp .neq 35 (.agg #[.int .u32 x.1, .int .u32 x.2]) (.agg #[.int .u32 y.1, .int .u32 y.2])).run Try.prog W = .ok (.bool false) W := fun W => by
          rw [neq35, hxy]; simp
        have HE : Hid (x = y) := hxy
        clear hc hcell c1 c2 hx hin hc2 hcell2 d1 d2 hy hxy
        go_wp2
        go_quiet (fail)
        go_wp2
        go_roundw
        case rel => exact ⟨k + 1, by omega, by go_num, by rw [take_succ_of HX.out, take_succ_of HY.out, HI.out, HE.out], below_drewN hB _⟩
        case measure => simp [intOf]; omega
      · have hnq : ∀ W, (binOp .neq 35 (.agg #[.int .u32 x.1, .int .u32 x.2]) (.agg #[.int .u32 y.1, .int .u32 y.2])).run Try.prog W = .ok (.bool true) W := fun W => by
          rw [neq35]
          have : (x.1 == y.1 && x.2 == y.2) = false := by
            apply Bool.eq_false_iff.2
            intro h
            simp at h
            exact hxy (Prod.ext h.1 h.2)
          rw [this]; rfl
        have HE : Hid (decide (l = m) = false) := by
          refine decide_eq_false ?_
          intro h
          rw [h] at hx
          rw [hy] at hx
          exact hxy (by injection hx with h; exact h.symm)
        clear hc hcell c1 c2 hx hin hc2 hcell2 d1 d2 hy hxy
        go_wp2
        go_quiet (fail)
        go_wp2
        go_ret
        exact ⟨ret_bool HE.out.symm, below_drewN hB _⟩
    · have e : l = m := by
        rw [List.take_of_length_le (by omega), List.take_of_length_le (by rw [← HL.out]; omega)] at hin
        exact hin
      subst e
      clear hc hc2 hin
      go_wp2
      go_ret
      exact ⟨ret_bool (by simp), hB⟩
end Go.Proofs.Ythcaijcchjociaa
