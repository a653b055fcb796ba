/-
  Walks of the leaves: great, next, reaches, cmp.Compare, the closure of rising.
-/
import Derived.Test.YtihnmamejfoeeaaDoorRows
import Derived.WalkKit
import Derived.WalkSpells
namespace Go.Proofs.YtihnmamejfoeeaaDoorS1
open Go.RowKit

set_option maxHeartbeats 400000 in
theorem next_last (w : World) :
    Calls Tryd.prog 55 #[.int .u32 4294967295] w fun e w' => e = .returned (.tuple #[.int .u32 0, .bool false]) ∧ w' = w := by
  go_enter Tryd.func55, Tryd.ntmps55
  go_wp2
  go_ret2
  exact ⟨rfl, rfl⟩

set_option maxHeartbeats 400000 in
theorem next_more (n : Int) (h0 : 0 ≤ n) (h1 : n < 4294967295) (w : World) :
    Calls Tryd.prog 55 #[.int .u32 n] w fun e w' => e = .returned (.tuple #[.int .u32 (n + 1), .bool true]) ∧ w' = w := by
  go_enter Tryd.func55, Tryd.ntmps55
  go_wp2
  go_ret2
  exact ⟨rfl, rfl⟩

/-- What cmp.Compare answers. -/
def cmpV (x y : Int) : Int := if x < y then -1 else if y < x then 1 else 0

set_option maxHeartbeats 400000 in
theorem compare_any (x y : Int) (w : World) :
    Calls Tryd.prog 54 #[.int .u32 x, .int .u32 y] w fun e w' => e = .returned (.int .i64 (cmpV x y)) ∧ w' = w := by
  unfold cmpV
  by_cases h1 : x < y
  · rw [if_pos h1]
    go_enter Tryd.func54, Tryd.ntmps54
    go_wp2
    go_ret
    exact ⟨rfl, rfl⟩
  · rw [if_neg h1]
    by_cases h2 : y < x
    · rw [if_pos h2]
      go_enter Tryd.func54, Tryd.ntmps54
      go_wp2
      go_ret
      exact ⟨rfl, rfl⟩
    · rw [if_neg h2]
      go_enter Tryd.func54, Tryd.ntmps54
      go_wp2
      go_ret
      exact ⟨rfl, rfl⟩

set_option maxHeartbeats 400000 in
theorem closure_any (x y : Int × Int) (w : World) :
    Calls Tryd.prog 53 #[.agg #[.int .u32 x.1, .int .u32 x.2], .agg #[.int .u32 y.1, .int .u32 y.2]] w fun e w' => e = .returned (.int .i64 (cmpV x.1 y.1)) ∧ ∃ c1 c2 : Array Value, w' = (w.alloc (.cells c1 39)).alloc (.cells c2 39) := by
  go_enter Tryd.func53, Tryd.ntmps53
  go_wp2_with (go_at_call 54; refine (compare_any _ _ _).mono ?_; rintro e w' ⟨rfl, rfl⟩)
  go_ret
  exact ⟨rfl, _, _, rfl⟩

set_option maxHeartbeats 400000 in
theorem reaches_any (a b lo : Int) (h0 : 0 ≤ b) (h1 : b ≤ 4294967295) (hl : lo ≤ 4294967295) (w : World) :
    Calls Tryd.prog 42 #[.agg #[.int .u32 a, .int .u32 b], .int .u32 lo] w fun e w' => e = .returned (.bool (decide (lo ≤ b + 1))) ∧ ∃ c1 : Array Value, w' = w.alloc (.cells c1 39) := by
  by_cases hb : b = 4294967295
  · subst hb
    have e1 : decide (lo ≤ (4294967295 : Int) + 1) = true := by simp; omega
    rw [e1]
    clear e1
    go_enter Tryd.func42, Tryd.ntmps42
    go_wp2
    go_ret
    exact ⟨rfl, _, rfl⟩
  · have hb' : b < 4294967295 := by omega
    clear hb
    go_enter Tryd.func42, Tryd.ntmps42
    go_wp2_with (go_at_call 55; refine (next_more b h0 hb' _).mono ?_; rintro e w' ⟨rfl, rfl⟩)
    go_ret
    exact ⟨rfl, _, rfl⟩

end Go.Proofs.YtihnmamejfoeeaaDoorS1
