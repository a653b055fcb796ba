/-
  Walks of the leaves: great, next, reaches, cmp.Compare, the closure of rising.
-/
import Derived.Test.YthcaijcchjociaaRows
import Derived.WalkKit
import Derived.WalkSpells
namespace Go.Proofs.Ythcaijcchjociaa
open Go.RowKit

set_option maxHeartbeats 400000 in
theorem great_any (ao : Option Addr) (n c : Nat) (w : World) :
    Calls Try.prog 9 #[.slice ao n c] w fun e w' => e = .returned (.bool (decide (100 < (n : Int)))) ∧ w' = w := by
  go_enter Try.func9, Try.ntmps9
  go_wp2
  go_ret
  exact ⟨rfl, rfl⟩

set_option maxHeartbeats 400000 in
theorem next_last (w : World) :
    Calls Try.prog 27 #[.int .u32 4294967295] w fun e w' => e = .returned (.tuple #[.int .u32 0, .bool false]) ∧ w' = w := by
  go_enter Try.func27, Try.ntmps27
  go_wp2
  go_ret2
  exact ⟨rfl, rfl⟩

set_option maxHeartbeats 400000 in
theorem next_more (n : Int) (h0 : 0 ≤ n) (h1 : n < 4294967295) (w : World) :
    Calls Try.prog 27 #[.int .u32 n] w fun e w' => e = .returned (.tuple #[.int .u32 (n + 1), .bool true]) ∧ w' = w := by
  go_enter Try.func27, Try.ntmps27
  go_wp2
  go_ret2
  exact ⟨rfl, rfl⟩

/-- What cmp.Compare answers. -/
def cmpV (x y : Int) : Int := if x < y then -1 else if y < x then 1 else 0

set_option maxHeartbeats 400000 in
theorem compare_any (x y : Int) (w : World) :
    Calls Try.prog 34 #[.int .u32 x, .int .u32 y] w fun e w' => e = .returned (.int .i64 (cmpV x y)) ∧ w' = w := by
  unfold cmpV
  by_cases h1 : x < y
  · rw [if_pos h1]
    go_enter Try.func34, Try.ntmps34
    go_wp2
    go_ret
    exact ⟨rfl, rfl⟩
  · rw [if_neg h1]
    by_cases h2 : y < x
    · rw [if_pos h2]
      go_enter Try.func34, Try.ntmps34
      go_wp2
      go_ret
      exact ⟨rfl, rfl⟩
    · rw [if_neg h2]
      go_enter Try.func34, Try.ntmps34
      go_wp2
      go_ret
      exact ⟨rfl, rfl⟩

set_option maxHeartbeats 400000 in
theorem closure_any (x y : Int × Int) (w : World) :
    Calls Try.prog 33 #[.agg #[.int .u32 x.1, .int .u32 x.2], .agg #[.int .u32 y.1, .int .u32 y.2]] w fun e w' => e = .returned (.int .i64 (cmpV x.1 y.1)) ∧ ∃ c1 c2 : Array Value, w' = (w.alloc (.cells c1 35)).alloc (.cells c2 35) := by
  go_enter Try.func33, Try.ntmps33
  go_wp2_with (go_at_call 34; refine (compare_any _ _ _).mono ?_; rintro e w' ⟨rfl, rfl⟩)
  go_ret
  exact ⟨rfl, _, _, rfl⟩

set_option maxHeartbeats 400000 in
theorem reaches_any (a b lo : Int) (h0 : 0 ≤ b) (h1 : b ≤ 4294967295) (hl : lo ≤ 4294967295) (w : World) :
    Calls Try.prog 23 #[.agg #[.int .u32 a, .int .u32 b], .int .u32 lo] w fun e w' => e = .returned (.bool (decide (lo ≤ b + 1))) ∧ ∃ c1 : Array Value, w' = w.alloc (.cells c1 35) := by
  by_cases hb : b = 4294967295
  · subst hb
    have e1 : decide (lo ≤ (4294967295 : Int) + 1) = true := by simp; omega
    rw [e1]
    clear e1
    go_enter Try.func23, Try.ntmps23
    go_wp2
    go_ret
    exact ⟨rfl, _, rfl⟩
  · have hb' : b < 4294967295 := by omega
    clear hb
    go_enter Try.func23, Try.ntmps23
    go_wp2_with (go_at_call 27; refine (next_more b h0 hb' _).mono ?_; rintro e w' ⟨rfl, rfl⟩)
    go_ret
    exact ⟨rfl, _, rfl⟩

end Go.Proofs.Ythcaijcchjociaa
