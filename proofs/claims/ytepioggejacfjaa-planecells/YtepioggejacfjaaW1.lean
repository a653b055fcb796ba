/-
  Walks of the leaves: point, upTo, greater, lesser, community, the law's point.
-/
import Derived.Test.YtepioggejacfjaaFv
import Derived.Laws.BitsAllLaws
namespace Go.Proofs.Ytepioggejacfjaa
open Go.RowKit

theorem and_last (c : Int) (h0 : 0 ≤ c) (h1 : c ≤ 4294967295) : bits .and .u32 c 65535 = c % 65536 := by
  rw [u32_and c 65535 h0 (by omega) (by omega) (by omega)]
  have h : c.toNat &&& (65535 : Int).toNat = c.toNat % 65536 := Nat.and_two_pow_sub_one_eq_mod c.toNat 16
  rw [h]
  omega

theorem or_parts (x y : Int) (x0 : 0 ≤ x) (x1 : x ≤ 65535) (y0 : 0 ≤ y) (y1 : y ≤ 65535) : bits .or .u32 (x * 65536) y = 65536 * x + y := by
  rw [u32_or (x * 65536) y (by omega) (by omega) (by omega) (by omega)]
  have h := Nat.two_pow_add_eq_or_of_lt (i := 16) (b := y.toNat) (by omega) x.toNat
  have e : (x * 65536).toNat = 2 ^ 16 * x.toNat := by omega
  rw [e, ← h]
  omega

set_option maxHeartbeats 400000 in
theorem point_any (c : Int) (h0 : 0 ≤ c) (h1 : c ≤ 4294967295) (w : World) :
    Calls Try.prog 19 #[.int .u32 c] w fun e w' => e = .returned (.complex .f64 (fl (c / 65536)) (fl (c % 65536))) ∧ w' = w := by
  have HA : Hid (bits .and .u32 c 65535 = c % 65536) := and_last c h0 h1
  rw [fl_def, fl_def]
  go_enter Try.func19, Try.ntmps19
  go_wp2
  go_ret
  exact ⟨by rw [HA.out]; rfl, rfl⟩

set_option maxHeartbeats 400000 in
theorem lpoint_any (a b : Int) (a0 : 0 ≤ a) (a1 : a ≤ 65535) (b0 : 0 ≤ b) (b1 : b ≤ 65535) (w : World) :
    Calls Try.prog 18 #[.int .u32 a, .int .u32 b] w fun e w' => e = .returned (.int .u32 (65536 * a + b)) ∧ w' = w := by
  go_enter Try.func18, Try.ntmps18
  go_wp2
  go_ret
  exact ⟨rfl, rfl⟩

set_option maxHeartbeats 400000 in
theorem upTo_any (a b c d : Int) (a0 : 0 ≤ a) (a1 : a ≤ 65536) (b0 : 0 ≤ b) (b1 : b ≤ 65536) (c0 : 0 ≤ c) (c1 : c ≤ 65536) (d0 : 0 ≤ d) (d1 : d ≤ 65536) (w : World) :
    Calls Try.prog 20 #[.complex .f64 (fl a) (fl b), .complex .f64 (fl c) (fl d)] w fun e w' => e = .returned (.bool (decide (a ≤ c) && decide (b ≤ d))) ∧ w' = w := by
  have h1 := fl_le a0 a1 c0 c1
  have h2 := fl_le b0 b1 d0 d1
  by_cases hx : a ≤ c
  · by_cases hy : b ≤ d
    · rw [decide_eq_true hx] at h1 ⊢
      rw [decide_eq_true hy] at h2 ⊢
      go_enter Try.func20, Try.ntmps20
      go_wp2
      go_ret
      exact ⟨rfl, rfl⟩
    · rw [decide_eq_true hx] at h1 ⊢
      rw [decide_eq_false hy] at h2 ⊢
      go_enter Try.func20, Try.ntmps20
      go_wp2
      go_ret
      exact ⟨rfl, rfl⟩
  · rw [decide_eq_false hx] at h1 ⊢
    go_enter Try.func20, Try.ntmps20
    go_wp2
    go_ret
    exact ⟨rfl, rfl⟩

set_option maxHeartbeats 400000 in
theorem greater_any (a b c d : Int) (a0 : 0 ≤ a) (a1 : a ≤ 65536) (b0 : 0 ≤ b) (b1 : b ≤ 65536) (c0 : 0 ≤ c) (c1 : c ≤ 65536) (d0 : 0 ≤ d) (d1 : d ≤ 65536) (w : World) :
    Calls Try.prog 23 #[.complex .f64 (fl a) (fl b), .complex .f64 (fl c) (fl d)] w fun e w' => e = .returned (.complex .f64 (fl (max a c)) (fl (max b d))) ∧ w' = w := by
  have h1 := fun ts t => run_max_fl (P := Try.prog) w ts t a0 a1 c0 c1
  have h2 := fun ts t => run_max_fl (P := Try.prog) w ts t b0 b1 d0 d1
  go_enter Try.func23, Try.ntmps23
  go_wp2
  go_ret
  exact ⟨rfl, rfl⟩

set_option maxHeartbeats 400000 in
theorem lesser_any (a b c d : Int) (a0 : 0 ≤ a) (a1 : a ≤ 65536) (b0 : 0 ≤ b) (b1 : b ≤ 65536) (c0 : 0 ≤ c) (c1 : c ≤ 65536) (d0 : 0 ≤ d) (d1 : d ≤ 65536) (w : World) :
    Calls Try.prog 24 #[.complex .f64 (fl a) (fl b), .complex .f64 (fl c) (fl d)] w fun e w' => e = .returned (.complex .f64 (fl (min a c)) (fl (min b d))) ∧ w' = w := by
  have h1 := fun ts t => run_min_fl (P := Try.prog) w ts t a0 a1 c0 c1
  have h2 := fun ts t => run_min_fl (P := Try.prog) w ts t b0 b1 d0 d1
  go_enter Try.func24, Try.ntmps24
  go_wp2
  go_ret
  exact ⟨rfl, rfl⟩

set_option maxHeartbeats 400000 in
theorem community_any (x y : Int) (x0 : 0 ≤ x) (x1 : x ≤ 65535) (y0 : 0 ≤ y) (y1 : y ≤ 65535) (w : World) :
    Calls Try.prog 25 #[.complex .f64 (fl x) (fl y)] w fun e w' => e = .returned (.int .u32 (65536 * x + y)) ∧ w' = w := by
  have h1 := fun w => run_convert_float_int (P := Try.prog) w 53 23 .f64 .u32 (fl x) x (by kernel_rfl) Try.underlying23 (fl_int x0 (by omega))
  have h2 := fun w => run_convert_float_int (P := Try.prog) w 53 23 .f64 .u32 (fl y) y (by kernel_rfl) Try.underlying23 (fl_int y0 (by omega))
  have HA : Hid (bits .or .u32 (x * 65536) y = 65536 * x + y) := or_parts x y x0 x1 y0 y1
  go_enter Try.func25, Try.ntmps25
  go_wp2
  go_ret
  exact ⟨by rw [HA.out]; rfl, rfl⟩
end Go.Proofs.Ytepioggejacfjaa
