/-
  The walk of the document's own Mask.
-/
import Derived.Test.YtdilnelfkbeamaaW1
namespace Go.Proofs.Ytdilnelfkbeamaa
open Go.RowKit

theorem szN_succ (k : Nat) : szN (k + 1) = 2 * szN k := by
  unfold szN
  rw [Nat.pow_succ]
  omega
theorem szN_le (k : Nat) (h : k ≤ 32) : szN k ≤ 4294967296 := by
  have := Nat.pow_le_pow_right (show 0 < 2 by omega) h
  unfold szN
  omega

set_option maxHeartbeats 1000000 in
theorem rmask_mid (a : Int) (n : Nat) (ha : Num a) (hn0 : 0 < (n : Int)) (hn : (n : Int) ≤ 32) (w : World) :
    Calls Try.prog 38 #[.agg #[.int .u32 a, .int .i64 n]] w fun e w' => e = .returned (.agg #[.int .u32 (a / szN (32 - (n : Int)).toNat * szN (32 - (n : Int)).toNat), .int .i64 n]) ∧ Gr w w' := by
  obtain ⟨a0, a1⟩ := ha
  obtain ⟨s, hs⟩ : ∃ s, s = szN (32 - n) := ⟨_, rfl⟩
  have HZ : Hid (s = szN (32 - n)) := hs
  have e0 : szN (32 - (n : Int)).toNat = s := by
    have e : (32 - ((n : Int))).toNat = 32 - n := by omega
    rw [e, hs]
  rw [e0]
  clear e0 hs
  go_enter Try.func38, Try.ntmps38
  go_wp2_with fail
  go_loop [4, 5] (fun vs vi => ∃ k : Nat, n ≤ k ∧ k ≤ 32 ∧ vs = .int .u64 (szN (k - n)) ∧ vi = .int .i64 k) (fun _ i => 32 - (intOf i).toNat)
  case atStart => exact ⟨n, Nat.le_refl _, by omega, by simp [szN], rfl⟩
  case round =>
    obtain ⟨k, hk0, hk1, rfl, rfl⟩ := hrel
    by_cases hlt : k < 32
    · obtain ⟨t, ht⟩ : ∃ t, t = szN (k - n) := ⟨_, rfl⟩
      have HS : Hid (szN (k + 1 - n) = 2 * t) := by
        have e : k + 1 - n = (k - n) + 1 := by omega
        show szN (k + 1 - n) = 2 * t
        rw [e, szN_succ, ht]
      have s1 : 1 ≤ t := by rw [ht]; exact szN_pos _
      have s2 : t ≤ 4294967296 := by rw [ht]; exact szN_le _ (by omega)
      rw [← ht]
      clear ht
      go_wp2_with fail
      go_round
      case rel => exact ⟨k + 1, by omega, by omega, by rw [HS.out], by go_num⟩
      case measure => simp [intOf]; omega
    · have e : k = 32 := by omega
      subst e
      have s1 : 1 ≤ s := by rw [HZ.out]; exact szN_pos _
      have s2 : s ≤ 4294967296 := by rw [HZ.out]; exact szN_le _ (by omega)
      rw [← HZ.out]
      have hz : s ≠ 0 := by omega
      have q0 : 0 ≤ a / s := Int.ediv_nonneg a0 (by omega)
      have q1 : a / s * s ≤ a := Int.ediv_mul_le a hz
      have q2 : 0 ≤ a / s * s := Int.mul_nonneg q0 (by omega)
      go_wp2_with fail
      exact bodyPost_ret (v := .agg #[.int .u32 (a / s * s), .int .i64 n]) (by simp [results, Try.results38, go_sem]) rfl ⟨rfl, ((Gr.refl _).alloc _).alloc _⟩

set_option maxHeartbeats 1000000 in
theorem rmask_lo (a : Int) (n : Int) (ha : Num a) (hn : n ≤ 0) (w : World) :
    Calls Try.prog 38 #[.agg #[.int .u32 a, .int .i64 n]] w fun e w' => e = .returned (.agg #[.int .u32 (a / szN (32 - (0 : Int)).toNat * szN (32 - (0 : Int)).toNat), .int .i64 0]) ∧ Gr w w' := by
  obtain ⟨a0, a1⟩ := ha
  obtain ⟨s, hs⟩ : ∃ s, s = szN (32 - 0) := ⟨_, rfl⟩
  have HZ : Hid (s = szN (32 - 0)) := hs
  have e0 : szN (32 - (0 : Int)).toNat = s := by
    have e : (32 - ((0 : Int))).toNat = 32 - 0 := by omega
    rw [e, hs]
  rw [e0]
  clear e0 hs
  go_enter Try.func38, Try.ntmps38
  go_wp2_with fail
  go_loop [4, 5] (fun vs vi => ∃ k : Nat, 0 ≤ k ∧ k ≤ 32 ∧ vs = .int .u64 (szN (k - 0)) ∧ vi = .int .i64 k) (fun _ i => 32 - (intOf i).toNat)
  case atStart => exact ⟨0, Nat.le_refl _, by omega, by simp [szN], rfl⟩
  case round =>
    obtain ⟨k, hk0, hk1, rfl, rfl⟩ := hrel
    by_cases hlt : k < 32
    · obtain ⟨t, ht⟩ : ∃ t, t = szN (k - 0) := ⟨_, rfl⟩
      have HS : Hid (szN (k + 1 - 0) = 2 * t) := by
        have e : k + 1 - 0 = (k - 0) + 1 := by omega
        show szN (k + 1 - 0) = 2 * t
        rw [e, szN_succ, ht]
      have s1 : 1 ≤ t := by rw [ht]; exact szN_pos _
      have s2 : t ≤ 4294967296 := by rw [ht]; exact szN_le _ (by omega)
      rw [← ht]
      clear ht
      go_wp2_with fail
      go_round
      case rel => exact ⟨k + 1, by omega, by omega, by rw [HS.out], by go_num⟩
      case measure => simp [intOf]; omega
    · have e : k = 32 := by omega
      subst e
      have s1 : 1 ≤ s := by rw [HZ.out]; exact szN_pos _
      have s2 : s ≤ 4294967296 := by rw [HZ.out]; exact szN_le _ (by omega)
      rw [← HZ.out]
      have hz : s ≠ 0 := by omega
      have q0 : 0 ≤ a / s := Int.ediv_nonneg a0 (by omega)
      have q1 : a / s * s ≤ a := Int.ediv_mul_le a hz
      have q2 : 0 ≤ a / s * s := Int.mul_nonneg q0 (by omega)
      go_wp2_with fail
      exact bodyPost_ret (v := .agg #[.int .u32 (a / s * s), .int .i64 0]) (by simp [results, Try.results38, go_sem]) rfl ⟨rfl, ((Gr.refl _).alloc _).alloc _⟩

set_option maxHeartbeats 1000000 in
theorem rmask_hi (a : Int) (n : Int) (ha : Num a) (hn : 32 < n) (w : World) :
    Calls Try.prog 38 #[.agg #[.int .u32 a, .int .i64 n]] w fun e w' => e = .returned (.agg #[.int .u32 (a / szN (32 - (32 : Int)).toNat * szN (32 - (32 : Int)).toNat), .int .i64 32]) ∧ Gr w w' := by
  obtain ⟨a0, a1⟩ := ha
  obtain ⟨s, hs⟩ : ∃ s, s = szN (32 - 32) := ⟨_, rfl⟩
  have HZ : Hid (s = szN (32 - 32)) := hs
  have e0 : szN (32 - (32 : Int)).toNat = s := by
    have e : (32 - ((32 : Int))).toNat = 32 - 32 := by omega
    rw [e, hs]
  rw [e0]
  clear e0 hs
  go_enter Try.func38, Try.ntmps38
  go_wp2_with fail
  go_loop [4, 5] (fun vs vi => ∃ k : Nat, 32 ≤ k ∧ k ≤ 32 ∧ vs = .int .u64 (szN (k - 32)) ∧ vi = .int .i64 k) (fun _ i => 32 - (intOf i).toNat)
  case atStart => exact ⟨32, Nat.le_refl _, by omega, by simp [szN], rfl⟩
  case round =>
    obtain ⟨k, hk0, hk1, rfl, rfl⟩ := hrel
    by_cases hlt : k < 32
    · omega
    · have e : k = 32 := by omega
      subst e
      have s1 : 1 ≤ s := by rw [HZ.out]; exact szN_pos _
      have s2 : s ≤ 4294967296 := by rw [HZ.out]; exact szN_le _ (by omega)
      rw [← HZ.out]
      have hz : s ≠ 0 := by omega
      have q0 : 0 ≤ a / s := Int.ediv_nonneg a0 (by omega)
      have q1 : a / s * s ≤ a := Int.ediv_mul_le a hz
      have q2 : 0 ≤ a / s * s := Int.mul_nonneg q0 (by omega)
      go_wp2_with fail
      exact bodyPost_ret (v := .agg #[.int .u32 (a / s * s), .int .i64 32]) (by simp [results, Try.results38, go_sem]) rfl ⟨rfl, ((Gr.refl _).alloc _).alloc _⟩

theorem rmask_any (a n : Int) (ha : Num a) (w : World) :
    Calls Try.prog 38 #[.agg #[.int .u32 a, .int .i64 n]] w fun e w' => e = .returned (.agg #[.int .u32 (maskA a n), .int .i64 (clampL n)]) ∧ Gr w w' := by
  unfold maskA sz
  by_cases h0 : n ≤ 0
  · have e : clampL n = 0 := by unfold clampL; omega
    rw [e]
    exact rmask_lo a n ha h0 w
  · by_cases h1 : 32 < n
    · have e : clampL n = 32 := by unfold clampL; omega
      rw [e]
      exact rmask_hi a n ha h1 w
    · obtain ⟨N, rfl⟩ : ∃ N : Nat, n = N := ⟨n.toNat, by omega⟩
      have e : clampL (N : Int) = N := by unfold clampL; omega
      rw [e]
      exact rmask_mid a N ha (by omega) (by omega) w

end Go.Proofs.Ytdilnelfkbeamaa
