/-
  Walks of the leaves: cmp.Compare, number, originMayBe, Great, the two Masks.
-/
import Derived.Test.YtaaaccgakahapaaRow
import Derived.Laws.BitsAllLaws
namespace Go.Proofs.Ytaaaccgakahapaa
open Go.RowKit

set_option maxHeartbeats 400000 in
theorem compareU_any (x y : Int) (w : World) :
    Calls Try.prog 34 #[.int .u32 x, .int .u32 y] w fun e w' => e = .returned (.int .i64 (cmpV x y)) ∧ w' = w := by
  unfold cmpV
  by_cases h1 : x < y
  · rw [if_pos h1]
    go_enter Try.func34, Try.ntmps34
    go_wp2
    go_ret
    exact ⟨rfl, rfl⟩
  · rw [if_neg h1]
    by_cases h2 : y < x
    · rw [if_pos h2]
      go_enter Try.func34, Try.ntmps34
      go_wp2
      go_ret
      exact ⟨rfl, rfl⟩
    · rw [if_neg h2]
      go_enter Try.func34, Try.ntmps34
      go_wp2
      go_ret
      exact ⟨rfl, rfl⟩

set_option maxHeartbeats 400000 in
theorem compareI_any (x y : Int) (w : World) :
    Calls Try.prog 35 #[.int .i64 x, .int .i64 y] w fun e w' => e = .returned (.int .i64 (cmpV x y)) ∧ w' = w := by
  unfold cmpV
  by_cases h1 : x < y
  · rw [if_pos h1]
    go_enter Try.func35, Try.ntmps35
    go_wp2
    go_ret
    exact ⟨rfl, rfl⟩
  · rw [if_neg h1]
    by_cases h2 : y < x
    · rw [if_pos h2]
      go_enter Try.func35, Try.ntmps35
      go_wp2
      go_ret
      exact ⟨rfl, rfl⟩
    · rw [if_neg h2]
      go_enter Try.func35, Try.ntmps35
      go_wp2
      go_ret
      exact ⟨rfl, rfl⟩

set_option maxHeartbeats 400000 in
theorem number_any (x y : Int) (w : World) :
    Calls Try.prog 30 #[.int .i64 x, .int .i64 y] w fun e w' => e = .returned (.int .i64 (cmpV x y)) ∧ w' = w := by
  unfold cmpV
  by_cases h1 : x < y
  · rw [if_pos h1]
    go_enter Try.func30, Try.ntmps30
    go_wp2
    go_ret
    exact ⟨rfl, rfl⟩
  · rw [if_neg h1]
    by_cases h2 : y < x
    · rw [if_pos h2]
      go_enter Try.func30, Try.ntmps30
      go_wp2
      go_ret
      exact ⟨rfl, rfl⟩
    · rw [if_neg h2]
      go_enter Try.func30, Try.ntmps30
      go_wp2
      go_ret
      exact ⟨rfl, rfl⟩

set_option maxHeartbeats 400000 in
theorem origin_any (n : Int) (w : World) :
    Calls Try.prog 24 #[.int .i64 n] w fun e w' => e = .returned (.bool (decide (0 ≤ n) && decide (n ≤ 2))) ∧ w' = w := by
  by_cases h1 : 0 ≤ n
  · by_cases h2 : n ≤ 2
    · rw [decide_eq_true h1, decide_eq_true h2]
      go_enter Try.func24, Try.ntmps24
      go_wp2
      go_ret
      exact ⟨rfl, rfl⟩
    · rw [decide_eq_true h1, decide_eq_false h2]
      go_enter Try.func24, Try.ntmps24
      go_wp2
      go_ret
      exact ⟨rfl, rfl⟩
  · rw [decide_eq_false h1]
    go_enter Try.func24, Try.ntmps24
    go_wp2
    go_ret
    exact ⟨rfl, rfl⟩

set_option maxHeartbeats 1000000 in
theorem great_any (x : Rt) (a1 a2 : Option Addr) (n1 c1 n2 c2 : Nat) (w : World) :
    Calls Try.prog 13 #[rv x (.slice a1 n1 c1) (.slice a2 n2 c2)] w fun e w' => e = .returned (.bool (decide ((1000 : Int) < n1) || decide ((1000 : Int) < n2))) ∧ Gr w w' := by
  unfold rv
  by_cases h1 : (1000 : Int) < n1
  · rw [decide_eq_true h1]
    go_enter Try.func13, Try.ntmps13
    go_wp2
    go_ret
    exact ⟨rfl, (Gr.refl _).alloc _⟩
  · rw [decide_eq_false h1]
    go_enter Try.func13, Try.ntmps13
    go_wp2
    go_ret
    exact ⟨rfl, (Gr.refl _).alloc _⟩

theorem nat_mask (a m : Nat) (ha : a < 4294967296) (hm : m ≤ 32) : a &&& (4294967295 - (2 ^ m - 1)) = a / 2 ^ m * 2 ^ m := by
  have h2 : 2 ^ m - 1 < 2 ^ 32 := by
    have := Nat.pow_le_pow_right (show 0 < 2 by omega) hm
    have := Nat.two_pow_pos m
    omega
  have e : 4294967295 - (2 ^ m - 1) = 2 ^ 32 - ((2 ^ m - 1) + 1) := by omega
  have e2 : a / 2 ^ m * 2 ^ m = (a >>> m) <<< m := by rw [Nat.shiftLeft_eq, Nat.shiftRight_eq_div_pow]
  rw [e, e2]
  apply Nat.eq_of_testBit_eq
  intro i
  rw [Nat.testBit_and, Nat.testBit_two_pow_sub_succ h2, Nat.testBit_two_pow_sub_one, Nat.testBit_shiftLeft, Nat.testBit_shiftRight]
  by_cases hi : i < 32
  · by_cases hj : i < m
    · have : ¬ m ≤ i := by omega
      simp [hi, hj, this]
    · have h3 : m ≤ i := by omega
      have h4 : m + (i - m) = i := by omega
      simp [hi, hj, h3, h4]
  · have hf : a.testBit i = false := Nat.testBit_lt_two_pow (Nat.lt_of_lt_of_le ha (Nat.pow_le_pow_right (show 0 < 2 by omega) (show 32 ≤ i by omega)))
    by_cases h3 : m ≤ i
    · have h4 : m + (i - m) = i := by omega
      simp [h3, h4, hf]
    · simp [h3, hf]

theorem andNot_mask (a : Int) (k : Nat) (ha : Num a) (hk : k ≤ 32) : bits .andNot .u32 a (4294967295 / 2 ^ k) = a / szN (32 - k) * szN (32 - k) := by
  obtain ⟨A, rfl⟩ : ∃ A : Nat, a = A := ⟨a.toNat, by have := ha.1; omega⟩
  have hA : A < 4294967296 := by have := ha.2; omega
  have hd : (4294967295 : Int) / 2 ^ k = ((2 ^ (32 - k) - 1 : Nat) : Int) := by
    have : (4294967295 : Nat) / 2 ^ k = 2 ^ (32 - k) - 1 := by
      have : ∀ j : Fin 33, (4294967295 : Nat) / 2 ^ j.val = 2 ^ (32 - j.val) - 1 := by decide +kernel
      exact this ⟨k, by omega⟩
    rw [← this]
    simp
  rw [hd, u32_andNot_nat A _ hA, nat_mask A (32 - k) hA (by omega)]
  · unfold szN
    simp
  · have := Nat.pow_le_pow_right (show 0 < 2 by omega) (show 32 - k ≤ 32 by omega)
    have := Nat.two_pow_pos (32 - k)
    omega

set_option maxHeartbeats 1000000 in
theorem mask_any (a n : Int) (ha : Num a) (w : World) :
    Calls Try.prog 11 #[.agg #[.int .u32 a, .int .i64 n]] w fun e w' => e = .returned (.agg #[.int .u32 (maskA a n), .int .i64 (clampL n)]) ∧ Gr w w' := by
  have HR : Hid (∀ k : Nat, (k:Int) = clampL n → bits .andNot .u32 a (4294967295 / 2 ^ k) = maskA a n) := fun k hk => by
    rw [andNot_mask a k ha (by have := clampL_range n; omega)]
    unfold maskA sz
    rw [← hk]
    have : (32 - (k : Int)).toNat = 32 - k := by omega
    rw [this]
  have HC : Hid (clampL n = if n < 0 then 0 else if 32 < n then 32 else n) := by unfold Hid clampL; split <;> (try split) <;> omega
  by_cases h0 : n < 0
  · have r := HR.out 0 (by rw [HC.out, if_pos h0]; rfl)
    rw [HC.out, if_pos h0]
    generalize maskA a n = z at *
    clear HR HC ha
    simp at r
    go_enter Try.func11, Try.ntmps11
    go_wp2_with fail
    go_region
    go_wp2_with fail
    exact bodyPost_ret (v := .agg #[.int .u32 z, .int .i64 0]) (by simp [results, Try.results11, go_sem]) rfl ⟨rfl, (((Gr.refl _).alloc _).alloc _).drewN 1⟩
  · by_cases h1 : 32 < n
    · have r := HR.out 32 (by rw [HC.out, if_neg h0, if_pos h1]; rfl)
      rw [HC.out, if_neg h0, if_pos h1]
      generalize maskA a n = z at *
      clear HR HC ha
      simp at r
      go_enter Try.func11, Try.ntmps11
      go_wp2_with fail
      go_region
      go_wp2_with fail
      exact bodyPost_ret (v := .agg #[.int .u32 z, .int .i64 32]) (by simp [results, Try.results11, go_sem]) rfl ⟨rfl, (((Gr.refl _).alloc _).alloc _).drewN 1⟩
    · have r := HR.out n.toNat (by rw [HC.out, if_neg h0, if_neg h1]; omega)
      rw [HC.out, if_neg h0, if_neg h1]
      have h0' : 0 ≤ n := by omega
      have h1' : n ≤ 32 := by omega
      generalize maskA a n = z at *
      clear HR HC ha h0 h1
      go_enter Try.func11, Try.ntmps11
      go_wp2_with fail
      go_region
      go_wp2_with fail
      exact bodyPost_ret (v := .agg #[.int .u32 z, .int .i64 n]) (by simp [results, Try.results11, go_sem]) rfl ⟨rfl, (((Gr.refl _).alloc _).alloc _).drewN 1⟩
end Go.Proofs.Ytaaaccgakahapaa
