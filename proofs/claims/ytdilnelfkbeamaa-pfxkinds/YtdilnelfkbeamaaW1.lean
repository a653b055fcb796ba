/-
  Walks of the leaves: cmp.Compare, number, originMayBe, Great, the two Masks.
-/
import Derived.Test.YtdilnelfkbeamaaRow
import Derived.Laws.BitsAllLaws
namespace Go.Proofs.Ytdilnelfkbeamaa
open Go.RowKit

theorem nat_mask (a m : Nat) (ha : a < 4294967296) (hm : m ≤ 32) : a &&& (4294967295 - (2 ^ m - 1)) = a / 2 ^ m * 2 ^ m := by
  have h2 : 2 ^ m - 1 < 2 ^ 32 := by
    have := Nat.pow_le_pow_right (show 0 < 2 by omega) hm
    have := Nat.two_pow_pos m
    omega
  have e : 4294967295 - (2 ^ m - 1) = 2 ^ 32 - ((2 ^ m - 1) + 1) := by omega
  have e2 : a / 2 ^ m * 2 ^ m = (a >>> m) <<< m := by rw [Nat.shiftLeft_eq, Nat.shiftRight_eq_div_pow]
  rw [e, e2]
  apply Nat.eq_of_testBit_eq
  intro i
  rw [Nat.testBit_and, Nat.testBit_two_pow_sub_succ h2, Nat.testBit_two_pow_sub_one, Nat.testBit_shiftLeft, Nat.testBit_shiftRight]
  by_cases hi : i < 32
  · by_cases hj : i < m
    · have : ¬ m ≤ i := by omega
      simp [hi, hj, this]
    · have h3 : m ≤ i := by omega
      have h4 : m + (i - m) = i := by omega
      simp [hi, hj, h3, h4]
  · have hf : a.testBit i = false := Nat.testBit_lt_two_pow (Nat.lt_of_lt_of_le ha (Nat.pow_le_pow_right (show 0 < 2 by omega) (show 32 ≤ i by omega)))
    by_cases h3 : m ≤ i
    · have h4 : m + (i - m) = i := by omega
      simp [h3, h4, hf]
    · simp [h3, hf]

theorem andNot_mask (a : Int) (k : Nat) (ha : Num a) (hk : k ≤ 32) : bits .andNot .u32 a (4294967295 / 2 ^ k) = a / szN (32 - k) * szN (32 - k) := by
  obtain ⟨A, rfl⟩ : ∃ A : Nat, a = A := ⟨a.toNat, by have := ha.1; omega⟩
  have hA : A < 4294967296 := by have := ha.2; omega
  have hd : (4294967295 : Int) / 2 ^ k = ((2 ^ (32 - k) - 1 : Nat) : Int) := by
    have : (4294967295 : Nat) / 2 ^ k = 2 ^ (32 - k) - 1 := by
      have : ∀ j : Fin 33, (4294967295 : Nat) / 2 ^ j.val = 2 ^ (32 - j.val) - 1 := by decide +kernel
      exact this ⟨k, by omega⟩
    rw [← this]
    simp
  rw [hd, u32_andNot_nat A _ hA, nat_mask A (32 - k) hA (by omega)]
  · unfold szN
    simp
  · have := Nat.pow_le_pow_right (show 0 < 2 by omega) (show 32 - k ≤ 32 by omega)
    have := Nat.two_pow_pos (32 - k)
    omega

set_option maxHeartbeats 1000000 in
theorem mask_any (a n : Int) (ha : Num a) (w : World) :
    Calls Try.prog 39 #[.agg #[.int .u32 a, .int .i64 n]] w fun e w' => e = .returned (.agg #[.int .u32 (maskA a n), .int .i64 (clampL n)]) ∧ Gr w w' := by
  have HR : Hid (∀ k : Nat, (k:Int) = clampL n → bits .andNot .u32 a (4294967295 / 2 ^ k) = maskA a n) := fun k hk => by
    rw [andNot_mask a k ha (by have := clampL_range n; omega)]
    unfold maskA sz
    rw [← hk]
    have : (32 - (k : Int)).toNat = 32 - k := by omega
    rw [this]
  have HC : Hid (clampL n = if n < 0 then 0 else if 32 < n then 32 else n) := by unfold Hid clampL; split <;> (try split) <;> omega
  by_cases h0 : n < 0
  · have r := HR.out 0 (by rw [HC.out, if_pos h0]; rfl)
    rw [HC.out, if_pos h0]
    generalize maskA a n = z at *
    clear HR HC ha
    simp at r
    go_enter Try.func39, Try.ntmps39
    go_wp2_with fail
    go_region
    go_wp2_with fail
    exact bodyPost_ret (v := .agg #[.int .u32 z, .int .i64 0]) (by simp [results, Try.results39, go_sem]) rfl ⟨rfl, (((Gr.refl _).alloc _).alloc _).drewN 1⟩
  · by_cases h1 : 32 < n
    · have r := HR.out 32 (by rw [HC.out, if_neg h0, if_pos h1]; rfl)
      rw [HC.out, if_neg h0, if_pos h1]
      generalize maskA a n = z at *
      clear HR HC ha
      simp at r
      go_enter Try.func39, Try.ntmps39
      go_wp2_with fail
      go_region
      go_wp2_with fail
      exact bodyPost_ret (v := .agg #[.int .u32 z, .int .i64 32]) (by simp [results, Try.results39, go_sem]) rfl ⟨rfl, (((Gr.refl _).alloc _).alloc _).drewN 1⟩
    · have r := HR.out n.toNat (by rw [HC.out, if_neg h0, if_neg h1]; omega)
      rw [HC.out, if_neg h0, if_neg h1]
      have h0' : 0 ≤ n := by omega
      have h1' : n ≤ 32 := by omega
      generalize maskA a n = z at *
      clear HR HC ha h0 h1
      go_enter Try.func39, Try.ntmps39
      go_wp2_with fail
      go_region
      go_wp2_with fail
      exact bodyPost_ret (v := .agg #[.int .u32 z, .int .i64 n]) (by simp [results, Try.results39, go_sem]) rfl ⟨rfl, (((Gr.refl _).alloc _).alloc _).drewN 1⟩
end Go.Proofs.Ytdilnelfkbeamaa
