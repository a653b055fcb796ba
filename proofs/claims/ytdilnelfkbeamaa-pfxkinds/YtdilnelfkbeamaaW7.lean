/-
  The walk of turned.
-/
import Derived.Test.YtdilnelfkbeamaaW5
import Derived.Deep.RegionHeld3
namespace Go.Proofs.Ytdilnelfkbeamaa
open Go.RowKit

theorem wrap_pow (t : Nat) (ht : t ≤ 31) : IntKind.u32.wrap ((2 : Int) ^ t) = szN t := by
  have : ∀ t : Fin 32, IntKind.u32.wrap ((2 : Int) ^ t.val) = szN t.val := by decide +kernel
  exact this ⟨t, by omega⟩

theorem nat_xor_one (x : Nat) : x ^^^ 1 = if x % 2 = 1 then x - 1 else x + 1 := by
  have h1 : (x ^^^ 1) / 2 = x / 2 := by rw [Nat.xor_div_two]; simp
  have h2 : (x ^^^ 1) % 2 = (x % 2 + 1) % 2 := by
    have := @Nat.xor_mod_two_pow x 1 1
    simp at this
    rw [this]
    have h : x % 2 = 0 ∨ x % 2 = 1 := by omega
    rcases h with h | h <;> simp [h]
  split <;> omega

theorem xor_turn (a : Int) (t : Nat) (ha : Num a) (h2 : t ≤ 31) : Num (bits .xor .u32 a (szN t)) ∧ maskA (bits .xor .u32 a (szN t)) (32 - t) = turnA a (32 - t) := by
  obtain ⟨A, rfl⟩ : ∃ A : Nat, a = A := ⟨a.toNat, by have := ha.1; omega⟩
  have hA : A < 4294967296 := by have := ha.2; omega
  have hp : 2 ^ t < 4294967296 := by have := Nat.pow_le_pow_right (show 0 < 2 by omega) h2; omega
  have e : szN t = ((2 ^ t : Nat) : Int) := rfl
  rw [e, u32_xor_nat A (2 ^ t) hA hp]
  have hx : A ^^^ 2 ^ t < 2 ^ 32 := Nat.xor_lt_two_pow (by omega) (by omega)
  refine ⟨⟨by omega, by omega⟩, ?_⟩
  have es : sz (32 - (t : Int)) = ((2 ^ t : Nat) : Int) := by
    unfold sz
    rw [clampL_of (by omega) (by omega)]
    have : (32 - (32 - (t : Int))).toNat = t := by omega
    rw [this]
    rfl
  unfold maskA turnA
  rw [es]
  have hd : ((A ^^^ 2 ^ t : Nat) : Int) / ((2 ^ t : Nat) : Int) = (((A / 2 ^ t) ^^^ 1 : Nat) : Int) := by
    rw [← Int.natCast_ediv]
    congr 1
    rw [Nat.xor_div_two_pow, Nat.div_self (Nat.two_pow_pos t)]
  rw [hd, nat_xor_one, ← Int.natCast_ediv]
  congr 1
  generalize A / 2 ^ t = q
  by_cases hq : q % 2 = 1
  · rw [if_pos hq, if_pos (by omega)]; omega
  · rw [if_neg hq, if_neg (by omega)]; omega

set_option maxHeartbeats 1000000 in
theorem turned_any (a l : Int) (n : Nat) (ha : Num a) (h1 : 1 ≤ n) (h2 : n ≤ 32) (w : World) :
    Calls Try.prog 41 #[.agg #[.int .u32 a, .int .i64 l], .int .i64 n] w fun e' w' => e' = .returned (.agg #[.int .u32 (turnA a n), .int .i64 n]) ∧ Gr w w' := by
  obtain ⟨t, ht⟩ : ∃ t : Nat, (32 : Int) - n = t := ⟨32 - n, by omega⟩
  have hs := wrap_pow t (by omega)
  have hwt : IntKind.i64.wrap (t : Int) = t := by rw [IntKind.wrap_i64]; omega
  obtain ⟨hX, hT⟩ := xor_turn a t ha (by omega)
  rw [show (32 : Int) - t = n by omega] at hT
  have k1 := fun W => firstBits_any (bits .xor .u32 a (szN t)) l n hX W
  rw [hT, clampL_of (by omega) (by omega)] at k1
  generalize turnA a n = T at *
  generalize szN t = s at *
  clear hX hT
  obtain ⟨W, hW⟩ : ∃ W, W = (w.alloc (.cells #[.int .u32 a, .int .i64 l] 25)).alloc (.cells #[.int .u32 0, .int .i64 0] 25) := ⟨_, rfl⟩
  have HB : Hid (BlkP W w.heap.size a l) := by rw [hW]; exact (Blk.new _ _ _).alloc _
  have HB2 : Hid (BlkP W (w.heap.size + 1) 0 0) := by rw [hW]; exact Blk.new' _ _ _ _ (by simp)
  have HW : Hid (Gr w W) := by rw [hW]; exact ((Gr.refl _).alloc _).alloc _
  obtain ⟨c0, c1⟩ := BlkP.cs HB.out
  go_enter Try.func41, Try.ntmps41
  go_wp2_with fail
  rw [← hW]
  clear hW
  go_region_held3 (fun w' => w'.cell? ⟨w.heap.size, 0, none⟩ = some (.int .u32 a) ∧ w'.cell? ⟨w.heap.size, 1, none⟩ = some (.int .i64 l)) (go_keep) (first | (go_at_call 30; (with_reducible refine (k1 _).mono ?_); rintro e1 w1 ⟨rfl, g1⟩; have G1 : Hid (Gr W w1) := ((Gr.refl W).drewN 1).trans g1; clear g1; obtain ⟨x0, x1⟩ := BlkP.cs (HB.out.gr G1.out); obtain ⟨z0, z1⟩ := BlkP.cs (HB2.out.gr G1.out); have zf := (HB2.out.gr G1.out).frozen))
  go_wp2_with fail
  refine bodyPost_ret (v := .agg #[.int .u32 T, .int .i64 n]) (by simp [results, Try.results41, go_sem, z0, z1]) rfl ⟨rfl, ?_⟩
  exact ((HW.out.trans G1.out).setCell (p := ⟨w.heap.size + 1, 0, none⟩) (by simp) _).setCell (p := ⟨w.heap.size + 1, 1, none⟩) (by simp) _
end Go.Proofs.Ytdilnelfkbeamaa
