/-
  Prefixes compared; the walks of right and Right.
-/
import Derived.Test.YtdilnelfkbeamaaW2
namespace Go.Proofs.Ytdilnelfkbeamaa
open Go.RowKit

theorem eql25 (a b c d : Int) (w : World) : (binOp .eql 25 (.agg #[.int .u32 a, .int .i64 b]) (.agg #[.int .u32 c, .int .i64 d])).run Try.prog w = .ok (.bool (a == c && b == d)) w := by
  have u3 := Try.underlying23
  have a3 := Try.isAgg23
  have z3 := Try.sizeOf23
  have u4 := Try.underlying3
  have a4 := Try.isAgg3
  have z4 := Try.sizeOf3
  have hS : Try.prog.underlying 25 = some (.struct (Try.prog.fieldsOf 25)) := by kernel_rfl
  have hp : Try.prog.stoodInHeld 25 = false := by kernel_rfl
  rw [run_eql_struct, show (10000 : Nat) = 9999 + 1 from rfl, run_equalIn_agg w 9999 25 _ _ hS hp]
  simp only [Program.fieldsOf, Try.underlying25]
  go_simp
  by_cases h1 : a = c <;> by_cases h2 : b = d <;> simp [h1, h2]

theorem cell_grown {w : World} {a : Addr} {v : Value} (ha : a.block < w.heap.size) (h : w.cell? a = some v) (n : Nat) (os : Array Obj) : (Sort.grow (w.drewN n) os).cell? a = some v :=
  (Below.cell (B := w.heap.size) (below_grow (Below.refl _ _) (Nat.le_refl _) n os) ha).trans h

set_option maxHeartbeats 1000000 in
theorem right_any (a n : Int) (ha : Num a) (w : World) :
    Calls Try.prog 28 #[.agg #[.int .u32 a, .int .i64 n]] w fun e w' => e = .returned (.bool (rightP a n)) ∧ Gr w w' := by
  have k1 := fun W => mask_any a n ha W
  have hq : ∀ W, (binOp .eql 25 (.agg #[.int .u32 (maskA a n), .int .i64 (clampL n)]) (.agg #[.int .u32 a, .int .i64 n])).run Try.prog W = .ok (.bool (rightP a n)) W := fun W => by
    rw [eql25]
    congr 2
    unfold rightP
    by_cases h1 : maskA a n = a <;> by_cases h2 : clampL n = n <;> simp [h1, h2]
  generalize maskA a n = z at *
  generalize clampL n = c at *
  generalize rightP a n = r at *
  have hmx : Try.prog.follows .mixedOrders = true := by kernel_rfl
  obtain ⟨W, hW⟩ : ∃ W, W = w.alloc (.cells #[.int .u32 a, .int .i64 n] 25) := ⟨_, rfl⟩
  have e0 : W.cell? ⟨w.heap.size, 0, none⟩ = some (.int .u32 a) := by rw [hW]; simp [go_sem]
  have e1 : W.cell? ⟨w.heap.size, 1, none⟩ = some (.int .i64 n) := by rw [hW]; simp [go_sem]
  have sW : w.heap.size < W.heap.size := by rw [hW]; simp
  have HW : Hid (Gr w W) := by rw [hW]; exact (Gr.refl _).alloc _
  have f0 := fun n os => cell_grown (w := W) (a := ⟨w.heap.size, 0, none⟩) sW e0 n os
  have f1 := fun n os => cell_grown (w := W) (a := ⟨w.heap.size, 1, none⟩) sW e1 n os
  clear e0 e1
  go_enter Try.func28, Try.ntmps28
  go_wp2_with fail
  rw [← hW]
  clear hW sW
  go_quiet_grown (first | (go_at_call 39; with_reducible refine Calls.grown_of (k1 _)))
  go_wp2_with fail
  go_ret
  exact ⟨rfl, HW.out.trans ⟨_, _, rfl⟩⟩

set_option maxHeartbeats 1000000 in
theorem rright_any (a n : Int) (ha : Num a) (w : World) :
    Calls Try.prog 26 #[.agg #[.int .u32 a, .int .i64 n]] w fun e w' => e = .returned (.bool (rightP a n)) ∧ Gr w w' := by
  have k1 := fun W => rmask_any a n ha W
  have hq : ∀ W, (binOp .eql 25 (.agg #[.int .u32 a, .int .i64 n]) (.agg #[.int .u32 (maskA a n), .int .i64 (clampL n)])).run Try.prog W = .ok (.bool (rightP a n)) W := fun W => by
    rw [eql25]
    congr 2
    unfold rightP
    by_cases h1 : maskA a n = a <;> by_cases h2 : clampL n = n <;> simp [h1, h2, eq_comm (a := a), eq_comm (a := n)]
  generalize maskA a n = z at *
  generalize clampL n = c at *
  generalize rightP a n = r at *
  have hmx : Try.prog.follows .mixedOrders = true := by kernel_rfl
  obtain ⟨W, hW⟩ : ∃ W, W = w.alloc (.cells #[.int .u32 a, .int .i64 n] 25) := ⟨_, rfl⟩
  have e0 : W.cell? ⟨w.heap.size, 0, none⟩ = some (.int .u32 a) := by rw [hW]; simp [go_sem]
  have e1 : W.cell? ⟨w.heap.size, 1, none⟩ = some (.int .i64 n) := by rw [hW]; simp [go_sem]
  have sW : w.heap.size < W.heap.size := by rw [hW]; simp
  have HW : Hid (Gr w W) := by rw [hW]; exact (Gr.refl _).alloc _
  have f0 := fun n os => cell_grown (w := W) (a := ⟨w.heap.size, 0, none⟩) sW e0 n os
  have f1 := fun n os => cell_grown (w := W) (a := ⟨w.heap.size, 1, none⟩) sW e1 n os
  clear e0 e1
  go_enter Try.func26, Try.ntmps26
  go_wp2_with fail
  rw [← hW]
  clear hW sW
  go_quiet_grown (first | (go_at_call 38; with_reducible refine Calls.grown_of (k1 _)))
  go_wp2_with fail
  go_ret
  exact ⟨rfl, HW.out.trans ⟨_, _, rfl⟩⟩

end Go.Proofs.Ytdilnelfkbeamaa
