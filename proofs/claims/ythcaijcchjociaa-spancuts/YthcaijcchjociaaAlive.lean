/-
  The walk of alive: the document's examples come out.
-/
import Derived.Test.YthcaijcchjociaaAtom
import Derived.Test.YthcaijcchjociaaNot
namespace Go.Proofs.Ythcaijcchjociaa
open Go.RowKit

/-- A slice literal. -/
theorem Row2.lit (w : World) (l : List Sp) (hl : l.length ≤ 1000) : Row2 (w.alloc (.cells (cells2 l).toArray 35)) (.slice (some ⟨w.heap.size, 0, none⟩) l.length l.length) l :=
  Row2.of_owns (base := w.heap.size) (e := 35) ⟨cells2_length l, .inr ⟨w.heap.size, l.length, (cells2 l).toArray, rfl, Nat.le_refl _, heap_alloc_new w _, Nat.le_refl _, by unfold maxLen; omega, by simp [cells2_length], by rw [← cells2_length l]; simp⟩⟩

theorem nf1 : NF [(1, 7)] := ⟨by intro s hs; simp at hs; subst hs; simp only; omega, by simp⟩
theorem nf2 : NF [(5, 4294967295)] := ⟨by intro s hs; simp at hs; subst hs; simp only; omega, by simp⟩

theorem ex1 {m : List Sp} (h : NF m) (hm : ∀ n, inS m n = inS [(5, 7), (1, 2), (3, 4), (9, 8)] n) : m = [(1, 7)] := by
  refine NF.unique h nf1 fun n _ _ => ?_
  rw [hm]
  apply bool_eq
  simp [inS]
  omega

theorem ex2 {m : List Sp} (h : NotRes [(0, 4)] m) : m = [(5, 4294967295)] := by
  refine NF.unique h.1 nf2 fun n h0 h1 => ?_
  rw [h.2 n h0 h1]
  apply bool_eq
  simp [inS]
  omega

theorem ex3 {o : List Sp} (h : Atoms [[(2, 5)], [(4, 9)]] o) : o.length = 5 := by
  have hb : AtBeg [[(2, 5)], [(4, 9)]] [0, 2, 4, 6, 10] := fun n => by
    simp only [DiffAt, List.mem_cons, List.not_mem_nil, or_false, exists_eq_or_imp, exists_eq_left, in_one]
    have key : ∀ a b : Int, ((decide (a ≤ n) && decide (n ≤ b)) ≠ (decide (a ≤ n - 1) && decide (n - 1 ≤ b))) ↔ ((a ≤ n ∧ n ≤ b) ∧ ¬ (a ≤ n - 1 ∧ n - 1 ≤ b) ∨ ¬ (a ≤ n ∧ n ≤ b) ∧ (a ≤ n - 1 ∧ n - 1 ≤ b)) := fun a b => by
      by_cases c1 : a ≤ n <;> by_cases c2 : n ≤ b <;> by_cases c3 : a ≤ n - 1 <;> by_cases c4 : n - 1 ≤ b <;> simp [c1, c2, c3, c4]
    rw [key, key]
    omega
  have hr : Rising [0, 2, 4, 6, 10] := by simp [Rising]
  rw [h.unique ⟨_, hr, hb, rfl⟩]
  rfl

theorem good1 : Good [(5, 7), (1, 2), (3, 4), (9, 8)] := by
  intro s hs; simp at hs; rcases hs with rfl | rfl | rfl | rfl <;> (simp only; omega)
theorem good2 : Good [(0, 4)] := by
  intro s hs; simp at hs; subst hs; simp only; omega
theorem good3 : ∀ l ∈ [[((2 : Int), (5 : Int))], [(4, 9)]], Good l := by
  intro l hl s hs; simp at hl; rcases hl with rfl | rfl <;> (simp at hs; subst hs; simp only; omega)

set_option maxHeartbeats 2000000 in
theorem alive_any (w : World) : Calls Try.prog 8 #[] w fun e w' => e = .returned (.bool true) ∧ Below w.heap.size w w' := by
  have r1 : Row2 (w.alloc (.cells #[.int .u32 5, .int .u32 7, .int .u32 1, .int .u32 2, .int .u32 3, .int .u32 4, .int .u32 9, .int .u32 8] 35)) (.slice (some ⟨w.heap.size, 0, none⟩) 4 4) [(5, 7), (1, 2), (3, 4), (9, 8)] := Row2.lit w [(5, 7), (1, 2), (3, 4), (9, 8)] (by decide)
  have hn := norm_any _ _ _ (by decide) good1 r1
  go_enter Try.func8, Try.ntmps8
  go_wp2_with fail
  refine hn.mono ?_
  rintro e w1 ⟨u1, m1, rfl, hnf, hm, _, hr1, hB1⟩
  have e1 := ex1 hnf hm
  subst e1
  have B1 : Below w.heap.size w w1 := ((Below.refl _ _).alloc (Nat.le_refl _) _).trans (hB1.mono (by simp))
  clear hn r1 hB1 hnf hm
  have r2 : Row2 (w1.alloc (.cells #[.int .u32 1, .int .u32 7] 35)) (.slice (some ⟨w1.heap.size, 0, none⟩) 1 1) [(1, 7)] := Row2.lit w1 [(1, 7)] (by decide)
  have hs1 := same_any u1 _ [(1, 7)] [(1, 7)] _ (by decide) (hr1.kept ((Below.refl _ _).alloc (Nat.le_refl _) (.cells #[.int .u32 1, .int .u32 7] 35)) (Nat.le_refl _)) r2
  rw [decide_eq_true (rfl : [((1 : Int), (7 : Int))] = [(1, 7)])] at hs1
  go_wp2_with fail
  refine hs1.mono ?_
  rintro e w2 ⟨rfl, hB2⟩
  have B2 : Below w.heap.size w w2 := (B1.alloc B1.size _).trans (hB2.mono (by simp; exact Nat.le_succ_of_le B1.size))
  clear hs1 r2 hB2 hr1 B1
  have r3 : Row2 (w2.alloc (.cells #[.int .u32 0, .int .u32 4] 35)) (.slice (some ⟨w2.heap.size, 0, none⟩) 1 1) [(0, 4)] := Row2.lit w2 [(0, 4)] (by decide)
  have hnot := not_any _ _ _ (by decide) good2 r3
  go_wp2_with fail
  refine hnot.mono ?_
  rintro e w3 ⟨u3, m3, rfl, hres, _, hr3, hB3⟩
  have e3 := ex2 hres
  subst e3
  have B3 : Below w.heap.size w w3 := (B2.alloc B2.size _).trans (hB3.mono (by simp; exact Nat.le_succ_of_le B2.size))
  clear hnot r3 hB3 hres B2
  have r4 : Row2 (w3.alloc (.cells #[.int .u32 5, .int .u32 4294967295] 35)) (.slice (some ⟨w3.heap.size, 0, none⟩) 1 1) [(5, 4294967295)] := Row2.lit w3 [(5, 4294967295)] (by decide)
  have hs2 := same_any u3 _ [(5, 4294967295)] [(5, 4294967295)] _ (by decide) (hr3.kept ((Below.refl _ _).alloc (Nat.le_refl _) (.cells #[.int .u32 5, .int .u32 4294967295] 35)) (Nat.le_refl _)) r4
  rw [decide_eq_true (rfl : [((5 : Int), (4294967295 : Int))] = [(5, 4294967295)])] at hs2
  go_wp2_with fail
  refine hs2.mono ?_
  rintro e w4 ⟨rfl, hB4⟩
  have B4 : Below w.heap.size w w4 := (B3.alloc B3.size _).trans (hB4.mono (by simp; exact Nat.le_succ_of_le B3.size))
  clear hs2 r4 hB4 hr3 B3
  have ra : Row2 (w4.alloc (.cells #[.int .u32 2, .int .u32 5] 35)) (.slice (some ⟨w4.heap.size, 0, none⟩) 1 1) [(2, 5)] := Row2.lit w4 [(2, 5)] (by decide)
  have rb : Row2 ((w4.alloc (.cells #[.int .u32 2, .int .u32 5] 35)).alloc (.cells #[.int .u32 4, .int .u32 9] 35)) (.slice (some ⟨w4.heap.size + 1, 0, none⟩) 1 1) [(4, 9)] := by
    have := Row2.lit (w4.alloc (.cells #[.int .u32 2, .int .u32 5] 35)) [(4, 9)] (by decide)
    rw [show (w4.alloc (.cells #[.int .u32 2, .int .u32 5] 35)).heap.size = w4.heap.size + 1 from by simp] at this
    exact this
  have rs := RowS.two (ra.kept ((Below.refl _ _).alloc (Nat.le_refl _) (.cells #[.int .u32 4, .int .u32 9] 35)) (Nat.le_refl _)) rb
  rw [show ((w4.alloc (.cells #[.int .u32 2, .int .u32 5] 35)).alloc (.cells #[.int .u32 4, .int .u32 9] 35)).heap.size = w4.heap.size + 1 + 1 from by simp] at rs
  have hat := atoms_any 12 sorts12 _ [[(2, 5)], [(4, 9)]] _ (by decide) (by decide) (by decide) (by decide) good3 rs
  clear ra rb rs
  go_wp2_with fail
  refine hat.mono ?_
  rintro e w5 ⟨u5, o, rfl, hao, _, ⟨ao5, cap5, rfl, _⟩, hB5⟩
  have e5 := ex3 hao
  have B5 : Below w.heap.size w w5 := (((B4.alloc B4.size _).alloc (by simp; exact Nat.le_succ_of_le B4.size) _).alloc (by simp; have := B4.size; omega) _).trans (hB5.mono (by simp; have := B4.size; omega))
  rw [e5]
  clear hat hB5 hao e5 B4
  go_wp2_with fail
  go_ret
  exact ⟨rfl, B5⟩
end Go.Proofs.Ythcaijcchjociaa
