/-
  What Meet answers, as a box and a bool; boxes that lie in memory.
-/
import Derived.Test.YtepioggejacfjaaAlv
namespace Go.Proofs.Ytepioggejacfjaa
open Go.RowKit

/-- The box that Meet answers. -/
def mB (a b : Sp) : Sp := if some2 a b then meetB a b else (0, 0)

theorem meetV_eq (a b : Sp) : meetV a b = .tuple #[.agg #[.int .u32 (mB a b).1, .int .u32 (mB a b).2], .bool (some2 a b)] := by
  unfold meetV mB
  cases some2 a b <;> rfl

theorem mB_bx {a b : Sp} (ha : Bx a) (hb : Bx b) : Bx (mB a b) := by
  obtain ⟨⟨a0, a1⟩, ⟨a2, a3⟩⟩ := ha
  obtain ⟨⟨b0, b1⟩, ⟨b2, b3⟩⟩ := hb
  unfold mB
  split
  · unfold meetB Bx Num
    simp only
    omega
  · unfold Bx Num
    simp only
    omega

theorem inB_iff {b : Sp} {c : Int} : inB b c = true ↔ (b.1 / 65536 ≤ c / 65536 ∧ b.1 % 65536 ≤ c % 65536) ∧ c / 65536 ≤ b.2 / 65536 ∧ c % 65536 ≤ b.2 % 65536 := by
  simp [inB]

theorem some2_iff {a b : Sp} : some2 a b = true ↔ max (a.1 / 65536) (b.1 / 65536) ≤ min (a.2 / 65536) (b.2 / 65536) ∧ max (a.1 % 65536) (b.1 % 65536) ≤ min (a.2 % 65536) (b.2 % 65536) := by
  simp [some2]

/-- What lies in both of two boxes lies in the one that Meet answers. -/
theorem meet_in (a b : Sp) (c : Int) : (some2 a b && inB (mB a b) c) = (inB a c && inB b c) := by
  apply bool_eq
  rw [Bool.and_eq_true, Bool.and_eq_true, inB_iff, inB_iff, inB_iff, some2_iff]
  unfold mB
  by_cases h : some2 a b = true
  · have h' := some2_iff.1 h
    rw [if_pos h]
    unfold meetB
    simp only
    omega
  · have h' : ¬ (max (a.1 / 65536) (b.1 / 65536) ≤ min (a.2 / 65536) (b.2 / 65536) ∧ max (a.1 % 65536) (b.1 % 65536) ≤ min (a.2 % 65536) (b.2 % 65536)) := fun k => h (some2_iff.2 k)
    omega

theorem meet_at (a b : Sp) (ha : Bx a) (hb : Bx b) (w : World) :
    Calls Try.prog 13 #[.agg #[.int .u32 a.1, .int .u32 a.2], .agg #[.int .u32 b.1, .int .u32 b.2]] w fun e w' => e = .returned (.tuple #[.agg #[.int .u32 (mB a b).1, .int .u32 (mB a b).2], .bool (some2 a b)]) ∧ Below w.heap.size w w' := by
  have := meet_any a b ha hb w
  rw [meetV_eq] at this
  exact this

/-- A box lies in this block. -/
structure Held (w : World) (b : Nat) (x : Sp) : Prop where
  lt : b < w.heap.size
  c0 : w.cell? ⟨b, 0, none⟩ = some (.int .u32 x.1)
  c1 : w.cell? ⟨b, 1, none⟩ = some (.int .u32 x.2)

theorem Held.kept {w w' : World} {b : Nat} {x : Sp} (h : Held w b x) (hB : Below w.heap.size w w') : Held w' b x :=
  ⟨Nat.lt_of_lt_of_le h.lt hB.size, (hB.cell (by exact h.lt)).trans h.c0, (hB.cell (by exact h.lt)).trans h.c1⟩

theorem Held.new (w : World) (x : Sp) : Held (w.alloc (.cells #[.int .u32 x.1, .int .u32 x.2] 26)) w.heap.size x :=
  ⟨by simp, by simp [go_sem], by simp [go_sem]⟩

theorem Held.alloc {w : World} {b : Nat} {x : Sp} (h : Held w b x) (o : Obj) : Held (w.alloc o) b x := h.kept ((Below.refl _ _).alloc (Nat.le_refl _) o)

theorem Held.g0 {w : World} {b : Nat} {x : Sp} (h : Held w b x) (n : Nat) (os : Array Obj) : (Sort.grow (w.drewN n) os).cell? ⟨b, 0, none⟩ = some (.int .u32 x.1) := cell_grown (w := w) (a := ⟨b, 0, none⟩) (by exact h.lt) h.c0 n os
theorem Held.g1 {w : World} {b : Nat} {x : Sp} (h : Held w b x) (n : Nat) (os : Array Obj) : (Sort.grow (w.drewN n) os).cell? ⟨b, 1, none⟩ = some (.int .u32 x.2) := cell_grown (w := w) (a := ⟨b, 1, none⟩) (by exact h.lt) h.c1 n os

/-- One step more: nothing below has turned. -/
theorem bstep {w a b : World} (h : Below w.heap.size w a) (k : Below a.heap.size a b) : Below w.heap.size w b := h.trans (k.mono h.size)

end Go.Proofs.Ytepioggejacfjaa
