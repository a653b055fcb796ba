/-
  Walks: kinds, the document's Right.
-/
import Derived.Test.YtihnmamejfoeeaaDoorW2
namespace Go.Proofs.YtihnmamejfoeeaaDoor
open Go.RowKit

theorem okAlone_cases {k : Int} {S N : Nat} (h : okAlone k S N = true) : (k = 1 ∧ N = 0 ∧ S ≤ 256) ∨ (k = 2 ∧ S = 0) ∨ (k = 3 ∧ S = 0) ∨ (k = 4 ∧ S = 0 ∧ N = 1) := by
  unfold okAlone at h
  by_cases h1 : k = 1
  · rw [if_pos h1] at h; simp at h; exact Or.inl ⟨h1, h⟩
  rw [if_neg h1] at h
  by_cases h2 : k = 2 ∨ k = 3
  · rw [if_pos h2] at h; simp at h
    rcases h2 with h2 | h2
    · exact Or.inr (Or.inl ⟨h2, h⟩)
    · exact Or.inr (Or.inr (Or.inl ⟨h2, h⟩))
  rw [if_neg h2] at h
  by_cases h4 : k = 4
  · rw [if_pos h4] at h; simp at h; exact Or.inr (Or.inr (Or.inr ⟨h4, h⟩))
  rw [if_neg h4] at h
  cases h

theorem okAlone_false {k : Int} {S N : Nat} (h : okAlone k S N = false) : (k = 1 ∧ 0 < N) ∨ (k = 1 ∧ N = 0 ∧ 256 < S) ∨ (k ≠ 1 ∧ 0 < S) ∨ (k = 4 ∧ S = 0 ∧ N ≠ 1) ∨ (k < 1 ∧ S = 0) ∨ (4 < k ∧ S = 0) := by
  unfold okAlone at h
  by_cases h1 : k = 1
  · rw [if_pos h1] at h
    simp at h
    omega
  rw [if_neg h1] at h
  by_cases h2 : k = 2 ∨ k = 3
  · rw [if_pos h2] at h; simp at h; omega
  rw [if_neg h2] at h
  by_cases h4 : k = 4
  · rw [if_pos h4] at h; simp at h; omega
  omega

end Go.Proofs.YtihnmamejfoeeaaDoor
