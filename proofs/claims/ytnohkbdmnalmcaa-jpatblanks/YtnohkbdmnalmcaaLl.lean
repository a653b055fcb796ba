/-
  JpatBlanks, of the reader's, the comparison's and the examples' walks.
-/
import Derived.Test.YtnohkbdmnalmcaaLk
import Derived.Test.YtnohkbdmnalmcaaAj
import Derived.Test.YtnohkbdmnalmcaaSm
namespace Go.Proofs.Ytnohkbdmnalmcaa
open Go.RowKit

theorem jparse_zero (l : Bs) (h : (jparseM l).2 ≠ 0) : (jparseM l).1 = zeT := by
  unfold jparseM at h ⊢
  split
  · rfl
  · rename_i h1
    rw [if_neg h1] at h
    split
    · rfl
    · rename_i x hx
      rw [hx] at h
      simp only at h
      split
      · rfl
      · rename_i h2
        rw [if_neg h2] at h
        split
        · rfl
        · rename_i h3
          rw [if_neg h3] at h
          split
          · rfl
          · rename_i h4
            rw [if_neg h4] at h
            exact absurd rfl h
theorem ok_ze : okT zeT := (okT_mk _ _ _).2 ⟨by simp, by simp, okL_nil.2 trivial⟩
theorem jparse_B (s : ByteArray) (W : World) : Calls Try.prog 5 #[.string s] W fun e w' => PostB (jparseM s.data.toList).1 (jparseM s.data.toList).2 W e w' :=
  (jparse_any s W).mono fun _ _ ⟨⟨r, h1, h2, h3⟩, h4⟩ => ⟨r, h1, h2.held, h3, by
    by_cases h : (jparseM s.data.toList).2 = 0
    · exact ok_right (h4 h)
    · rw [jparse_zero _ h]; exact ok_ze⟩

theorem law_blanks (s : ByteArray) (n : Int) (hn : 0 ≤ n ∧ n < 256) (w : World) : Calls Try.prog 3 #[.string s, .int .u8 n] w fun e w' => e = .returned (.bool true) ∧ Below w.heap.size w w' :=
  law_blanks0 jalive_any jparse_B (fun t x y W h1 h2 h3 => same_true _ t x y W (Nat.le_refl _) h1 h2 h3) s n hn w

end Go.Proofs.Ytnohkbdmnalmcaa
