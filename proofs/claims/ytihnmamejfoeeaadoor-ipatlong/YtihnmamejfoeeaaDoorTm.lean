/-
  A pattern so many times, as a tree: how many parts it has, which are right, how long its lists are.
-/
import Derived.Test.YtihnmamejfoeeaaDoorAy
namespace Go.Proofs.YtihnmamejfoeeaaDoor

theorem sizeL_rep (t : Tree) : ∀ a : Nat, sizeL (List.replicate a t) = a * size t
  | 0 => by rw [List.replicate_zero, sizeL_nil, Nat.zero_mul]
  | a + 1 => by rw [List.replicate_succ, sizeL_cons, sizeL_rep t a, Nat.add_mul]; omega
theorem size_mayT (t : Tree) : size (mayT t) = size t + 2 := by
  rw [mayT, size_mk, sizeL_cons, sizeL_cons, sizeL_nil, catT, size_mk, sizeL_nil]
theorem size_starT (t : Tree) : size (starT t) = size t + 1 := by rw [starT, size_mk, sizeL_cons, sizeL_nil]
theorem size_rowT (t : Tree) (a m : Nat) (e : Bool) : size (rowT t a m e) = a * size t + (m * (size t + 2) + (if e then size t + 1 else 0)) + 1 := by
  rw [rowT, size_mk, rowL, sizeL_append, sizeL_append, sizeL_rep, sizeL_rep, size_mayT]
  cases e
  · simp [sizeL_nil]
  · simp [sizeL_cons, sizeL_nil, size_starT]

theorem not_right {t : Tree} (h : 200 < size t) : rightT t = false := by
  unfold rightT
  have : ¬ size t ≤ 200 := by omega
  simp [this]
theorem row_great1 {t : Tree} {a m : Nat} {e : Bool} (h : 200 / size t < a) : rightT (rowT t a m e) = false := by
  have hp := size_pos t
  have h1 : 200 < a * size t := (Nat.div_lt_iff_lt_mul hp).1 h
  exact not_right (by rw [size_rowT]; omega)
theorem row_great2 {t : Tree} {a m : Nat} {e : Bool} (h : 200 / size t < m) : rightT (rowT t a m e) = false := by
  have hp := size_pos t
  have h1 : 200 < m * size t := (Nat.div_lt_iff_lt_mul hp).1 h
  have h2 : m * size t ≤ m * (size t + 2) := Nat.mul_le_mul_left _ (by omega)
  exact not_right (by rw [size_rowT]; omega)
theorem row_great3 {t : Tree} {a m : Nat} {e : Bool} (h : 200 < a) : rightT (rowT t a m e) = false :=
  row_great1 (by have := Nat.div_le_self 200 (size t); omega)
theorem row_great4 {t : Tree} {a m : Nat} {e : Bool} (h : 200 < m) : rightT (rowT t a m e) = false :=
  row_great2 (by have := Nat.div_le_self 200 (size t); omega)

theorem okL_append {a b : List Tree} : okL a → okL b → okL (a ++ b) := by
  intro ha hb
  induction a with
  | nil => exact hb
  | cons t ts ih => exact (okL_cons _ _).2 ⟨((okL_cons _ _).1 ha).1, ih ((okL_cons _ _).1 ha).2⟩
theorem okL_rep {t : Tree} (h : okT t) : ∀ a : Nat, okL (List.replicate a t)
  | 0 => by rw [List.replicate_zero, okL_nil]; trivial
  | a + 1 => by rw [List.replicate_succ]; exact (okL_cons _ _).2 ⟨h, okL_rep h a⟩
theorem okT_cat : okT catT := (okT_mk _ _ _).2 ⟨by simp, by simp, okL_nil.2 trivial⟩
theorem okT_may {t : Tree} (h : okT t) : okT (mayT t) := (okT_mk _ _ _).2 ⟨by simp, by simp, (okL_cons _ _).2 ⟨h, (okL_cons _ _).2 ⟨okT_cat, okL_nil.2 trivial⟩⟩⟩
theorem okT_star {t : Tree} (h : okT t) : okT (starT t) := (okT_mk _ _ _).2 ⟨by simp, by simp, (okL_cons _ _).2 ⟨h, okL_nil.2 trivial⟩⟩
theorem okT_row {t : Tree} (h : okT t) {a m : Nat} (ha : a ≤ 300) (hm : m ≤ 300) (e : Bool) : okT (rowT t a m e) := by
  refine (okT_mk _ _ _).2 ⟨by simp, by rw [rowL_len]; split <;> omega, okL_append (okL_rep h a) (okL_append (okL_rep (okT_may h) m) ?_)⟩
  cases e
  · exact okL_nil.2 trivial
  · exact (okL_cons _ _).2 ⟨okT_star h, okL_nil.2 trivial⟩

theorem timesT_1 {t : Tree} {a b : Int} (h : a < 0) : timesT t a b = (zeroT, 2) := by unfold timesT; rw [if_pos h]
theorem timesT_2 {t : Tree} {a b : Int} (h : ¬ a < 0) (h2 : rightT t = false) : timesT t a b = (zeroT, 4) := by unfold timesT; rw [if_neg h, if_pos h2]
theorem timesT_3 {t : Tree} {a b : Int} (h : ¬ a < 0) (h2 : rightT t = true) (h3 : 0 ≤ b ∧ b < a) : timesT t a b = (zeroT, 2) := by unfold timesT; rw [if_neg h, if_neg (by rw [h2]; decide), if_pos h3]
theorem timesT_4 {t : Tree} {a m : Nat} {b : Int} {e : Bool} (h2 : rightT t = true) (h3 : ¬ (0 ≤ b ∧ b < a)) (hm : (if b < 0 then (0 : Int) else b - a) = m) (he : decide (b < 0) = e) : timesT t a b = if rightT (rowT t a m e) = true then (rowT t a m e, 0) else (zeroT, 6) := by
  unfold timesT
  rw [if_neg (by omega), if_neg (by rw [h2]; decide), if_neg h3, hm, he, Int.toNat_natCast, Int.toNat_natCast]

end Go.Proofs.YtihnmamejfoeeaaDoor
