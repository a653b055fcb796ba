/-
  Any so many times takes just so many numbers: as trees.
-/
import Derived.Test.YtjjlkjfhhpogaaaDoorAm
namespace Go.Proofs.YtjjlkjfhhpogaaaDoor

def Fits (s : List Int) : Prop := ∀ n ∈ s, 0 ≤ n ∧ n ≤ 4294967295
theorem fits_append {a b : List Int} : Fits (a ++ b) ↔ Fits a ∧ Fits b := by
  constructor
  · intro h
    exact ⟨fun n hn => h n (by simp [hn]), fun n hn => h n (by simp [hn])⟩
  · rintro ⟨h1, h2⟩ n hn
    rcases List.mem_append.1 hn with h | h
    · exact h1 n h
    · exact h2 n h
theorem fits_nil : Fits [] := fun n hn => by simp at hn
theorem takes_any2 (s : List Int) : takes anyT s ↔ s.length = 1 ∧ Fits s := by
  rw [takes_any]
  constructor
  · rintro ⟨n, rfl, h⟩
    exact ⟨rfl, fun m hm => by simp at hm; subst hm; exact h⟩
  · rintro ⟨h1, h2⟩
    obtain ⟨n, rfl⟩ := List.length_eq_one_iff.1 h1
    exact ⟨n, rfl, h2 n (by simp)⟩
theorem takes_may (s : List Int) : takes (mayT anyT) s ↔ s.length ≤ 1 ∧ Fits s := by
  rw [mayT, takes_alt, takesAlt_cons, takesAlt_cons, takesAlt_nil, or_false, takes_any2, catT, takes_cat, takesCat_nil]
  constructor
  · rintro (⟨h1, h2⟩ | rfl)
    · exact ⟨by omega, h2⟩
    · exact ⟨by simp, fits_nil⟩
  · rintro ⟨h1, h2⟩
    by_cases e : s.length = 1
    · exact Or.inl ⟨e, h2⟩
    · exact Or.inr (List.length_eq_zero_iff.1 (by omega))
theorem takes_star_any (s : List Int) : takes (starT anyT) s ↔ Fits s := by
  rw [starT, takes_star]
  constructor
  · intro h
    induction h with
    | nil => exact fits_nil
    | cons h1 _ ih => exact fits_append.2 ⟨((takes_any2 _).1 h1).2, ih⟩
  · exact star_any s

theorem cat_rep_any : ∀ (a : Nat) (s : List Int), takesCat (List.replicate a anyT) s ↔ s.length = a ∧ Fits s
  | 0, s => by
    rw [List.replicate_zero, takesCat_nil]
    constructor
    · rintro rfl; exact ⟨rfl, fits_nil⟩
    · rintro ⟨h, _⟩; exact List.length_eq_zero_iff.1 h
  | a + 1, s => by
    rw [List.replicate_succ, takesCat_cons]
    constructor
    · rintro ⟨x, y, rfl, h1, h2⟩
      obtain ⟨h3, h4⟩ := (takes_any2 _).1 h1
      obtain ⟨h5, h6⟩ := (cat_rep_any a y).1 h2
      exact ⟨by rw [List.length_append]; omega, fits_append.2 ⟨h4, h6⟩⟩
    · rintro ⟨h1, h2⟩
      obtain ⟨n, s, rfl⟩ : ∃ n t, s = n :: t := by
        cases s with
        | nil => simp at h1
        | cons n t => exact ⟨n, t, rfl⟩
      have h3 : Fits ([n] ++ s) := h2
      obtain ⟨h4, h5⟩ := fits_append.1 h3
      exact ⟨[n], s, rfl, (takes_any2 _).2 ⟨rfl, h4⟩, (cat_rep_any a s).2 ⟨by simpa using h1, h5⟩⟩
theorem cat_rep_may : ∀ (m : Nat) (s : List Int), takesCat (List.replicate m (mayT anyT)) s ↔ s.length ≤ m ∧ Fits s
  | 0, s => by
    rw [List.replicate_zero, takesCat_nil]
    constructor
    · rintro rfl; exact ⟨by simp, fits_nil⟩
    · rintro ⟨h, _⟩; exact List.length_eq_zero_iff.1 (by omega)
  | m + 1, s => by
    rw [List.replicate_succ, takesCat_cons]
    constructor
    · rintro ⟨x, y, rfl, h1, h2⟩
      obtain ⟨h3, h4⟩ := (takes_may _).1 h1
      obtain ⟨h5, h6⟩ := (cat_rep_may m y).1 h2
      exact ⟨by rw [List.length_append]; omega, fits_append.2 ⟨h4, h6⟩⟩
    · rintro ⟨h1, h2⟩
      cases s with
      | nil => exact ⟨[], [], rfl, (takes_may _).2 ⟨by simp, fits_nil⟩, (cat_rep_may m []).2 ⟨by simp, fits_nil⟩⟩
      | cons n s =>
        have h3 : Fits ([n] ++ s) := h2
        obtain ⟨h4, h5⟩ := fits_append.1 h3
        exact ⟨[n], s, rfl, (takes_may _).2 ⟨by simp, h4⟩, (cat_rep_may m s).2 ⟨by simp at h1; omega, h5⟩⟩

theorem takes_row1 {a m : Nat} {s : List Int} (hs : Fits s) : takes (rowT anyT a m false) s ↔ a ≤ s.length ∧ s.length ≤ a + m := by
  rw [rowT, takes_cat, rowL, takesCat_append]
  simp only [Bool.false_eq_true, if_false, List.append_nil]
  constructor
  · rintro ⟨x, y, rfl, h1, h2⟩
    obtain ⟨h3, _⟩ := (cat_rep_any a x).1 h1
    obtain ⟨h4, _⟩ := (cat_rep_may m y).1 h2
    rw [List.length_append]
    omega
  · rintro ⟨h1, h2⟩
    have h3 := hs
    rw [← List.take_append_drop a s] at h3
    obtain ⟨h4, h5⟩ := fits_append.1 h3
    exact ⟨s.take a, s.drop a, by simp, (cat_rep_any a _).2 ⟨by simp; omega, h4⟩, (cat_rep_may m _).2 ⟨by simp; omega, h5⟩⟩
theorem takes_row2 {a : Nat} {s : List Int} (hs : Fits s) : takes (rowT anyT a 0 true) s ↔ a ≤ s.length := by
  rw [rowT, takes_cat, rowL, takesCat_append]
  simp only [List.replicate_zero, if_true, List.nil_append]
  constructor
  · rintro ⟨x, y, rfl, h1, h2⟩
    obtain ⟨h3, _⟩ := (cat_rep_any a x).1 h1
    rw [List.length_append]
    omega
  · intro h1
    have h3 := hs
    rw [← List.take_append_drop a s] at h3
    obtain ⟨h4, h5⟩ := fits_append.1 h3
    refine ⟨s.take a, s.drop a, by simp, (cat_rep_any a _).2 ⟨by simp; omega, h4⟩, ?_⟩
    rw [takesCat_cons]
    exact ⟨s.drop a, [], by simp, (takes_star_any _).2 h5, (takesCat_nil _).2 rfl⟩

theorem deepL_le {n : Nat} : ∀ {ts : List Tree}, (∀ t ∈ ts, deep t ≤ n) → deepL ts ≤ n
  | [], _ => by rw [deepL_nil]; omega
  | t :: ts, h => by
    rw [deepL_cons]
    have := h t (by simp)
    have := deepL_le (ts := ts) fun s hs => h s (by simp [hs])
    omega
theorem kindsL_all : ∀ {ts : List Tree}, (∀ t ∈ ts, kindsT t = true) → kindsL ts = true
  | [], _ => kindsL_nil
  | t :: ts, h => by
    rw [kindsL_cons, h t (by simp), kindsL_all (ts := ts) fun s hs => h s (by simp [hs])]
    rfl
theorem right_anyT : rightT anyT = true := by
  simp [rightT, anyT, size_mk, sizeL_nil, deep_mk, deepL_nil, kindsT_mk, kindsL_nil, okAlone]
theorem rowL_mem {t s : Tree} {a m : Nat} {e : Bool} (h : s ∈ rowL t a m e) : s = t ∨ s = mayT t ∨ s = starT t := by
  unfold rowL at h
  rcases List.mem_append.1 h with h | h
  · exact Or.inl (List.mem_replicate.1 h).2
  rcases List.mem_append.1 h with h | h
  · exact Or.inr (Or.inl (List.mem_replicate.1 h).2)
  · cases e
    · simp at h
    · simp at h
      exact Or.inr (Or.inr h)
theorem size_anyT : size anyT = 1 := by simp [anyT, size_mk, sizeL_nil]
theorem right_rowAny {a m : Nat} {e : Bool} (ha : a ≤ 60) (hm : m ≤ 40) : rightT (rowT anyT a m e) = true := by
  have d1 : deep anyT = 1 := by simp [anyT, deep_mk, deepL_nil]
  have d2 : deep (mayT anyT) = 2 := by simp [mayT, catT, deep_mk, deepL_cons, deepL_nil, d1]
  have d3 : deep (starT anyT) = 2 := by simp [starT, deep_mk, deepL_cons, deepL_nil, d1]
  have k1 : kindsT anyT = true := (right_parts right_anyT).2.2
  have k2 : kindsT (mayT anyT) = true := by simp [mayT, catT, kindsT_mk, kindsL_cons, kindsL_nil, okAlone, k1]
  have k3 : kindsT (starT anyT) = true := by simp [starT, kindsT_mk, kindsL_cons, kindsL_nil, okAlone, k1]
  have h1 : size (rowT anyT a m e) ≤ 200 := by rw [size_rowT, size_anyT]; split <;> omega
  have h2 : deep (rowT anyT a m e) ≤ 40 := by
    rw [rowT, deep_mk]
    have := deepL_le (n := 2) (ts := rowL anyT a m e) fun s hs => by
      rcases rowL_mem hs with rfl | rfl | rfl <;> omega
    omega
  have h3 : kindsT (rowT anyT a m e) = true := by
    rw [rowT, kindsT_mk, kindsL_all (ts := rowL anyT a m e) fun s hs => by rcases rowL_mem hs with rfl | rfl | rfl <;> assumption]
    simp [okAlone]
  unfold rightT
  simp [h1, h2, h3]

theorem times_any1 {a m : Nat} (ha : a ≤ 60) (hm : m ≤ 40) : timesT anyT a ((a + m : Nat) : Int) = (rowT anyT a m false, 0) := by
  rw [timesT_4 (m := m) (e := false) right_anyT (by omega) (by rw [if_neg (by omega)]; omega) (by simp; omega), right_rowAny ha hm]
  rfl
theorem times_any2 {a : Nat} (ha : a ≤ 60) : timesT anyT a (-1) = (rowT anyT a 0 true, 0) := by
  rw [timesT_4 (m := 0) (e := true) right_anyT (by omega) (by rw [if_pos (by decide)]; rfl) (by decide), right_rowAny ha (by omega)]
  rfl
theorem times_any0 {a b : Nat} (h : b < a) : timesT anyT a b = (zeroT, 2) := timesT_3 (by omega) right_anyT ⟨by omega, by omega⟩
theorem match_row1 {a m : Nat} (ha : a ≤ 60) (hm : m ≤ 40) {s : List Int} (hs : Fits s) (hl : s.length ≤ 255) : matchP (rowT anyT a m false) s ↔ a ≤ s.length ∧ s.length ≤ a + m := by
  unfold matchP
  rw [takes_row1 hs]
  exact ⟨fun h => h.2.2, fun h => ⟨right_rowAny ha hm, hl, h⟩⟩
theorem match_row2 {a : Nat} (ha : a ≤ 60) {s : List Int} (hs : Fits s) (hl : s.length ≤ 255) : matchP (rowT anyT a 0 true) s ↔ a ≤ s.length := by
  unfold matchP
  rw [takes_row2 hs]
  exact ⟨fun h => h.2.2, fun h => ⟨right_rowAny ha (by omega), hl, h⟩⟩

end Go.Proofs.YtjjlkjfhhpogaaaDoor
