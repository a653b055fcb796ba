/-
  The document's examples, as trees.
-/
import Derived.Test.YtjjlkjfhhpogaaaDoorTm
import Derived.Test.YtjjlkjfhhpogaaaDoorPx
import Derived.Test.YtjjlkjfhhpogaaaDoorMa
namespace Go.Proofs.YtjjlkjfhhpogaaaDoor

theorem takes_one {k : Int} (hk : k = 1) (set : List (Int × Int)) (s : List Int) : takes (.mk k set []) s ↔ ∃ n, s = [n] ∧ inSet set n = true := by
  subst hk
  rw [takes_mk]
  constructor
  · rintro (⟨_, h⟩ | ⟨h, _⟩ | ⟨h, _⟩ | ⟨h, _⟩)
    · exact h
    · cases h
    · cases h
    · cases h
  · intro h; exact Or.inl ⟨rfl, h⟩
theorem takes_cat (set : List (Int × Int)) (subs : List Tree) (s : List Int) : takes (.mk 2 set subs) s ↔ takesCat subs s := by
  rw [takes_mk]
  constructor
  · rintro (⟨h, _⟩ | ⟨_, h⟩ | ⟨h, _⟩ | ⟨h, _⟩)
    · cases h
    · exact h
    · cases h
    · cases h
  · intro h; exact Or.inr (Or.inl ⟨rfl, h⟩)
theorem takes_alt (set : List (Int × Int)) (subs : List Tree) (s : List Int) : takes (.mk 3 set subs) s ↔ takesAlt subs s := by
  rw [takes_mk]
  constructor
  · rintro (⟨h, _⟩ | ⟨h, _⟩ | ⟨_, h⟩ | ⟨h, _⟩)
    · cases h
    · cases h
    · exact h
    · cases h
  · intro h; exact Or.inr (Or.inr (Or.inl ⟨rfl, h⟩))
theorem takes_star (set : List (Int × Int)) (t : Tree) (s : List Int) : takes (.mk 4 set [t]) s ↔ StarL (takes t) s := by
  have e : takesAlt [t] = takes t := by funext s; exact propext (takesAlt_one t s)
  rw [takes_mk, e]
  constructor
  · rintro (⟨h, _⟩ | ⟨h, _⟩ | ⟨h, _⟩ | ⟨_, h⟩)
    · cases h
    · cases h
    · cases h
    · exact h
  · intro h; exact Or.inr (Or.inr (Or.inr ⟨rfl, h⟩))

theorem takes_five (s : List Int) : takes fiveT s ↔ s = [5] := by
  rw [fiveT, takes_one rfl]
  constructor
  · rintro ⟨n, rfl, h⟩
    simp [inSet] at h
    have : n = 5 := by omega
    subst this
    rfl
  · rintro rfl
    exact ⟨5, rfl, by simp [inSet]⟩
theorem takes_any (s : List Int) : takes anyT s ↔ ∃ n, s = [n] ∧ 0 ≤ n ∧ n ≤ 4294967295 := by
  rw [anyT, takes_one rfl]
  constructor
  · rintro ⟨n, rfl, h⟩
    simp [inSet] at h
    exact ⟨n, rfl, h⟩
  · rintro ⟨n, rfl, h⟩
    exact ⟨n, rfl, by simp [inSet]; exact h⟩

/-- Cat of five and Star of Any. -/
def exT : Tree := .mk 2 [] [fiveT, starT anyT]
theorem right_ex : rightT exT = true := by
  simp [rightT, exT, starT, fiveT, anyT, size_mk, sizeL_cons, sizeL_nil, deep_mk, deepL_cons, deepL_nil, kindsT_mk, kindsL_cons, kindsL_nil, okAlone]
theorem star_any : ∀ (s : List Int), (∀ n ∈ s, 0 ≤ n ∧ n ≤ 4294967295) → StarL (takes anyT) s
  | [], _ => .nil
  | n :: s, h => StarL.cons (a := [n]) ((takes_any _).2 ⟨n, rfl, h n (by simp)⟩) (star_any s fun m hm => h m (by simp [hm]))
theorem takes_ex {s : List Int} (h : ∀ n ∈ s, 0 ≤ n ∧ n ≤ 4294967295) : takes exT (5 :: s) := by
  rw [exT, takes_cat, takesCat_cons]
  refine ⟨[5], s, rfl, (takes_five _).2 rfl, ?_⟩
  rw [takesCat_cons]
  exact ⟨s, [], by simp, by rw [starT, takes_star]; exact star_any s h, (takesCat_nil _).2 rfl⟩
theorem not_takes_ex : ¬ takes exT [7] := by
  rw [exT, takes_cat, takesCat_cons]
  rintro ⟨a, b, h1, h2, _⟩
  rw [takes_five] at h2
  subst h2
  simp at h1
theorem match_ex1 : matchP exT [5] := ⟨right_ex, by simp, takes_ex (s := []) (by simp)⟩
theorem match_ex2 : matchP exT [5, 7, 9] := ⟨right_ex, by simp, takes_ex (s := [7, 9]) (by simp)⟩
theorem match_ex3 : ¬ matchP exT [7] := fun h => not_takes_ex h.2.2
theorem match_alt : ¬ matchP (.mk 3 [] []) [] := fun h => by
  have := h.2.2
  rw [takes_alt, takesAlt_nil] at this
  exact this
theorem match_cat : matchP (.mk 2 [] []) [] := by
  refine ⟨?_, by simp, ?_⟩
  · simp [rightT, size_mk, sizeL_nil, deep_mk, deepL_nil, kindsT_mk, kindsL_nil, okAlone]
  · rw [takes_cat, takesCat_nil]

/-- Five once or twice. -/
def oneTwo : Tree := rowT fiveT 1 1 false
theorem right_five : rightT fiveT = true := by
  simp [rightT, fiveT, size_mk, sizeL_nil, deep_mk, deepL_nil, kindsT_mk, kindsL_nil, okAlone]
theorem right_oneTwo : rightT oneTwo = true := by
  simp [rightT, oneTwo, rowT, rowL, mayT, catT, fiveT, size_mk, sizeL_cons, sizeL_nil, deep_mk, deepL_cons, deepL_nil, kindsT_mk, kindsL_cons, kindsL_nil, okAlone]
theorem times_five : timesT fiveT 1 2 = (oneTwo, 0) := by
  have h := timesT_4 (t := fiveT) (a := 1) (m := 1) (b := 2) (e := false) right_five (by omega) (by decide) (by decide)
  rw [show rowT fiveT 1 1 false = oneTwo from rfl, right_oneTwo] at h
  exact h
theorem match_oneTwo : matchP oneTwo [5, 5] := by
  refine ⟨right_oneTwo, by simp, ?_⟩
  rw [oneTwo, rowT, takes_cat]
  show takesCat [fiveT, mayT fiveT] [5, 5]
  rw [takesCat_cons]
  refine ⟨[5], [5], rfl, (takes_five _).2 rfl, ?_⟩
  rw [takesCat_cons]
  exact ⟨[5], [], rfl, by rw [mayT, takes_alt, takesAlt_cons]; exact Or.inl ((takes_five _).2 rfl), (takesCat_nil _).2 rfl⟩
theorem not_match_oneTwo : ¬ matchP oneTwo [] := by
  rintro ⟨_, _, h⟩
  rw [oneTwo, rowT, takes_cat] at h
  have h : takesCat [fiveT, mayT fiveT] [] := h
  rw [takesCat_cons] at h
  obtain ⟨a, b, h1, h2, _⟩ := h
  rw [takes_five] at h2
  subst h2
  simp at h1

end Go.Proofs.YtjjlkjfhhpogaaaDoor
