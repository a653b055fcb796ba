/-
  Patterns of patterns in memory; paths cut in two; what a Star and a Cat of two take, by their parts.
-/
import Derived.Test.YtjjlkjfhhpogaaaDoorL4
namespace Go.Proofs.YtjjlkjfhhpogaaaDoor
open Go.RowKit

theorem HT_sub1 {w : World} {k : Int} {t : Tree} {r : PC} {b : Nat} {cs : Array Value} (hr : HT w t r) (hb : Blk w b cs 25) (hcs : cs.toList = cellsOf encT [r]) : HT w (.mk k [] [t]) ⟨k, ⟨none, 0, 0⟩, ⟨some ⟨b, 0, none⟩, 1, 1⟩⟩ :=
  (HT_mk _ _ _ _ _).2 ⟨rfl, RowX.nil _ _ _, [r], (OwnX.lit (base := 0) (l := [r]) encT_len hb hcs (Nat.zero_le _) (by simp)).row encT_len, (HTs_cons _ _ _ _).2 ⟨r, [], rfl, hr, (HTs_nil _ _).2 rfl⟩⟩
theorem HT_sub2 {w : World} {k : Int} {t t' : Tree} {r r' : PC} {b : Nat} {cs : Array Value} (hr : HT w t r) (hr' : HT w t' r') (hb : Blk w b cs 25) (hcs : cs.toList = cellsOf encT [r, r']) : HT w (.mk k [] [t, t']) ⟨k, ⟨none, 0, 0⟩, ⟨some ⟨b, 0, none⟩, 2, 2⟩⟩ :=
  (HT_mk _ _ _ _ _).2 ⟨rfl, RowX.nil _ _ _, [r, r'], (OwnX.lit (base := 0) (l := [r, r']) encT_len hb hcs (Nat.zero_le _) (by simp)).row encT_len, (HTs_cons _ _ _ _).2 ⟨r, [r'], rfl, hr, (HTs_cons _ _ _ _).2 ⟨r', [], rfl, hr', (HTs_nil _ _).2 rfl⟩⟩⟩

theorem row_front {W : World} {pa : Option Addr} {n c : Nat} {l : List Int} (h : RowN W (.slice pa n c) l) (i : Nat) (hi : i ≤ l.length) (c' : Nat) (hc : pa = none → c' = 0) : RowN W (.slice pa i c') (l.take i) := by
  obtain ⟨ao, cap, hv, hcell, _⟩ := h
  injection hv with h1 h2 h3
  subst h1
  refine ⟨pa, c', by rw [List.length_take, Nat.min_eq_left hi], fun hne => ?_, hc⟩
  obtain ⟨b, off, rfl, hb, hx⟩ := hcell (by intro e; subst e; simp at hne)
  refine ⟨b, off, rfl, hb, fun j x hjx => hx j x ?_⟩
  have hj : j < i := by
    have := (List.getElem?_eq_some_iff.1 hjx).1
    simp at this
    omega
  rw [List.getElem?_take_of_lt hj] at hjx
  exact hjx
theorem row_back {W : World} {b off n c : Nat} {l : List Int} (h : RowN W (.slice (some ⟨b, off, none⟩) n c) l) (i m : Nat) (hm : m = l.length - i) (c' : Nat) : RowN W (.slice (some ⟨b, off + i, none⟩) m c') (l.drop i) := by
  obtain ⟨ao, cap, hv, hcell, _⟩ := h
  injection hv with h1 h2 h3
  subst h1
  refine ⟨_, c', by rw [List.length_drop, hm], fun hne => ?_, fun e => by cases e⟩
  obtain ⟨b', off', e, hb, hx⟩ := hcell (by intro e; subst e; simp at hne)
  injection e with e
  injection e with e1 e2
  subst e1 e2
  refine ⟨b, off + i, rfl, hb, fun j x hjx k cc hk => ?_⟩
  rw [List.getElem?_drop] at hjx
  have := hx (i + j) x hjx k cc hk
  rw [show off + i + j * 1 + k = off + (i + j) * 1 + k by omega]
  exact this

/-- A path's rest, as the model has it: behind the last place the address stays. -/
theorem row_back2 {W : World} {b off n c : Nat} {l : List Int} (h : RowN W (.slice (some ⟨b, off, none⟩) n c) l) (i m : Nat) (hm : m = l.length - i) (pc : Nat) (hc : l.length ≤ pc) : RowN W (.slice (if pc = i then some ⟨b, off, none⟩ else some ⟨b, off + i, none⟩) m (pc - i)) (l.drop i) := by
  by_cases e : pc = i
  · rw [if_pos e]
    have : l.drop i = [] := by rw [List.drop_eq_nil_iff]; omega
    have hm0 : m = 0 := by omega
    rw [this, hm0]
    exact ⟨_, _, rfl, fun h => absurd rfl h, fun e => by cases e⟩
  · rw [if_neg e]
    exact row_back h i m hm _

theorem deepL_at {ts : List Tree} {i : Nat} {t : Tree} (h : ts[i]? = some t) : deep t ≤ deepL ts := deep_le_of_at h
theorem right_sub {k : Int} {set : List (Int × Int)} {ts : List Tree} {i : Nat} {t : Tree} (h : rightT (.mk k set ts) = true) (ht : ts[i]? = some t) : rightT t = true := by
  obtain ⟨h1, h2, h3⟩ := right_parts h
  rw [size_mk] at h1
  rw [deep_mk] at h2
  rw [kindsT_mk] at h3
  simp only [Bool.and_eq_true] at h3
  have := size_le_of_at ht
  have := deep_le_of_at ht
  unfold rightT
  rw [kindsT_of_at h3.2 ht]
  have a1 : size t ≤ 200 := by omega
  have a2 : deep t ≤ 40 := by omega
  simp [a1, a2]

theorem star_cut {t : Tree} (hr : rightT (starT t) = true) {l : List Int} (hl : l.length ≤ 255) : matchP (starT t) l ↔ l = [] ∨ ∃ j, 1 ≤ j ∧ j ≤ l.length ∧ matchP t (l.take j) ∧ matchP (starT t) (l.drop j) := by
  have hrt : rightT t = true := right_sub (i := 0) hr rfl
  unfold matchP
  rw [starT, takes_star, star_front]
  constructor
  · rintro ⟨_, _, rfl | ⟨a, b, rfl, h1, h2, h3⟩⟩
    · exact Or.inl rfl
    · have ha := List.length_pos_iff.2 h1
      refine Or.inr ⟨a.length, ha, by simp, ⟨hrt, by simp at hl ⊢; omega, by simpa using h2⟩, hr, by simp at hl ⊢; omega, ?_⟩
      rw [takes_star]
      simpa using h3
  · rintro (rfl | ⟨j, h1, h2, ⟨_, _, h3⟩, _, _, h4⟩)
    · exact ⟨hr, by simp, Or.inl rfl⟩
    · rw [takes_star] at h4
      refine ⟨hr, hl, Or.inr ⟨l.take j, l.drop j, by simp, ?_, h3, h4⟩⟩
      intro e
      have := congrArg List.length e
      rw [List.length_take, List.length_nil] at this
      omega

theorem cat_cut {t t' : Tree} (hr : rightT (.mk 2 [] [t, t']) = true) {l : List Int} (hl : l.length ≤ 255) : matchP (.mk 2 [] [t, t']) l ↔ ∃ j, j ≤ l.length ∧ matchP t (l.take j) ∧ matchP t' (l.drop j) := by
  have hrt : rightT t = true := right_sub (i := 0) hr rfl
  have hrt' : rightT t' = true := right_sub (i := 1) hr rfl
  unfold matchP
  rw [takes_cat, takesCat_cons]
  constructor
  · rintro ⟨_, _, a, b, rfl, h1, h2⟩
    rw [takesCat_cons] at h2
    obtain ⟨c, d, rfl, h3, h4⟩ := h2
    rw [takesCat_nil] at h4
    subst h4
    refine ⟨a.length, by simp, ⟨hrt, by simp at hl ⊢; omega, by simpa using h1⟩, hrt', by simp at hl ⊢; omega, by simpa using h3⟩
  · rintro ⟨j, h2, ⟨_, _, h3⟩, _, _, h4⟩
    refine ⟨hr, hl, l.take j, l.drop j, by simp, h3, ?_⟩
    rw [takesCat_cons]
    exact ⟨l.drop j, [], by simp, h4, (takesCat_nil _).2 rfl⟩
theorem alt_two {t t' : Tree} (hr : rightT (.mk 3 [] [t, t']) = true) {l : List Int} : matchP (.mk 3 [] [t, t']) l ↔ matchP t l ∨ matchP t' l := by
  have hrt : rightT t = true := right_sub (i := 0) hr rfl
  have hrt' : rightT t' = true := right_sub (i := 1) hr rfl
  unfold matchP
  rw [takes_alt, takesAlt_cons, takesAlt_cons, takesAlt_nil, or_false]
  constructor
  · rintro ⟨_, h1, h2 | h2⟩
    · exact Or.inl ⟨hrt, h1, h2⟩
    · exact Or.inr ⟨hrt', h1, h2⟩
  · rintro (⟨_, h1, h2⟩ | ⟨_, h1, h2⟩)
    · exact ⟨hr, h1, Or.inl h2⟩
    · exact ⟨hr, h1, Or.inr h2⟩

end Go.Proofs.YtjjlkjfhhpogaaaDoor
