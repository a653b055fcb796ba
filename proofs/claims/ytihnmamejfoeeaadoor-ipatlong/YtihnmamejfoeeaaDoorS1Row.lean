/-
  What it is that a slice's value, in a world, holds a list: spans, numbers, bools, lists of spans; and that it stays so where nothing old turns.
-/
import Derived.Test.YtihnmamejfoeeaaDoorS1Math
import Derived.Test.YtihnmamejfoeeaaDoorRows
import Derived.WalkKit
namespace Go.Proofs.YtihnmamejfoeeaaDoorS1
open Go.RowKit

/-- v is a slice that holds these spans. -/
def Row2 (w : World) (v : Value) (l : List Sp) : Prop :=
  ∃ ao cap, v = .slice ao l.length cap ∧ (l ≠ [] → ∃ b off, ao = some ⟨b, off, none⟩ ∧ b < w.heap.size ∧
    ∀ i x, l[i]? = some x → w.cell? ⟨b, off + i * 2, none⟩ = some (.int .u32 x.1) ∧ w.cell? ⟨b, off + i * 2 + 1, none⟩ = some (.int .u32 x.2)) ∧ (ao = none → cap = 0)

/-- v is a slice that holds these numbers. -/
def Row1 (w : World) (v : Value) (l : List Int) : Prop :=
  ∃ ao cap, v = .slice ao l.length cap ∧ (l ≠ [] → ∃ b off, ao = some ⟨b, off, none⟩ ∧ b < w.heap.size ∧
    ∀ i x, l[i]? = some x → w.cell? ⟨b, off + i, none⟩ = some (.int .u32 x))

/-- v is a slice that holds these bools. -/
def RowB (w : World) (v : Value) (l : List Bool) : Prop :=
  ∃ ao cap, v = .slice ao l.length cap ∧ (l ≠ [] → ∃ b off, ao = some ⟨b, off, none⟩ ∧ b < w.heap.size ∧
    ∀ i x, l[i]? = some x → w.cell? ⟨b, off + i, none⟩ = some (.bool x))

/-- v is a slice that holds slices that hold these lists of spans. -/
def RowS (w : World) (v : Value) (L : List (List Sp)) : Prop :=
  ∃ ao cap, v = .slice ao L.length cap ∧ (L ≠ [] → ∃ b off, ao = some ⟨b, off, none⟩ ∧ b < w.heap.size ∧
    ∀ i l, L[i]? = some l → ∃ u, w.cell? ⟨b, off + i, none⟩ = some u ∧ Row2 w u l)

theorem Row2.kept {B : Nat} {w w' : World} {v : Value} {l : List Sp} (h : Row2 w v l) (hB : Below B w w') (hs : w.heap.size ≤ B) : Row2 w' v l := by
  obtain ⟨ao, cap, rfl, hc, hz⟩ := h
  refine ⟨ao, cap, rfl, fun hne => ?_, hz⟩
  obtain ⟨b, off, rfl, hb, hcell⟩ := hc hne
  have e : ∀ o, w'.cell? ⟨b, o, none⟩ = w.cell? ⟨b, o, none⟩ := fun o => hB.cell (p := ⟨b, o, none⟩) (by exact Nat.lt_of_lt_of_le hb hs)
  exact ⟨b, off, rfl, Nat.lt_of_lt_of_le hb hB.size, fun i x hx => by rw [e, e]; exact hcell i x hx⟩

theorem Row1.kept {B : Nat} {w w' : World} {v : Value} {l : List Int} (h : Row1 w v l) (hB : Below B w w') (hs : w.heap.size ≤ B) : Row1 w' v l := by
  obtain ⟨ao, cap, rfl, hc⟩ := h
  refine ⟨ao, cap, rfl, fun hne => ?_⟩
  obtain ⟨b, off, rfl, hb, hcell⟩ := hc hne
  have e : ∀ o, w'.cell? ⟨b, o, none⟩ = w.cell? ⟨b, o, none⟩ := fun o => hB.cell (p := ⟨b, o, none⟩) (by exact Nat.lt_of_lt_of_le hb hs)
  exact ⟨b, off, rfl, Nat.lt_of_lt_of_le hb hB.size, fun i x hx => by rw [e]; exact hcell i x hx⟩

theorem RowB.kept {B : Nat} {w w' : World} {v : Value} {l : List Bool} (h : RowB w v l) (hB : Below B w w') (hs : w.heap.size ≤ B) : RowB w' v l := by
  obtain ⟨ao, cap, rfl, hc⟩ := h
  refine ⟨ao, cap, rfl, fun hne => ?_⟩
  obtain ⟨b, off, rfl, hb, hcell⟩ := hc hne
  have e : ∀ o, w'.cell? ⟨b, o, none⟩ = w.cell? ⟨b, o, none⟩ := fun o => hB.cell (p := ⟨b, o, none⟩) (by exact Nat.lt_of_lt_of_le hb hs)
  exact ⟨b, off, rfl, Nat.lt_of_lt_of_le hb hB.size, fun i x hx => by rw [e]; exact hcell i x hx⟩

theorem RowS.kept {B : Nat} {w w' : World} {v : Value} {L : List (List Sp)} (h : RowS w v L) (hB : Below B w w') (hs : w.heap.size ≤ B) : RowS w' v L := by
  obtain ⟨ao, cap, rfl, hc⟩ := h
  refine ⟨ao, cap, rfl, fun hne => ?_⟩
  obtain ⟨b, off, rfl, hb, hcell⟩ := hc hne
  have e : ∀ o, w'.cell? ⟨b, o, none⟩ = w.cell? ⟨b, o, none⟩ := fun o => hB.cell (p := ⟨b, o, none⟩) (by exact Nat.lt_of_lt_of_le hb hs)
  refine ⟨b, off, rfl, Nat.lt_of_lt_of_le hb hB.size, fun i l hx => ?_⟩
  obtain ⟨u, h1, h2⟩ := hcell i l hx
  exact ⟨u, by rw [e]; exact h1, h2.kept hB hs⟩

theorem ne_nil_of_lt {α : Type} {l : List α} {k : Nat} (h : k < l.length) : l ≠ [] := by
  intro e; subst e; simp at h

/-- The nil slice holds nothing. -/
theorem Row2.nil (w : World) : Row2 w (.slice none 0 0) [] := ⟨none, 0, rfl, fun h => absurd rfl h, fun _ => rfl⟩

/-- The two cells of each span, one behind the other. -/
def enc2 (x : Sp) : List Value := [.int .u32 x.1, .int .u32 x.2]

/-- The cells of a list of spans. -/
def cells2 (l : List Sp) : List Value := l.flatMap enc2

theorem cells2_length (l : List Sp) : (cells2 l).length = l.length * 2 := by
  induction l with
  | nil => rfl
  | cons a l ih => simp [cells2, enc2] at *; omega

theorem cells2_append (a b : List Sp) : cells2 (a ++ b) = cells2 a ++ cells2 b := by simp [cells2]

theorem cells2_at : ∀ (l : List Sp) (i : Nat) (x : Sp), l[i]? = some x → (cells2 l)[i * 2]? = some (.int .u32 x.1) ∧ (cells2 l)[i * 2 + 1]? = some (.int .u32 x.2)
  | [], i, x, h => by simp at h
  | a :: l, 0, x, h => by simp at h; subst h; simp [cells2, enc2]
  | a :: l, i + 1, x, h => by
      have := cells2_at l i x (by simpa using h)
      have e : cells2 (a :: l) = .int .u32 a.1 :: .int .u32 a.2 :: cells2 l := rfl
      rw [e, show (i + 1) * 2 = i * 2 + 1 + 1 from by omega]
      simpa using this

theorem cells2_oneCell (l : List Sp) : ∀ u ∈ cells2 l, u.oneCell' = true := by
  intro u hu
  simp only [cells2, enc2, List.mem_flatMap] at hu
  obtain ⟨x, _, hx⟩ := hu
  simp at hx
  rcases hx with rfl | rfl <;> rfl

/-- What is owned is held. -/
theorem Row2.of_owns {w : World} {base : Nat} {e : TypeId} {v : Value} {l : List Sp} (h : w.ownsRow base e 2 v l.length (cells2 l)) : Row2 w v l := by
  rcases h.2 with ⟨rfl, h0⟩ | ⟨g, cap, cur, rfl, hb, hg, hn, hm, hs, ht⟩
  · have : l = [] := List.length_eq_zero_iff.1 h0
    subst this
    exact Row2.nil w
  · refine ⟨_, cap, rfl, fun _ => ⟨g, 0, rfl, (Array.getElem?_eq_some_iff.1 hg).1, fun i x hx => ?_⟩, fun h => by cases h⟩
    have hc := h.cells (g := g) rfl
    obtain ⟨c1, c2⟩ := cells2_at l i x hx
    have a1 := hc _ _ c1
    have a2 := hc _ _ c2
    have hadd : ∀ j, (⟨g, 0, none⟩ : Addr).add j = ⟨g, 0 + j, none⟩ := fun j => by unfold Addr.add; split <;> simp_all
    rw [hadd] at a1 a2
    exact ⟨a1, a2⟩

end Go.Proofs.YtihnmamejfoeeaaDoorS1
