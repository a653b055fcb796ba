/-
  A slice of slices of spans that came in, opened.
-/
import Derived.Test.YthcaijcchjociaaOpen
import Derived.Deep.Slices
namespace Go.Proofs.Ythcaijcchjociaa
open Go.ChangeShapes Go.WideShapes Go.ChangeAt Go.RowKit

/-- Sets whose numbers fit; no more of them than a slice can hold. -/
def GoodS (L : List (List Sp)) : Prop := (∀ s ∈ L, Good s) ∧ L.length ≤ 9223372036854775807

theorem open_sets {H : Type} {enc : TypeId × Value → H} {W : World} {v : Value} {fuel : Nat} {x : DataW H × List MemPlace}
    (h : DataW.trod enc Try.prog W 0 (fun _ => true) true fuel 31 [v] = some x) : ∃ L, RowS W v L ∧ GoodS L := by
  rcases Go.Deep.open_slice1 Try.underlying31 (by kernel_rfl) h with ⟨hcs, _⟩ | ⟨a, len, cap, m, n, V, D, P, hcs, _, hl, hm, hmm, _, hx⟩
  · injection hcs with hcs _
    subst hcs
    exact ⟨[], ⟨none, 0, rfl, fun h => absurd rfl h⟩, by simp [GoodS]⟩
  · injection hcs with hcs _
    subst hcs
    simp only [if_true] at hmm
    subst hmm
    have each : ∀ i, i < len → ∃ l : List Sp, Row2 W (V i) l ∧ Good l := fun i hi => open_spans (hx i (by omega)).2
    obtain ⟨f, hf⟩ := Go.Deep.choose_lt each
    refine ⟨(List.range len).map f, ⟨some a, m, by simp, fun hne => ?_⟩, fun s hs => ?_, ?_⟩
    · have hlen : 0 < len := by
        rcases Nat.eq_zero_or_pos len with e | e
        · subst e; simp at hne
        · exact e
      obtain ⟨b, off, spot⟩ := a
      have h0 := (hx 0 (by omega)).1
      have hspot : spot = none := by
        have := World.cell?_spot h0
        simpa [Addr.add] using this
      subst hspot
      refine ⟨b, off, rfl, ?_, fun i l hl' => ?_⟩
      · have := World.block_lt_of_cell? W _ h0
        rw [add_none] at this
        exact this
      · have hi : i < len := by
          have := (List.getElem?_eq_some_iff.1 hl').1
          simpa using this
        rw [List.getElem?_map, List.getElem?_range hi] at hl'
        simp at hl'
        subst hl'
        have c1 := (hx i (by omega)).1
        rw [add_none] at c1
        exact ⟨V i, c1, (hf i hi).1⟩
    · obtain ⟨i, hi, rfl⟩ := List.mem_map.1 hs
      exact (hf i (List.mem_range.1 hi)).2
    · simp [maxLen] at hm ⊢
      omega

end Go.Proofs.Ythcaijcchjociaa
