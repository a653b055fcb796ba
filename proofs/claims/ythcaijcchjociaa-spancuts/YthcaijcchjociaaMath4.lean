/-
  What is told of atoms, without the document's answer.
-/
import Derived.Test.YthcaijcchjociaaMath3
namespace Go.Proofs.Ythcaijcchjociaa
open Go.RowKit

/-- Inside an atom a set has all numbers or none. -/
theorem AtBeg.const {L : List (List Sp)} {b : List Int} (h : AtBeg L b) (hr : Rising b) {l : List Sp} (hl : l ∈ L) {i : Nat} (hi : i < b.length) :
    ∀ (m : Nat), st b i + m < st b (i + 1) → inS l (st b i + m) = inS l (st b i) := by
  have hb := h.beg hr
  intro m
  induction m with
  | zero => intro _; simp
  | succ m ih =>
    intro hm
    have ih := ih (by omega)
    rw [← ih]
    refine Decidable.byContradiction fun hne => ?_
    have h0 := (hb.st_rng i).1
    have h1 := (hb.st_rng (i + 1)).2
    have hd : DiffAt l (st b i + (m + 1 : Nat)) := ⟨by omega, by omega, by
      rw [show st b i + ((m + 1 : Nat) : Int) - 1 = st b i + m by omega]
      exact hne⟩
    have hmem := (h _).2 (Or.inr ⟨l, hl, hd⟩)
    have := hb.between hi hmem (by omega)
    omega

theorem AtBeg.const' {L : List (List Sp)} {b : List Int} (h : AtBeg L b) (hr : Rising b) {l : List Sp} (hl : l ∈ L) {i : Nat} (hi : i < b.length) {n : Int} (h1 : st b i ≤ n) (h2 : n < st b (i + 1)) : inS l n = inS l (st b i) := by
  have := h.const hr hl hi (n - st b i).toNat (by omega)
  rwa [show st b i + ((n - st b i).toNat : Int) = n by omega] at this

/-- Two atoms that follow one another differ. -/
theorem AtBeg.differ {L : List (List Sp)} {b : List Int} (h : AtBeg L b) (hr : Rising b) {i : Nat} (hi : i + 1 < b.length) : ∃ l ∈ L, inS l (st b (i + 1)) ≠ inS l (st b i) := by
  have hb := h.beg hr
  have hlt := hb.st_lt (i := i) (j := i + 1) (by omega) (by omega)
  have h0 := (hb.st_rng i).1
  have hmem : st b (i + 1) ∈ b := by
    rw [st_some (List.getElem?_eq_getElem hi)]
    exact List.getElem_mem hi
  rcases (h _).1 hmem with e | ⟨l, hl, hd⟩
  · omega
  · refine ⟨l, hl, ?_⟩
    have := hd.2.2
    have hc := h.const' hr hl (i := i) (show i < b.length by omega) (n := st b (i + 1) - 1) (by omega) (by omega)
    rwa [hc] at this

theorem spansOf_length (b : List Int) : (spansOf b).length = b.length := by simp [spansOf]

theorem spansOf_get {b : List Int} {i : Nat} (hi : i < b.length) : (spansOf b)[i]? = some (st b i, st b (i + 1) - 1) := by
  simp [spansOf, List.getElem?_range hi]

/-- What is told of the i-th atom. -/
structure AtomAt (L : List (List Sp)) (o : List Sp) (i : Nat) (x : Sp) : Prop where
  rng : 0 ≤ x.1 ∧ x.1 ≤ x.2 ∧ x.2 ≤ 4294967295
  const : ∀ l ∈ L, ∀ n, x.1 ≤ n → n ≤ x.2 → inS l n = inS l x.1

theorem Atoms.at {L : List (List Sp)} {o : List Sp} (h : Atoms L o) {i : Nat} {x : Sp} (hx : o[i]? = some x) : AtomAt L o i x := by
  obtain ⟨b, hr, hb, rfl⟩ := h
  have hB := hb.beg hr
  have hi : i < b.length := by
    have := (List.getElem?_eq_some_iff.1 hx).1
    rwa [spansOf_length] at this
  rw [spansOf_get hi] at hx
  injection hx with hx
  subst hx
  have h0 := (hB.st_rng i).1
  have h1 := (hB.st_rng (i + 1)).2
  have h2 := hB.st_lt (i := i) (j := i + 1) (by omega) hi
  exact ⟨⟨h0, by show st b i ≤ st b (i + 1) - 1; omega, by show st b (i + 1) - 1 ≤ _; omega⟩, fun l hl n a c => hb.const' hr hl hi a (by have : n ≤ st b (i + 1) - 1 := c; omega)⟩

/-- Two atoms, one behind the other. -/
theorem Atoms.next {L : List (List Sp)} {o : List Sp} (h : Atoms L o) {i : Nat} {x y : Sp} (hx : o[i]? = some x) (hy : o[i + 1]? = some y) : x.2 < 4294967295 ∧ y.1 = x.2 + 1 ∧ ∃ l ∈ L, inS l y.1 ≠ inS l x.1 := by
  obtain ⟨b, hr, hb, rfl⟩ := h
  have hB := hb.beg hr
  have hi : i + 1 < b.length := by
    have := (List.getElem?_eq_some_iff.1 hy).1
    rwa [spansOf_length] at this
  rw [spansOf_get (by omega)] at hx
  rw [spansOf_get hi] at hy
  injection hx with hx
  injection hy with hy
  subst hx hy
  have h1 : st b (i + 1) ≤ 4294967295 := by
    rw [st_some (List.getElem?_eq_getElem hi)]
    exact (hB.rng _ (List.getElem_mem hi)).2
  exact ⟨by show st b (i + 1) - 1 < _; omega, by show st b (i + 1) = st b (i + 1) - 1 + 1; omega, hb.differ hr hi⟩

/-- The first and the last atom. -/
theorem Atoms.ends {L : List (List Sp)} {o : List Sp} (h : Atoms L o) : ∃ x y, o[0]? = some x ∧ o[o.length - 1]? = some y ∧ 0 < o.length ∧ x.1 = 0 ∧ y.2 = 4294967295 := by
  obtain ⟨b, hr, hb, rfl⟩ := h
  have hB := hb.beg hr
  have hlen : 0 < b.length := by
    rcases Nat.eq_zero_or_pos b.length with e | e
    · exact absurd (List.length_eq_zero_iff.1 e) hB.ne
    · exact e
  rw [spansOf_length]
  refine ⟨_, _, spansOf_get hlen, spansOf_get (by omega), hlen, hB.st_zero, ?_⟩
  show st b (b.length - 1 + 1) - 1 = _
  rw [st_none (by omega)]
  omega

/-- What a set and one atom have in common is the atom, or nothing. -/
theorem AtomAt.meet {L : List (List Sp)} {o : List Sp} {i : Nat} {x : Sp} (h : AtomAt L o i x) {l : List Sp} (hl : l ∈ L) {m : List Sp} (hm : NF m) (hmm : ∀ n, inS m n = (inS l n && inS [x] n)) :
    m = if inS l x.1 then [x] else [] := by
  have hin : ∀ n, inS [x] n = (decide (x.1 ≤ n) && decide (n ≤ x.2)) := fun n => by simp [inS]
  have hr := h.rng
  cases hq : inS l x.1 with
  | true =>
    rw [if_pos rfl]
    refine hm.unique ⟨by intro s hs; simp at hs; subst hs; exact hr, List.pairwise_singleton _ _⟩ fun n _ _ => ?_
    rw [hmm, hin]
    by_cases c1 : x.1 ≤ n
    · by_cases c2 : n ≤ x.2
      · rw [h.const l hl n c1 c2, hq]; rfl
      · rw [decide_eq_false c2]; simp
    · rw [decide_eq_false c1]; simp
  | false =>
    rw [if_neg Bool.false_ne_true]
    refine hm.unique NF_nil fun n _ _ => ?_
    rw [hmm, hin]
    by_cases c1 : x.1 ≤ n
    · by_cases c2 : n ≤ x.2
      · rw [h.const l hl n c1 c2, hq]; rfl
      · rw [decide_eq_false c2]; simp [inS]
    · rw [decide_eq_false c1]; simp [inS]

theorem cnt_bound {L : List (List Sp)} (h : ∀ l ∈ L, l.length ≤ 20) : ∀ k, k ≤ L.length → cnt L k ≤ 20 * k := by
  intro k
  induction k with
  | zero => intro _; simp [cnt]
  | succ k ih =>
    intro hk
    have hl := List.getElem?_eq_getElem (show k < L.length by omega)
    rw [cnt_succ hl]
    have := ih (by omega)
    have := h _ (List.mem_of_getElem? hl)
    omega
end Go.Proofs.Ythcaijcchjociaa
