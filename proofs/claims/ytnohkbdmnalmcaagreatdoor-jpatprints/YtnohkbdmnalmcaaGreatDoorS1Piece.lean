/-
  Plain mathematics of pieces: numbers from one beginning to ahead of the next one.
-/
import Derived.Test.YtnohkbdmnalmcaaGreatDoorS1Beg
import Derived.Test.YtnohkbdmnalmcaaGreatDoorS1Math2
namespace Go.Proofs.YtnohkbdmnalmcaaGreatDoorS1

/-- Where the piece k begins; behind the last one: behind the last number. -/
def st (b : List Int) (k : Nat) : Int := match b[k]? with | some x => x | none => 4294967296

theorem st_some {b : List Int} {k : Nat} {x : Int} (h : b[k]? = some x) : st b k = x := by unfold st; rw [h]
theorem st_none {b : List Int} {k : Nat} (h : b.length ≤ k) : st b k = 4294967296 := by unfold st; rw [List.getElem?_eq_none h]

theorem Beg.get_lt {b : List Int} (h : Beg b) {i j : Nat} {x y : Int} (hij : i < j) (hx : b[i]? = some x) (hy : b[j]? = some y) : x < y := by
  obtain ⟨hi, rfl⟩ := List.getElem?_eq_some_iff.1 hx
  obtain ⟨hj, rfl⟩ := List.getElem?_eq_some_iff.1 hy
  exact List.pairwise_iff_getElem.1 h.rising i j hi hj hij

theorem Beg.st_lt {b : List Int} (h : Beg b) {i j : Nat} (hij : i < j) (hi : i < b.length) : st b i < st b j := by
  have hx := List.getElem?_eq_getElem hi
  rw [st_some hx]
  by_cases hj : j < b.length
  · have hy := List.getElem?_eq_getElem hj
    rw [st_some hy]
    exact h.get_lt hij hx hy
  · rw [st_none (by omega)]
    have := h.rng _ (List.mem_of_getElem? hx)
    omega

theorem Beg.st_rng {b : List Int} (h : Beg b) (k : Nat) : 0 ≤ st b k ∧ st b k ≤ 4294967296 := by
  by_cases hk : k < b.length
  · have hx := List.getElem?_eq_getElem hk
    rw [st_some hx]
    have := h.rng _ (List.mem_of_getElem? hx)
    omega
  · rw [st_none (by omega)]; omega

theorem Beg.st_zero {b : List Int} (h : Beg b) : st b 0 = 0 := by
  obtain ⟨i, hi⟩ := List.mem_iff_getElem?.1 h.zero
  have hl := (List.getElem?_eq_some_iff.1 hi).1
  by_cases e : i = 0
  · subst e; exact st_some hi
  · have h1 := h.st_lt (i := 0) (j := i) (by omega) (by omega)
    rw [st_some hi] at h1
    have := (h.st_rng 0).1
    omega

/-- Each number lies in a piece. -/
theorem Beg.piece {b : List Int} (h : Beg b) {n : Int} (h0 : 0 ≤ n) (h1 : n ≤ 4294967295) : ∃ i, i < b.length ∧ st b i ≤ n ∧ n < st b (i + 1) := by
  have key : ∀ k, k ≤ b.length → (∃ i, i < k ∧ st b i ≤ n ∧ n < st b (i + 1)) ∨ st b k ≤ n := by
    intro k
    induction k with
    | zero => intro _; right; rw [h.st_zero]; exact h0
    | succ k ih =>
      intro hk
      rcases ih (by omega) with ⟨i, hi, c⟩ | c
      · exact Or.inl ⟨i, by omega, c⟩
      · by_cases d : n < st b (k + 1)
        · exact Or.inl ⟨k, by omega, c, d⟩
        · exact Or.inr (by omega)
  rcases key b.length (Nat.le_refl _) with ⟨i, hi, c⟩ | c
  · exact ⟨i, hi, c⟩
  · rw [st_none (Nat.le_refl _)] at c; omega

/-- No beginning lies inside a piece. -/
theorem Beg.between {b : List Int} (h : Beg b) {i : Nat} (hi : i < b.length) {x : Int} (hx : x ∈ b) (h1 : st b i < x) : st b (i + 1) ≤ x := by
  obtain ⟨j, hj⟩ := List.mem_iff_getElem?.1 hx
  have hjl := (List.getElem?_eq_some_iff.1 hj).1
  rw [← st_some hj] at h1 ⊢
  by_cases c : i + 1 < j
  · have := h.st_lt c (by
      by_cases d : i + 1 < b.length
      · exact d
      · omega)
    omega
  · by_cases d : j = i + 1
    · rw [d]; omega
    · by_cases e : j = i
      · rw [e] at h1; omega
      · have := h.st_lt (i := j) (j := i) (by omega) hjl
        omega

/-- In a piece a span has all numbers or none. -/
theorem Beg.whole {b : List Int} (h : Beg b) {s : Sp} (he : Edges b s) (hs : s.2 ≤ 4294967295) {i : Nat} (hi : i < b.length) {n : Int} (h1 : st b i ≤ n) (h2 : n < st b (i + 1)) :
    (s.1 ≤ n ∧ n ≤ s.2) ↔ (s.1 ≤ st b i ∧ st b i ≤ s.2) := by
  by_cases c : s.1 ≤ s.2
  · obtain ⟨e1, e2⟩ := he c
    constructor
    · rintro ⟨a1, a2⟩
      refine ⟨?_, by omega⟩
      by_cases d : s.1 ≤ st b i
      · exact d
      · have := h.between hi e1 (by omega); omega
    · rintro ⟨a1, a2⟩
      refine ⟨by omega, ?_⟩
      by_cases d : s.2 < 4294967295
      · have := h.between hi (e2 d) (by omega); omega
      · have := (h.st_rng (i + 1)).2; omega
  · omega

/-- In a piece a set has all numbers or none. -/
theorem Beg.wholeS {b : List Int} (h : Beg b) {l : List Sp} (he : ∀ s ∈ l, Edges b s) (hg : Good l) {i : Nat} (hi : i < b.length) {n : Int} (h1 : st b i ≤ n) (h2 : n < st b (i + 1)) :
    inS l n = inS l (st b i) := by
  apply bool_eq
  rw [inS_iff, inS_iff]
  constructor
  · rintro ⟨s, hs, c⟩
    exact ⟨s, hs, (h.whole (he s hs) (by have := hg s hs; omega) hi h1 h2).1 c⟩
  · rintro ⟨s, hs, c⟩
    exact ⟨s, hs, (h.whole (he s hs) (by have := hg s hs; omega) hi h1 h2).2 c⟩

/-! ### The set of those pieces that are asked for -/
structure FromInv (b : List Int) (ins : List Bool) (k : Nat) (o : List Sp) : Prop where
  nf : NF o
  mem : ∀ i q n, i < k → ins[i]? = some q → st b i ≤ n → n < st b (i + 1) → inS o n = q
  lt : ∀ x ∈ o, x.2 + 1 ≤ st b k
  last : ∀ j, k = j + 1 → ins[j]? = some true → ∃ init t, o = init ++ [t] ∧ t.2 + 1 = st b k
  gap : ∀ j, k = j + 1 → ins[j]? = some false → ∀ x ∈ o, x.2 + 2 ≤ st b k
  none : k = 0 → o = []
  len : o.length ≤ k

theorem FromInv.start (b : List Int) (ins : List Bool) : FromInv b ins 0 [] :=
  ⟨NF_nil, fun i q n hi => by omega, by simp, fun j h => by omega, fun j h => by omega, fun _ => rfl, by simp⟩

theorem FromInv.skip {b : List Int} {ins : List Bool} {k : Nat} {o : List Sp} (h : FromInv b ins k o) (hb : Beg b) (hk : k < b.length) (hq : ins[k]? = some false) : FromInv b ins (k + 1) o := by
  have hs := hb.st_lt (i := k) (j := k + 1) (by omega) hk
  refine ⟨h.nf, fun i q n hi hi2 h1 h2 => ?_, fun x hx => by have := h.lt x hx; omega, fun j hj hj2 => ?_, fun j hj hj2 x hx => by have := h.lt x hx; omega, fun e => by omega, by have := h.len; omega⟩
  · by_cases e : i = k
    · subst e
      rw [hq] at hi2
      injection hi2 with hi2
      rw [← hi2]
      apply inS_false_iff.2
      intro s hs' hc
      have := h.lt s hs'
      omega
    · exact h.mem i q n (by omega) hi2 h1 h2
  · have : j = k := by omega
    subst this
    rw [hq] at hj2
    cases hj2

theorem FromInv.push {b : List Int} {ins : List Bool} {k : Nat} {o : List Sp} (h : FromInv b ins k o) (hb : Beg b) (hk : k < b.length) (hq : ins[k]? = some true) (hg : ∀ j, k = j + 1 → ins[j]? = some false) : FromInv b ins (k + 1) (o ++ [(st b k, st b (k + 1) - 1)]) := by
  have hs := hb.st_lt (i := k) (j := k + 1) (by omega) hk
  have r0 := hb.st_rng k
  have r1 := hb.st_rng (k + 1)
  have hgap : ∀ x ∈ o, x.2 + 2 ≤ st b k := fun x hx => by
    cases k with
    | zero => rw [h.none rfl] at hx; simp at hx
    | succ j => exact h.gap j rfl (hg j rfl) x hx
  refine ⟨h.nf.push (by simp only; omega) hgap, fun i q n hi hi2 h1 h2 => ?_, fun x hx => ?_, fun j hj _ => ⟨o, _, rfl, by simp only; omega⟩, fun j hj hj2 => ?_, fun e => by omega, by have := h.len; simp; omega⟩
  · rw [inS_append, in_one]
    by_cases e : i = k
    · subst e
      rw [hq] at hi2
      injection hi2 with hi2
      rw [← hi2]
      simp
      right
      omega
    · rw [h.mem i q n (by omega) hi2 h1 h2]
      have hik : st b (i + 1) ≤ st b k := by
        by_cases d : i + 1 = k
        · rw [d]; omega
        · have := hb.st_lt (i := i + 1) (j := k) (by omega) (by omega); omega
      have : (decide (st b k ≤ n) && decide (n ≤ st b (k + 1) - 1)) = false := by simp; omega
      rw [this, Bool.or_false]
  · rcases mem_snoc.1 hx with hx | rfl
    · have := h.lt x hx; omega
    · simp only; omega
  · have : j = k := by omega
    subst this
    rw [hq] at hj2
    cases hj2

theorem FromInv.grow {b : List Int} {ins : List Bool} {k : Nat} {init : List Sp} {t : Sp} (h : FromInv b ins k (init ++ [t])) (ht : t.2 + 1 = st b k) (hb : Beg b) (hk : k < b.length) (hq : ins[k]? = some true) : FromInv b ins (k + 1) (init ++ [(t.1, st b (k + 1) - 1)]) := by
  have hs := hb.st_lt (i := k) (j := k + 1) (by omega) hk
  have r0 := hb.st_rng k
  have r1 := hb.st_rng (k + 1)
  have hl := h.nf.last
  have hm : max t.2 (st b (k + 1) - 1) = st b (k + 1) - 1 := by omega
  have hnf := h.nf.merge (s := (st b k, st b (k + 1) - 1)) (by simp only; omega) (by simp only; omega)
  simp only [hm] at hnf
  refine ⟨hnf, fun i q n hi hi2 h1 h2 => ?_, fun x hx => ?_, fun j hj _ => ⟨init, _, rfl, by simp only; omega⟩, fun j hj hj2 => ?_, fun e => by omega, by have := h.len; simp at *; omega⟩
  · by_cases e : i = k
    · subst e
      rw [hq] at hi2
      injection hi2 with hi2
      rw [← hi2, inS_append, in_one]
      simp
      right
      omega
    · have hik : st b (i + 1) ≤ st b k := by
        by_cases d : i + 1 = k
        · rw [d]; omega
        · have := hb.st_lt (i := i + 1) (j := k) (by omega) (by omega); omega
      rw [← h.mem i q n (by omega) hi2 h1 h2, inS_append, inS_append, in_one]
      congr 1
      obtain ⟨t1, t2⟩ := t
      rw [in_one]
      simp only at ht
      apply bool_eq
      simp
      omega
  · rcases mem_snoc.1 hx with hx | rfl
    · have := hl.2 x hx; omega
    · simp only; omega
  · have : j = k := by omega
    subst this
    rw [hq] at hj2
    cases hj2

end Go.Proofs.YtnohkbdmnalmcaaGreatDoorS1
