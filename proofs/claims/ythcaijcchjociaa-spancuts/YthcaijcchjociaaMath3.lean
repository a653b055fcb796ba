/-
  Plain mathematics of atoms.
-/
import Derived.Test.YthcaijcchjociaaPiece
import Derived.Lib.SlicesCompact
namespace Go.Proofs.Ythcaijcchjociaa

/-- A set begins or ends at n: n and the number ahead of it differ in it. -/
def DiffAt (l : List Sp) (n : Int) : Prop := 1 ≤ n ∧ n ≤ 4294967295 ∧ inS l n ≠ inS l (n - 1)

/-- n is an edge of the span. -/
def EdgeOf (s : Sp) (n : Int) : Prop := n = s.1 ∨ (n = s.2 + 1 ∧ s.2 < 4294967295)

theorem NF.apart {m : List Sp} (h : NF m) {s t : Sp} (hs : s ∈ m) (ht : t ∈ m) : s = t ∨ s.2 + 2 ≤ t.1 ∨ t.2 + 2 ≤ s.1 := by
  obtain ⟨i, hi⟩ := List.mem_iff_getElem?.1 hs
  obtain ⟨j, hj⟩ := List.mem_iff_getElem?.1 ht
  rcases Nat.lt_trichotomy i j with c | c | c
  · exact Or.inr (Or.inl (h.lt_of_lt c hi hj))
  · subst c; rw [hi] at hj; injection hj with hj; exact Or.inl hj
  · exact Or.inr (Or.inr (h.lt_of_lt c hj hi))

theorem edge_diff {m l : List Sp} (h : NF m) (hm : ∀ n, inS m n = inS l n) {s : Sp} (hs : s ∈ m) {n : Int} (he : EdgeOf s n) : n = 0 ∨ DiffAt l n := by
  have hb := h.1 s hs
  rcases he with rfl | ⟨rfl, hl⟩
  · by_cases e : s.1 = 0
    · exact Or.inl e
    · right
      refine ⟨by omega, by omega, ?_⟩
      rw [← hm, ← hm]
      have h1 : inS m s.1 = true := inS_iff.2 ⟨s, hs, Int.le_refl _, hb.2.1⟩
      have h2 : inS m (s.1 - 1) = false := by
        apply inS_false_iff.2
        rintro t ht ⟨c1, c2⟩
        rcases h.apart hs ht with rfl | c | c <;> omega
      rw [h1, h2]; simp
  · right
    refine ⟨by omega, by omega, ?_⟩
    rw [← hm, ← hm]
    have h1 : inS m (s.2 + 1 - 1) = true := inS_iff.2 ⟨s, hs, by omega, by omega⟩
    have h2 : inS m (s.2 + 1) = false := by
      apply inS_false_iff.2
      rintro t ht ⟨c1, c2⟩
      rcases h.apart hs ht with rfl | c | c <;> omega
    rw [h1, h2]; simp

theorem diff_edge {m l : List Sp} (hm : ∀ n, inS m n = inS l n) {n : Int} (hd : DiffAt l n) : ∃ s ∈ m, EdgeOf s n := by
  obtain ⟨h1, h2, hne⟩ := hd
  rw [← hm, ← hm] at hne
  cases c : inS m n with
  | true =>
    rw [c] at hne
    have c2 : inS m (n - 1) = false := by
      cases d : inS m (n - 1) with
      | true => rw [d] at hne; exact absurd rfl hne
      | false => rfl
    obtain ⟨s, hs, a1, a2⟩ := inS_iff.1 c
    have := inS_false_iff.1 c2 s hs
    exact ⟨s, hs, Or.inl (by omega)⟩
  | false =>
    rw [c] at hne
    have c2 : inS m (n - 1) = true := by
      cases d : inS m (n - 1) with
      | false => rw [d] at hne; exact absurd rfl hne
      | true => rfl
    obtain ⟨s, hs, a1, a2⟩ := inS_iff.1 c2
    have := inS_false_iff.1 c s hs
    exact ⟨s, hs, Or.inr ⟨by omega, by omega⟩⟩

/-- Where atoms begin. -/
def AtBeg (L : List (List Sp)) (b : List Int) : Prop := ∀ n, n ∈ b ↔ n = 0 ∨ ∃ l ∈ L, DiffAt l n

/-- The spans from each beginning to ahead of the next one. -/
def spansOf (b : List Int) : List Sp := (List.range b.length).map fun k => (st b k, st b (k + 1) - 1)

/-- The atoms of these sets. -/
def Atoms (L : List (List Sp)) (o : List Sp) : Prop := ∃ b, Rising b ∧ AtBeg L b ∧ o = spansOf b

theorem rising_ext {a b : List Int} (ha : Rising a) (hb : Rising b) (h : ∀ n, n ∈ a ↔ n ∈ b) : a = b := by
  induction a generalizing b with
  | nil =>
    cases b with
    | nil => rfl
    | cons y b => exact absurd ((h y).2 (by simp)) (by simp)
  | cons x a ih =>
    cases b with
    | nil => exact absurd ((h x).1 (by simp)) (by simp)
    | cons y b =>
      have hx := List.pairwise_cons.1 ha
      have hy := List.pairwise_cons.1 hb
      have e : x = y := by
        rcases List.mem_cons.1 ((h x).1 (by simp)) with c | c
        · exact c
        · rcases List.mem_cons.1 ((h y).2 (by simp)) with d | d
          · exact d.symm
          · have := hy.1 x c; have := hx.1 y d; omega
      subst e
      have := ih hx.2 hy.2 (fun n => by
        constructor
        · intro hn
          rcases List.mem_cons.1 ((h n).1 (by simp [hn])) with c | c
          · have := hx.1 n hn; omega
          · exact c
        · intro hn
          rcases List.mem_cons.1 ((h n).2 (by simp [hn])) with c | c
          · have := hy.1 n hn; omega
          · exact c)
      rw [this]

theorem Atoms.unique {L : List (List Sp)} {o p : List Sp} (ho : Atoms L o) (hp : Atoms L p) : o = p := by
  obtain ⟨b, b1, b2, rfl⟩ := ho
  obtain ⟨c, c1, c2, rfl⟩ := hp
  rw [rising_ext b1 c1 (fun n => by rw [b2 n, c2 n])]

theorem AtBeg.beg {L : List (List Sp)} {b : List Int} (h : AtBeg L b) (hr : Rising b) : Beg b :=
  ⟨hr, (h 0).2 (Or.inl rfl), fun x hx => by
    rcases (h x).1 hx with c | ⟨l, _, c⟩
    · omega
    · have := c.1; have := c.2.1; omega⟩

/-! ### slices.Compact of a sorted list -/
open Go.Lib (compactUpTo keeps) in
theorem compact_mem {d : Array Int} {n : Int} : n ∈ compactUpTo d d.size ↔ n ∈ d.toList := by
  unfold compactUpTo
  constructor
  · intro h
    obtain ⟨i, hi, rfl⟩ := List.mem_map.1 h
    obtain ⟨h1, _⟩ := List.mem_filter.1 hi
    have hlt := List.mem_range.1 h1
    rw [getElem!_pos d i hlt]
    simp
  · intro h
    obtain ⟨i, hi⟩ := List.mem_iff_getElem?.1 h
    have hlt : i < d.size := by simpa using (List.getElem?_eq_some_iff.1 hi).1
    have key : ∀ k, k < d.size → ∃ j, j ≤ k ∧ keeps d j = true ∧ d[j]! = d[k]! := by
      intro k
      induction k with
      | zero => intro _; exact ⟨0, Nat.le_refl _, Go.Lib.keeps_lt_one d 0 (by omega), rfl⟩
      | succ k ih =>
        intro hk
        by_cases e : d[k + 1]! = d[k]!
        · obtain ⟨j, h1, h2, h3⟩ := ih (by omega)
          exact ⟨j, by omega, h2, by rw [h3, e]⟩
        · exact ⟨k + 1, Nat.le_refl _, Go.Lib.keeps_pos (by simpa using e), rfl⟩
    obtain ⟨j, h1, h2, h3⟩ := key i hlt
    refine List.mem_map.2 ⟨j, List.mem_filter.2 ⟨List.mem_range.2 (by omega), h2⟩, ?_⟩
    rw [h3, getElem!_pos d i hlt]
    obtain ⟨hi', he⟩ := List.getElem?_eq_some_iff.1 hi
    simpa using he

open Go.Lib (compactUpTo keeps) in
theorem compact_rising {d : Array Int} (hs : d.toList.Pairwise (· ≤ ·)) : Rising (compactUpTo d d.size) := by
  unfold compactUpTo Rising
  have hle : ∀ i j, i ≤ j → j < d.size → d[i]! ≤ d[j]! := fun i j hij hj => by
    rw [getElem!_pos d i (by omega), getElem!_pos d j hj]
    by_cases e : i = j
    · subst e; exact Int.le_refl _
    · have := List.pairwise_iff_getElem.1 hs i j (by simp; omega) (by simpa using hj) (by omega)
      simpa using this
  have hr : ((List.range d.size).filter (keeps d)).Pairwise (· < ·) := List.pairwise_lt_range.filter _
  rw [List.pairwise_map]
  refine hr.imp_of_mem ?_
  intro i j hi hj hij
  obtain ⟨_, hk⟩ := List.mem_filter.1 hj
  have hjl := List.mem_range.1 (List.mem_filter.1 hj).1
  have h1 := hle i (j - 1) (by omega) (by omega)
  have h2 := hle (j - 1) j (by omega) hjl
  have hne : d[j]! ≠ d[j - 1]! := by
    intro e
    rw [Go.Lib.keeps_neg (by omega) e] at hk
    cases hk
  omega

end Go.Proofs.Ythcaijcchjociaa
