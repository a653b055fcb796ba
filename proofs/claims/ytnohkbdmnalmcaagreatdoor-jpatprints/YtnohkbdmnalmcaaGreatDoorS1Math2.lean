/-
  Plain mathematics: the invariants of Not and of Meet; what begins and the pieces say.
-/
import Derived.Test.YtnohkbdmnalmcaaGreatDoorS1Math
namespace Go.Proofs.YtnohkbdmnalmcaaGreatDoorS1

theorem NF.lt_of_lt {m : List Sp} (h : NF m) {i j : Nat} {x y : Sp} (hij : i < j) (hx : m[i]? = some x) (hy : m[j]? = some y) : x.2 + 2 ≤ y.1 := by
  obtain ⟨hi, rfl⟩ := List.getElem?_eq_some_iff.1 hx
  obtain ⟨hj, rfl⟩ := List.getElem?_eq_some_iff.1 hy
  exact List.pairwise_iff_getElem.1 h.2 i j hi hj hij

theorem inS_iff_get {l : List Sp} {n : Int} : inS l n = true ↔ ∃ (i : Nat) (s : Sp), l[i]? = some s ∧ s.1 ≤ n ∧ n ≤ s.2 := by
  rw [inS_iff]
  constructor
  · rintro ⟨s, hs, h⟩
    obtain ⟨i, hi⟩ := List.mem_iff_getElem?.1 hs
    exact ⟨i, s, hi, h⟩
  · rintro ⟨i, s, hi, h⟩
    exact ⟨s, List.mem_of_getElem? hi, h⟩

/-! ### Not -/
structure NotInv (m : List Sp) (k : Nat) (o : List Sp) (f : Int) : Prop where
  nf : NF o
  lo : 0 ≤ f
  hi : f ≤ 4294967296
  sep : ∀ x ∈ o, x.2 + 2 ≤ f
  mem : ∀ n, 0 ≤ n → (inS o n = true ↔ n < f ∧ ¬ inS m n = true)
  rest : ∀ j y, k ≤ j → m[j]? = some y → f ≤ y.1
  done : ∀ j y, j < k → m[j]? = some y → y.2 + 1 ≤ f
  len : o.length ≤ k

theorem NotInv.start {m : List Sp} (h : NF m) : NotInv m 0 [] 0 where
  nf := NF_nil
  lo := by omega
  hi := by omega
  sep := by simp
  mem n hn := by simp [inS]; omega
  rest j y _ hy := (h.1 y (List.mem_of_getElem? hy)).1
  done j y hj _ := by omega
  len := Nat.le_refl _

theorem NotInv.step {m : List Sp} {k : Nat} {o : List Sp} {f : Int} {s : Sp} (h : NotInv m k o f) (hm : NF m) (hs : m[k]? = some s) :
    NotInv m (k + 1) (if f < s.1 then o ++ [(f, s.1 - 1)] else o) (s.2 + 1) := by
  have hb := hm.1 s (List.mem_of_getElem? hs)
  have hf := h.rest k s (Nat.le_refl _) hs
  have h0 := h.lo
  have hrest : ∀ j y, k + 1 ≤ j → m[j]? = some y → s.2 + 1 ≤ y.1 := fun j y hj hy => by
    have := hm.lt_of_lt (by omega) hs hy; omega
  have hdone : ∀ j y, j < k + 1 → m[j]? = some y → y.2 + 1 ≤ s.2 + 1 := fun j y hj hy => by
    by_cases e : j = k
    · subst e; rw [hs] at hy; cases hy; omega
    · have := h.done j y (by omega) hy; omega
  have hin : ∀ n, f ≤ n → (inS m n = true ↔ s.1 ≤ n ∧ (n ≤ s.2 ∨ s.2 < n ∧ inS m n = true)) := fun n hn => by
    constructor
    · intro hi
      obtain ⟨j, y, hy, h1, h2⟩ := inS_iff_get.1 hi
      refine ⟨?_, ?_⟩
      · rcases Nat.lt_trichotomy j k with c | c | c
        · have := h.done j y c hy; omega
        · subst c; rw [hs] at hy; cases hy; exact h1
        · have := hrest j y c hy; omega
      · by_cases c : n ≤ s.2
        · exact Or.inl c
        · exact Or.inr ⟨by omega, hi⟩
    · rintro ⟨h1, h2 | h2⟩
      · exact inS_iff_get.2 ⟨k, s, hs, h1, h2⟩
      · exact h2.2
  by_cases c : f < s.1
  · rw [if_pos c]
    refine ⟨h.nf.push (by simp only; omega) (fun x hx => h.sep x hx), by omega, by omega, fun x hx => ?_, fun n hn => ?_, hrest, hdone, by have := h.len; simp; omega⟩
    · rcases mem_snoc.1 hx with hx | rfl
      · have := h.sep x hx; omega
      · simp only; omega
    · rw [inS_append, Bool.or_eq_true_iff, h.mem n hn]
      by_cases d : n < f
      · have : ¬ inS [(f, s.1 - 1)] n = true := by simp [inS]; omega
        constructor
        · rintro (⟨_, h2⟩ | h2)
          · exact ⟨by omega, h2⟩
          · exact absurd h2 this
        · rintro ⟨_, h2⟩
          exact Or.inl ⟨d, h2⟩
      · rw [hin n (by omega)]
        simp [inS]
        omega
  · rw [if_neg c]
    refine ⟨h.nf, by omega, by omega, fun x hx => by have := h.sep x hx; omega, fun n hn => ?_, hrest, hdone, by have := h.len; omega⟩
    rw [h.mem n hn]
    by_cases d : n < f
    · constructor
      · rintro ⟨_, h2⟩; exact ⟨by omega, h2⟩
      · rintro ⟨_, h2⟩; exact ⟨d, h2⟩
    · rw [hin n (by omega)]
      omega

/-- What Not answers. -/
def NotRes (m o : List Sp) : Prop := NF o ∧ ∀ n, 0 ≤ n → n ≤ 4294967295 → inS o n = !inS m n

theorem NotInv.full {m : List Sp} {k : Nat} {o : List Sp} (h : NotInv m k o 4294967296) : NotRes m o := by
  refine ⟨h.nf, fun n h0 h1 => ?_⟩
  apply bool_eq
  rw [h.mem n h0]
  simp
  omega

theorem NotInv.last {m : List Sp} {o : List Sp} {f : Int} (h : NotInv m m.length o f) (hf : f ≤ 4294967295) : NotRes m (o ++ [(f, 4294967295)]) := by
  have h0 := h.lo
  refine ⟨h.nf.push (by simp only; omega) (fun x hx => h.sep x hx), fun n hn h1 => ?_⟩
  apply bool_eq
  rw [inS_append, Bool.or_eq_true_iff, h.mem n hn]
  by_cases c : n < f
  · have e : ¬ inS [(f, (4294967295 : Int))] n = true := by simp [inS]; omega
    generalize inS m n = q at *
    cases q <;> simp [e, c]
  · have : ¬ inS m n = true := by
      intro hi
      obtain ⟨j, y, hy, a1, a2⟩ := inS_iff_get.1 hi
      obtain ⟨hj, _⟩ := List.getElem?_eq_some_iff.1 hy
      have := h.done j y hj hy
      omega
    have e : inS [(f, (4294967295 : Int))] n = true := by simp [inS]; omega
    simp only [Bool.not_eq_true] at this
    simp [this, e]

/-! ### Meet -/
structure MeetInv (a b : List Sp) (i j : Nat) (o : List Sp) : Prop where
  nf : NF o
  mem : ∀ n, (inS a n && inS b n) = (inS o n || (inS (a.drop i) n && inS (b.drop j) n))
  sep : ∀ x ∈ o, (∀ k y, i ≤ k → a[k]? = some y → x.2 + 2 ≤ y.1) ∨ (∀ k y, j ≤ k → b[k]? = some y → x.2 + 2 ≤ y.1)
  len : o.length ≤ i + j

theorem MeetInv.start (a b : List Sp) : MeetInv a b 0 0 [] :=
  ⟨NF_nil, fun n => by simp [inS], by simp, by simp⟩

theorem drop_of_get {α : Type} {l : List α} {k : Nat} {x : α} (h : l[k]? = some x) : l.drop k = x :: l.drop (k + 1) := by
  obtain ⟨hk, rfl⟩ := List.getElem?_eq_some_iff.1 h
  exact List.drop_eq_getElem_cons hk

theorem in_one (lo hi n : Int) : inS [(lo, hi)] n = (decide (lo ≤ n) && decide (n ≤ hi)) := by simp [inS]

theorem MeetInv.push {a b : List Sp} {i j i' j' : Nat} {o : List Sp} {s t : Sp} (h : MeetInv a b i j o) (ha : NF a) (hb : NF b) (hs : a[i]? = some s) (ht : b[j]? = some t)
    (hmem : ∀ n, (inS (a.drop i) n && inS (b.drop j) n) = ((decide (max s.1 t.1 ≤ n) && decide (n ≤ min s.2 t.2)) || (inS (a.drop i') n && inS (b.drop j') n)))
    (hi : i ≤ i') (hj : j ≤ j') (hij : i + j < i' + j')
    (hsep : (i < i' ∧ s.2 ≤ t.2) ∨ (j < j' ∧ t.2 ≤ s.2)) :
    MeetInv a b i' j' (if max s.1 t.1 ≤ min s.2 t.2 then o ++ [(max s.1 t.1, min s.2 t.2)] else o) := by
  have hsb := ha.1 s (List.mem_of_getElem? hs)
  have htb := hb.1 t (List.mem_of_getElem? ht)
  have hold : ∀ x ∈ o, (∀ k y, i' ≤ k → a[k]? = some y → x.2 + 2 ≤ y.1) ∨ (∀ k y, j' ≤ k → b[k]? = some y → x.2 + 2 ≤ y.1) := fun x hx => by
    rcases h.sep x hx with c | c
    · exact Or.inl fun k y hk hy => c k y (by omega) hy
    · exact Or.inr fun k y hk hy => c k y (by omega) hy
  have hl := h.len
  by_cases c : max s.1 t.1 ≤ min s.2 t.2
  · rw [if_pos c]
    refine ⟨h.nf.push (by simp only; omega) (fun x hx => ?_), fun n => ?_, fun x hx => ?_, by simp; omega⟩
    · rcases h.sep x hx with d | d
      · have := d i s (Nat.le_refl _) hs; simp only; omega
      · have := d j t (Nat.le_refl _) ht; simp only; omega
    · rw [h.mem, inS_append, hmem, in_one, Bool.or_assoc]
    · rcases mem_snoc.1 hx with hx | rfl
      · exact hold x hx
      · rcases hsep with ⟨d, e⟩ | ⟨d, e⟩
        · exact Or.inl fun k y hk hy => by have := ha.lt_of_lt (i := i) (j := k) (by omega) hs hy; simp only; omega
        · exact Or.inr fun k y hk hy => by have := hb.lt_of_lt (i := j) (j := k) (by omega) ht hy; simp only; omega
  · rw [if_neg c]
    refine ⟨h.nf, fun n => ?_, hold, by omega⟩
    rw [h.mem, hmem]
    have : (decide (max s.1 t.1 ≤ n) && decide (n ≤ min s.2 t.2)) = false := by simp; omega
    rw [this, Bool.false_or]

theorem MeetInv.left {a b : List Sp} {i j : Nat} {o : List Sp} {s t : Sp} (h : MeetInv a b i j o) (ha : NF a) (hb : NF b) (hs : a[i]? = some s) (ht : b[j]? = some t) (hlt : s.2 < t.2) :
    MeetInv a b (i + 1) j (if max s.1 t.1 ≤ min s.2 t.2 then o ++ [(max s.1 t.1, min s.2 t.2)] else o) := by
  refine h.push ha hb hs ht (fun n => ?_) (by omega) (by omega) (by omega) (Or.inl ⟨by omega, by omega⟩)
  have h1 := ha.drop i
  have h2 := hb.drop j
  rw [drop_of_get hs] at h1 ⊢
  rw [drop_of_get ht] at h2 ⊢
  exact meet_left h1 h2 hlt n

theorem MeetInv.right {a b : List Sp} {i j : Nat} {o : List Sp} {s t : Sp} (h : MeetInv a b i j o) (ha : NF a) (hb : NF b) (hs : a[i]? = some s) (ht : b[j]? = some t) (hlt : ¬ s.2 < t.2) :
    MeetInv a b i (j + 1) (if max s.1 t.1 ≤ min s.2 t.2 then o ++ [(max s.1 t.1, min s.2 t.2)] else o) := by
  refine h.push ha hb hs ht (fun n => ?_) (by omega) (by omega) (by omega) (Or.inr ⟨by omega, by omega⟩)
  have h1 := ha.drop i
  have h2 := hb.drop j
  rw [drop_of_get hs] at h1 ⊢
  rw [drop_of_get ht] at h2 ⊢
  exact meet_right h1 h2 hlt n

theorem MeetInv.done {a b : List Sp} {i j : Nat} {o : List Sp} (h : MeetInv a b i j o) (he : a.length ≤ i ∨ b.length ≤ j) (n : Int) : inS o n = (inS a n && inS b n) := by
  rw [h.mem]
  rcases he with c | c
  · rw [List.drop_of_length_le c]; simp [inS]
  · rw [List.drop_of_length_le c]; simp [inS]

end Go.Proofs.YtnohkbdmnalmcaaGreatDoorS1
