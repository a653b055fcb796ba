/-
  Plain mathematics of sets as lists of spans: no program in sight.
-/
namespace Go.Proofs.YtjjlkjfhhpogaaaDoorS1

/-- A span: its least number and its greatest one. -/
abbrev Sp := Int × Int

/-- Is n in the set? -/
def inS (l : List Sp) (n : Int) : Bool := l.any fun s => decide (s.1 ≤ n) && decide (n ≤ s.2)

theorem inS_iff {l : List Sp} {n : Int} : inS l n = true ↔ ∃ s ∈ l, s.1 ≤ n ∧ n ≤ s.2 := by
  simp [inS]

theorem inS_false_iff {l : List Sp} {n : Int} : inS l n = false ↔ ∀ s ∈ l, ¬ (s.1 ≤ n ∧ n ≤ s.2) := by
  rw [← Bool.not_eq_true, inS_iff]
  constructor
  · intro h s hs hn; exact h ⟨s, hs, hn⟩
  · rintro h ⟨s, hs, hn⟩; exact h s hs hn

theorem inS_append (a b : List Sp) (n : Int) : inS (a ++ b) n = (inS a n || inS b n) := by
  simp [inS]

theorem inS_cons (s : Sp) (b : List Sp) (n : Int) : inS (s :: b) n = ((decide (s.1 ≤ n) && decide (n ≤ s.2)) || inS b n) := by
  simp [inS]

theorem inS_nil (n : Int) : inS [] n = false := rfl

theorem bool_eq {a b : Bool} (h : a = true ↔ b = true) : a = b := by
  cases a <;> cases b <;> simp_all

/-- Numbers of 32 bits. -/
def Good (l : List Sp) : Prop := ∀ s ∈ l, 0 ≤ s.1 ∧ s.1 ≤ 4294967295 ∧ 0 ≤ s.2 ∧ s.2 ≤ 4294967295

/-- The one form. -/
def NF (l : List Sp) : Prop := (∀ s ∈ l, 0 ≤ s.1 ∧ s.1 ≤ s.2 ∧ s.2 ≤ 4294967295) ∧ l.Pairwise fun a b => a.2 + 2 ≤ b.1

theorem NF.good {l : List Sp} (h : NF l) : Good l := fun s hs => by
  have := h.1 s hs; omega

theorem NF_nil : NF [] := ⟨by simp, List.Pairwise.nil⟩

theorem NF.tail {s : Sp} {l : List Sp} (h : NF (s :: l)) : NF l :=
  ⟨fun t ht => h.1 t (List.mem_cons_of_mem _ ht), (List.pairwise_cons.1 h.2).2⟩

theorem NF.head {s : Sp} {l : List Sp} (h : NF (s :: l)) : (0 ≤ s.1 ∧ s.1 ≤ s.2 ∧ s.2 ≤ 4294967295) ∧ ∀ t ∈ l, s.2 + 2 ≤ t.1 :=
  ⟨h.1 s (List.mem_cons_self ..), (List.pairwise_cons.1 h.2).1⟩

theorem NF.range {l : List Sp} (h : NF l) {n : Int} (hn : inS l n = true) : 0 ≤ n ∧ n ≤ 4294967295 := by
  obtain ⟨s, hs, h1, h2⟩ := inS_iff.1 hn
  have := h.1 s hs
  omega

theorem NF.above {s : Sp} {l : List Sp} (h : NF (s :: l)) {n : Int} (hn : inS l n = true) : s.2 + 2 ≤ n := by
  obtain ⟨t, ht, h1, h2⟩ := inS_iff.1 hn
  have := h.head.2 t ht
  omega

theorem NF.least {s : Sp} {l : List Sp} (h : NF (s :: l)) {n : Int} (hn : inS (s :: l) n = true) : s.1 ≤ n := by
  rw [inS_cons] at hn
  have hh := h.head.1
  rcases Bool.or_eq_true_iff.1 hn with h1 | h1
  · simp at h1; omega
  · have := h.above h1; omega

theorem in_head {s : Sp} {l : List Sp} {n : Int} (h1 : s.1 ≤ n) (h2 : n ≤ s.2) : inS (s :: l) n = true := by
  rw [inS_cons]; simp [h1, h2]

/-- There is just one such list for a set. -/
theorem NF.unique : ∀ {l m : List Sp}, NF l → NF m → (∀ n, 0 ≤ n → n ≤ 4294967295 → inS l n = inS m n) → l = m
  | [], [], _, _, _ => rfl
  | [], t :: m, _, hm, h => by
      have hh := hm.head.1
      have := h t.1 (by omega) (by omega)
      rw [in_head (Int.le_refl _) (by omega)] at this
      simp [inS] at this
  | s :: l, [], hl, _, h => by
      have hh := hl.head.1
      have := h s.1 (by omega) (by omega)
      rw [in_head (Int.le_refl _) (by omega)] at this
      simp [inS] at this
  | s :: l, t :: m, hl, hm, h => by
      have hs := hl.head.1
      have ht := hm.head.1
      have e1 : t.1 ≤ s.1 := hm.least (by rw [← h s.1 (by omega) (by omega)]; exact in_head (Int.le_refl _) (by omega))
      have e2 : s.1 ≤ t.1 := hl.least (by rw [h t.1 (by omega) (by omega)]; exact in_head (Int.le_refl _) (by omega))
      have e3 : ¬ s.2 < t.2 := by
        intro hlt
        have h1 : inS (t :: m) (s.2 + 1) = true := in_head (by omega) (by omega)
        rw [← h _ (by omega) (by omega), inS_cons] at h1
        rcases Bool.or_eq_true_iff.1 h1 with h1 | h1
        · simp at h1; omega
        · have := hl.above h1; omega
      have e4 : ¬ t.2 < s.2 := by
        intro hlt
        have h1 : inS (s :: l) (t.2 + 1) = true := in_head (by omega) (by omega)
        rw [h _ (by omega) (by omega), inS_cons] at h1
        rcases Bool.or_eq_true_iff.1 h1 with h1 | h1
        · simp at h1; omega
        · have := hm.above h1; omega
      have e : s = t := Prod.ext (by omega) (by omega)
      subst e
      have hr : l = m := NF.unique hl.tail hm.tail (fun n h0 h1 => by
        have hn := h n h0 h1
        rw [inS_cons, inS_cons] at hn
        by_cases c : s.1 ≤ n ∧ n ≤ s.2
        · have a1 : inS l n = false := by
            apply Bool.eq_false_iff.2; intro hc; have := hl.above hc; omega
          have a2 : inS m n = false := by
            apply Bool.eq_false_iff.2; intro hc; have := hm.above hc; omega
          rw [a1, a2]
        · have c' : (decide (s.1 ≤ n) && decide (n ≤ s.2)) = false := by
            simp; omega
          rw [c'] at hn
          simpa using hn)
      rw [hr]

/-! ### Norm: one span more, which begins behind all that are there -/

theorem mem_snoc {α : Type} {l : List α} {a x : α} : x ∈ l ++ [a] ↔ x ∈ l ∨ x = a := by simp

theorem NF.merge {init : List Sp} {t s : Sp} (h : NF (init ++ [t])) (hs : 0 ≤ s.1 ∧ s.1 ≤ s.2 ∧ s.2 ≤ 4294967295) (h1 : t.1 ≤ s.1) :
    NF (init ++ [(t.1, max t.2 s.2)]) := by
  obtain ⟨a, b⟩ := h
  rw [List.pairwise_append] at b
  have ht := a t (by simp)
  refine ⟨fun x hx => ?_, List.pairwise_append.2 ⟨b.1, by simp, ?_⟩⟩
  · rcases mem_snoc.1 hx with hx | rfl
    · exact a x (by simp [hx])
    · simp only; omega
  · intro x hx y hy
    simp at hy
    subst hy
    exact b.2.2 x hx t (by simp)

theorem in_merge {init : List Sp} {t s : Sp} (h1 : t.1 ≤ s.1) (h2 : s.1 ≤ t.2 + 1) (n : Int) :
    inS (init ++ [(t.1, max t.2 s.2)]) n = inS (init ++ [t] ++ [s]) n := by
  apply bool_eq
  simp only [inS_append, inS_cons, inS_nil, Bool.or_eq_true_iff, Bool.and_eq_true_iff, decide_eq_true_iff, Bool.or_false]
  generalize inS init n = c
  cases c
  · simp; omega
  · simp

theorem NF.push {out : List Sp} {s : Sp} (h : NF out) (hs : 0 ≤ s.1 ∧ s.1 ≤ s.2 ∧ s.2 ≤ 4294967295) (h1 : ∀ x ∈ out, x.2 + 2 ≤ s.1) : NF (out ++ [s]) := by
  obtain ⟨a, b⟩ := h
  refine ⟨fun x hx => ?_, List.pairwise_append.2 ⟨b, by simp, ?_⟩⟩
  · rcases mem_snoc.1 hx with hx | rfl
    · exact a x hx
    · exact hs
  · intro x hx y hy
    simp at hy
    subst hy
    exact h1 x hx

theorem NF.last {init : List Sp} {t : Sp} (h : NF (init ++ [t])) : (0 ≤ t.1 ∧ t.1 ≤ t.2 ∧ t.2 ≤ 4294967295) ∧ ∀ x ∈ init, x.2 + 2 ≤ t.1 := by
  obtain ⟨a, b⟩ := h
  rw [List.pairwise_append] at b
  exact ⟨a t (by simp), fun x hx => b.2.2 x hx t (by simp)⟩

/-! ### Meet, with two hands -/

theorem meet_left {s t : Sp} {ra rb : List Sp} (ha : NF (s :: ra)) (hb : NF (t :: rb)) (h : s.2 < t.2) (n : Int) :
    (inS (s :: ra) n && inS (t :: rb) n) = ((decide (max s.1 t.1 ≤ n) && decide (n ≤ min s.2 t.2)) || (inS ra n && inS (t :: rb) n)) := by
  have a1 := fun hn => ha.above (n := n) hn
  have b1 := fun hn => hb.above (n := n) hn
  have hs := ha.head.1
  have ht := hb.head.1
  apply bool_eq
  simp only [inS_cons, Bool.or_eq_true_iff, Bool.and_eq_true_iff, decide_eq_true_iff]
  generalize inS ra n = x at *
  generalize inS rb n = y at *
  cases x <;> cases y <;> simp at * <;> omega

theorem meet_right {s t : Sp} {ra rb : List Sp} (ha : NF (s :: ra)) (hb : NF (t :: rb)) (h : ¬ s.2 < t.2) (n : Int) :
    (inS (s :: ra) n && inS (t :: rb) n) = ((decide (max s.1 t.1 ≤ n) && decide (n ≤ min s.2 t.2)) || (inS (s :: ra) n && inS rb n)) := by
  have a1 := fun hn => ha.above (n := n) hn
  have b1 := fun hn => hb.above (n := n) hn
  have hs := ha.head.1
  have ht := hb.head.1
  apply bool_eq
  simp only [inS_cons, Bool.or_eq_true_iff, Bool.and_eq_true_iff, decide_eq_true_iff]
  generalize inS ra n = x at *
  generalize inS rb n = y at *
  cases x <;> cases y <;> simp at * <;> omega

theorem NF.drop {l : List Sp} (h : NF l) (k : Nat) : NF (l.drop k) :=
  ⟨fun s hs => h.1 s (List.mem_of_mem_drop hs), h.2.sublist (List.drop_sublist k l)⟩

theorem NF.take {l : List Sp} (h : NF l) (k : Nat) : NF (l.take k) :=
  ⟨fun s hs => h.1 s (List.mem_of_mem_take hs), h.2.sublist (List.take_sublist k l)⟩

end Go.Proofs.YtjjlkjfhhpogaaaDoorS1
