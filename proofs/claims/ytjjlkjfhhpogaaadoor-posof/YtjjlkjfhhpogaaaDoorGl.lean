/-
  Patterns by their positions: which are first, last, which come behind which; what runs through them is what the pattern takes. Plain mathematics.
-/
import Derived.Test.YtjjlkjfhhpogaaaDoorMath2
namespace Go.Proofs.YtjjlkjfhhpogaaaDoor

mutual
/-- How many positions. -/
def ones : Tree → Nat
  | .mk k _ subs => if k = 1 then 1 else onesL subs
def onesL : List Tree → Nat
  | [] => 0
  | t :: ts => ones t + onesL ts
end
mutual
/-- Their sets, in order. -/
def setsT : Tree → List (List (Int × Int))
  | .mk k set subs => if k = 1 then [set] else setsL subs
def setsL : List Tree → List (List (Int × Int))
  | [] => []
  | t :: ts => setsT t ++ setsL ts
end
mutual
/-- Is the path without numbers taken? -/
def emp : Tree → Bool
  | .mk k _ subs => if k = 1 then false else if k = 2 then empC subs else if k = 3 then empA subs else true
def empC : List Tree → Bool
  | [] => true
  | t :: ts => emp t && empC ts
def empA : List Tree → Bool
  | [] => false
  | t :: ts => emp t || empA ts
end
mutual
/-- A position is one of First; the part's positions begin at o. -/
def Fir : Tree → Nat → Nat → Prop
  | .mk k _ subs, o, i => if k = 1 then i = o else if k = 2 then FirC subs o i else FirA subs o i
def FirC : List Tree → Nat → Nat → Prop
  | [], _, _ => False
  | t :: ts, o, i => Fir t o i ∨ (emp t = true ∧ FirC ts (o + ones t) i)
def FirA : List Tree → Nat → Nat → Prop
  | [], _, _ => False
  | t :: ts, o, i => Fir t o i ∨ FirA ts (o + ones t) i
end
mutual
def Las : Tree → Nat → Nat → Prop
  | .mk k _ subs, o, i => if k = 1 then i = o else if k = 2 then LasC subs o i else LasA subs o i
def LasC : List Tree → Nat → Nat → Prop
  | [], _, _ => False
  | t :: ts, o, i => (empC ts = true ∧ Las t o i) ∨ LasC ts (o + ones t) i
def LasA : List Tree → Nat → Nat → Prop
  | [], _, _ => False
  | t :: ts, o, i => Las t o i ∨ LasA ts (o + ones t) i
end
mutual
/-- The second position can come right behind the first. -/
def Fol : Tree → Nat → Nat → Nat → Prop
  | .mk k _ subs, o, i, j => if k = 1 then False else if k = 2 then FolC subs o i j else if k = 3 then FolA subs o i j else FolA subs o i j ∨ (LasA subs o i ∧ FirA subs o j)
def FolC : List Tree → Nat → Nat → Nat → Prop
  | [], _, _, _ => False
  | t :: ts, o, i, j => Fol t o i j ∨ FolC ts (o + ones t) i j ∨ (Las t o i ∧ FirC ts (o + ones t) j)
def FolA : List Tree → Nat → Nat → Nat → Prop
  | [], _, _, _ => False
  | t :: ts, o, i, j => Fol t o i j ∨ FolA ts (o + ones t) i j
end

theorem ones_mk (k : Int) (set : List (Int × Int)) (subs : List Tree) : ones (.mk k set subs) = if k = 1 then 1 else onesL subs := by rw [ones]
theorem onesL_nil : onesL [] = 0 := by rw [onesL]
theorem onesL_cons (t : Tree) (ts : List Tree) : onesL (t :: ts) = ones t + onesL ts := by rw [onesL]
theorem setsT_mk (k : Int) (set : List (Int × Int)) (subs : List Tree) : setsT (.mk k set subs) = if k = 1 then [set] else setsL subs := by rw [setsT]
theorem setsL_nil : setsL [] = [] := by rw [setsL]
theorem setsL_cons (t : Tree) (ts : List Tree) : setsL (t :: ts) = setsT t ++ setsL ts := by rw [setsL]
theorem emp_mk (k : Int) (set : List (Int × Int)) (subs : List Tree) : emp (.mk k set subs) = if k = 1 then false else if k = 2 then empC subs else if k = 3 then empA subs else true := by rw [emp]
theorem empC_nil : empC [] = true := by rw [empC]
theorem empC_cons (t : Tree) (ts : List Tree) : empC (t :: ts) = (emp t && empC ts) := by rw [empC]
theorem empA_nil : empA [] = false := by rw [empA]
theorem empA_cons (t : Tree) (ts : List Tree) : empA (t :: ts) = (emp t || empA ts) := by rw [empA]
theorem Fir_mk (k : Int) (set : List (Int × Int)) (subs : List Tree) (o i : Nat) : Fir (.mk k set subs) o i ↔ if k = 1 then i = o else if k = 2 then FirC subs o i else FirA subs o i := by rw [Fir]
theorem FirC_nil (o i : Nat) : FirC [] o i ↔ False := by rw [FirC]
theorem FirC_cons (t : Tree) (ts : List Tree) (o i : Nat) : FirC (t :: ts) o i ↔ Fir t o i ∨ (emp t = true ∧ FirC ts (o + ones t) i) := by rw [FirC]
theorem FirA_nil (o i : Nat) : FirA [] o i ↔ False := by rw [FirA]
theorem FirA_cons (t : Tree) (ts : List Tree) (o i : Nat) : FirA (t :: ts) o i ↔ Fir t o i ∨ FirA ts (o + ones t) i := by rw [FirA]
theorem Las_mk (k : Int) (set : List (Int × Int)) (subs : List Tree) (o i : Nat) : Las (.mk k set subs) o i ↔ if k = 1 then i = o else if k = 2 then LasC subs o i else LasA subs o i := by rw [Las]
theorem LasC_nil (o i : Nat) : LasC [] o i ↔ False := by rw [LasC]
theorem LasC_cons (t : Tree) (ts : List Tree) (o i : Nat) : LasC (t :: ts) o i ↔ (empC ts = true ∧ Las t o i) ∨ LasC ts (o + ones t) i := by rw [LasC]
theorem LasA_nil (o i : Nat) : LasA [] o i ↔ False := by rw [LasA]
theorem LasA_cons (t : Tree) (ts : List Tree) (o i : Nat) : LasA (t :: ts) o i ↔ Las t o i ∨ LasA ts (o + ones t) i := by rw [LasA]
theorem Fol_mk (k : Int) (set : List (Int × Int)) (subs : List Tree) (o i j : Nat) : Fol (.mk k set subs) o i j ↔ if k = 1 then False else if k = 2 then FolC subs o i j else if k = 3 then FolA subs o i j else FolA subs o i j ∨ (LasA subs o i ∧ FirA subs o j) := by rw [Fol]
theorem FolC_nil (o i j : Nat) : FolC [] o i j ↔ False := by rw [FolC]
theorem FolC_cons (t : Tree) (ts : List Tree) (o i j : Nat) : FolC (t :: ts) o i j ↔ Fol t o i j ∨ FolC ts (o + ones t) i j ∨ (Las t o i ∧ FirC ts (o + ones t) j) := by rw [FolC]
theorem FolA_nil (o i j : Nat) : FolA [] o i j ↔ False := by rw [FolA]
theorem FolA_cons (t : Tree) (ts : List Tree) (o i j : Nat) : FolA (t :: ts) o i j ↔ Fol t o i j ∨ FolA ts (o + ones t) i j := by rw [FolA]

theorem onesL_append (a b : List Tree) : onesL (a ++ b) = onesL a + onesL b := by
  induction a with
  | nil => simp [onesL_nil]
  | cons t ts ih => rw [List.cons_append, onesL_cons, onesL_cons, ih]; omega
theorem setsL_append (a b : List Tree) : setsL (a ++ b) = setsL a ++ setsL b := by
  induction a with
  | nil => simp [setsL_nil]
  | cons t ts ih => rw [List.cons_append, setsL_cons, setsL_cons, ih, List.append_assoc]
theorem empC_append (a b : List Tree) : empC (a ++ b) = (empC a && empC b) := by
  induction a with
  | nil => simp [empC_nil]
  | cons t ts ih => rw [List.cons_append, empC_cons, empC_cons, ih, Bool.and_assoc]
theorem empA_append (a b : List Tree) : empA (a ++ b) = (empA a || empA b) := by
  induction a with
  | nil => simp [empA_nil]
  | cons t ts ih => rw [List.cons_append, empA_cons, empA_cons, ih, Bool.or_assoc]
mutual
theorem setsT_len : ∀ t : Tree, (setsT t).length = ones t
  | .mk k set subs => by
    rw [setsT_mk, ones_mk]
    by_cases h : k = 1
    · rw [if_pos h, if_pos h]; rfl
    · rw [if_neg h, if_neg h]; exact setsL_len subs
theorem setsL_len : ∀ ts : List Tree, (setsL ts).length = onesL ts
  | [] => by rw [setsL_nil, onesL_nil]; rfl
  | t :: ts => by rw [setsL_cons, onesL_cons, List.length_append, setsT_len t, setsL_len ts]
end
mutual
theorem ones_le_size : ∀ t : Tree, ones t ≤ size t
  | .mk k set subs => by
    rw [ones_mk, size_mk]
    have := onesL_le_sizeL subs
    split <;> omega
theorem onesL_le_sizeL : ∀ ts : List Tree, onesL ts ≤ sizeL ts
  | [] => by rw [onesL_nil]; omega
  | t :: ts => by rw [onesL_cons, sizeL_cons]; have := ones_le_size t; have := onesL_le_sizeL ts; omega
end

/-- Joined from the right: as a loop over the parts sees it. -/
theorem FirC_snoc (t : Tree) : ∀ (ts : List Tree) (o i : Nat), FirC (ts ++ [t]) o i ↔ FirC ts o i ∨ (empC ts = true ∧ Fir t (o + onesL ts) i)
  | [], o, i => by
    rw [List.nil_append, FirC_cons, FirC_nil, FirC_nil, empC_nil, onesL_nil]
    simp
  | a :: ts, o, i => by
    rw [List.cons_append, FirC_cons, FirC_cons, FirC_snoc t ts, empC_cons, onesL_cons, Nat.add_assoc]
    simp only [Bool.and_eq_true]
    constructor
    · rintro (h | ⟨h1, h2 | ⟨h2, h3⟩⟩)
      · exact Or.inl (Or.inl h)
      · exact Or.inl (Or.inr ⟨h1, h2⟩)
      · exact Or.inr ⟨⟨h1, h2⟩, h3⟩
    · rintro ((h | ⟨h1, h2⟩) | ⟨⟨h1, h2⟩, h3⟩)
      · exact Or.inl h
      · exact Or.inr ⟨h1, Or.inl h2⟩
      · exact Or.inr ⟨h1, Or.inr ⟨h2, h3⟩⟩
theorem FirA_snoc (t : Tree) : ∀ (ts : List Tree) (o i : Nat), FirA (ts ++ [t]) o i ↔ FirA ts o i ∨ Fir t (o + onesL ts) i
  | [], o, i => by
    rw [List.nil_append, FirA_cons, FirA_nil, FirA_nil, onesL_nil]
    simp
  | a :: ts, o, i => by
    rw [List.cons_append, FirA_cons, FirA_cons, FirA_snoc t ts, onesL_cons, Nat.add_assoc, or_assoc]
theorem LasC_snoc (t : Tree) : ∀ (ts : List Tree) (o i : Nat), LasC (ts ++ [t]) o i ↔ (emp t = true ∧ LasC ts o i) ∨ Las t (o + onesL ts) i
  | [], o, i => by
    rw [List.nil_append, LasC_cons, LasC_nil, LasC_nil, empC_nil, onesL_nil]
    simp
  | a :: ts, o, i => by
    rw [List.cons_append, LasC_cons, LasC_cons, LasC_snoc t ts, empC_append, empC_cons, empC_nil, onesL_cons, Nat.add_assoc]
    simp only [Bool.and_true, Bool.and_eq_true]
    constructor
    · rintro (⟨⟨h1, h2⟩, h3⟩ | ⟨h1, h2⟩ | h)
      · exact Or.inl ⟨h2, Or.inl ⟨h1, h3⟩⟩
      · exact Or.inl ⟨h1, Or.inr h2⟩
      · exact Or.inr h
    · rintro (⟨h1, ⟨h2, h3⟩ | h2⟩ | h)
      · exact Or.inl ⟨⟨h2, h1⟩, h3⟩
      · exact Or.inr (Or.inl ⟨h1, h2⟩)
      · exact Or.inr (Or.inr h)
theorem LasA_snoc (t : Tree) : ∀ (ts : List Tree) (o i : Nat), LasA (ts ++ [t]) o i ↔ LasA ts o i ∨ Las t (o + onesL ts) i
  | [], o, i => by
    rw [List.nil_append, LasA_cons, LasA_nil, LasA_nil, onesL_nil]
    simp
  | a :: ts, o, i => by
    rw [List.cons_append, LasA_cons, LasA_cons, LasA_snoc t ts, onesL_cons, Nat.add_assoc, or_assoc]
theorem FolC_snoc (t : Tree) : ∀ (ts : List Tree) (o i j : Nat), FolC (ts ++ [t]) o i j ↔ FolC ts o i j ∨ Fol t (o + onesL ts) i j ∨ (LasC ts o i ∧ Fir t (o + onesL ts) j)
  | [], o, i, j => by
    rw [List.nil_append, FolC_cons, FolC_nil, FolC_nil, FirC_nil, LasC_nil, onesL_nil]
    simp
  | a :: ts, o, i, j => by
    rw [List.cons_append, FolC_cons, FolC_cons, FolC_snoc t ts, FirC_snoc, LasC_cons, onesL_cons, Nat.add_assoc]
    constructor
    · rintro (h | (h | h | ⟨h1, h2⟩) | ⟨h1, h2 | ⟨h2, h3⟩⟩)
      · exact Or.inl (Or.inl h)
      · exact Or.inl (Or.inr (Or.inl h))
      · exact Or.inr (Or.inl h)
      · exact Or.inr (Or.inr ⟨Or.inr h1, h2⟩)
      · exact Or.inl (Or.inr (Or.inr ⟨h1, h2⟩))
      · exact Or.inr (Or.inr ⟨Or.inl ⟨h2, h1⟩, h3⟩)
    · rintro ((h | h | ⟨h1, h2⟩) | h | ⟨⟨h1, h2⟩ | h1, h3⟩)
      · exact Or.inl h
      · exact Or.inr (Or.inl (Or.inl h))
      · exact Or.inr (Or.inr ⟨h1, Or.inl h2⟩)
      · exact Or.inr (Or.inl (Or.inr (Or.inl h)))
      · exact Or.inr (Or.inr ⟨h2, Or.inr ⟨h1, h3⟩⟩)
      · exact Or.inr (Or.inl (Or.inr (Or.inr ⟨h1, h3⟩)))
theorem FolA_snoc (t : Tree) : ∀ (ts : List Tree) (o i j : Nat), FolA (ts ++ [t]) o i j ↔ FolA ts o i j ∨ Fol t (o + onesL ts) i j
  | [], o, i, j => by
    rw [List.nil_append, FolA_cons, FolA_nil, FolA_nil, onesL_nil]
    simp
  | a :: ts, o, i, j => by
    rw [List.cons_append, FolA_cons, FolA_cons, FolA_snoc t ts, onesL_cons, Nat.add_assoc, or_assoc]

/-- Where the positions lie. -/
abbrev In (o n i : Nat) : Prop := o ≤ i ∧ i < o + n
mutual
theorem Fir.in_ : ∀ {t : Tree} {o i : Nat}, Fir t o i → In o (ones t) i
  | .mk k set subs, o, i, h => by
    rw [Fir_mk] at h; rw [ones_mk]
    by_cases h1 : k = 1
    · rw [if_pos h1] at h ⊢; subst h; exact ⟨Nat.le_refl _, by omega⟩
    · rw [if_neg h1] at h ⊢
      by_cases h2 : k = 2
      · rw [if_pos h2] at h; exact FirC.in_ h
      · rw [if_neg h2] at h; exact FirA.in_ h
theorem FirC.in_ : ∀ {ts : List Tree} {o i : Nat}, FirC ts o i → In o (onesL ts) i
  | [], o, i, h => by rw [FirC_nil] at h; exact h.elim
  | t :: ts, o, i, h => by
    rw [FirC_cons] at h; rw [onesL_cons]
    rcases h with h | ⟨_, h⟩
    · have := Fir.in_ h; exact ⟨this.1, by omega⟩
    · have := FirC.in_ h; exact ⟨by omega, by omega⟩
theorem FirA.in_ : ∀ {ts : List Tree} {o i : Nat}, FirA ts o i → In o (onesL ts) i
  | [], o, i, h => by rw [FirA_nil] at h; exact h.elim
  | t :: ts, o, i, h => by
    rw [FirA_cons] at h; rw [onesL_cons]
    rcases h with h | h
    · have := Fir.in_ h; exact ⟨this.1, by omega⟩
    · have := FirA.in_ h; exact ⟨by omega, by omega⟩
end
mutual
theorem Las.in_ : ∀ {t : Tree} {o i : Nat}, Las t o i → In o (ones t) i
  | .mk k set subs, o, i, h => by
    rw [Las_mk] at h; rw [ones_mk]
    by_cases h1 : k = 1
    · rw [if_pos h1] at h ⊢; subst h; exact ⟨Nat.le_refl _, by omega⟩
    · rw [if_neg h1] at h ⊢
      by_cases h2 : k = 2
      · rw [if_pos h2] at h; exact LasC.in_ h
      · rw [if_neg h2] at h; exact LasA.in_ h
theorem LasC.in_ : ∀ {ts : List Tree} {o i : Nat}, LasC ts o i → In o (onesL ts) i
  | [], o, i, h => by rw [LasC_nil] at h; exact h.elim
  | t :: ts, o, i, h => by
    rw [LasC_cons] at h; rw [onesL_cons]
    rcases h with ⟨_, h⟩ | h
    · have := Las.in_ h; exact ⟨this.1, by omega⟩
    · have := LasC.in_ h; exact ⟨by omega, by omega⟩
theorem LasA.in_ : ∀ {ts : List Tree} {o i : Nat}, LasA ts o i → In o (onesL ts) i
  | [], o, i, h => by rw [LasA_nil] at h; exact h.elim
  | t :: ts, o, i, h => by
    rw [LasA_cons] at h; rw [onesL_cons]
    rcases h with h | h
    · have := Las.in_ h; exact ⟨this.1, by omega⟩
    · have := LasA.in_ h; exact ⟨by omega, by omega⟩
end
mutual
theorem Fol.in_ : ∀ {t : Tree} {o i j : Nat}, Fol t o i j → In o (ones t) i ∧ In o (ones t) j
  | .mk k set subs, o, i, j, h => by
    rw [Fol_mk] at h; rw [ones_mk]
    by_cases h1 : k = 1
    · rw [if_pos h1] at h; exact h.elim
    · rw [if_neg h1] at h ⊢
      by_cases h2 : k = 2
      · rw [if_pos h2] at h; exact FolC.in_ h
      · rw [if_neg h2] at h
        by_cases h3 : k = 3
        · rw [if_pos h3] at h; exact FolA.in_ h
        · rw [if_neg h3] at h
          rcases h with h | ⟨h4, h5⟩
          · exact FolA.in_ h
          · exact ⟨LasA.in_ h4, FirA.in_ h5⟩
theorem FolC.in_ : ∀ {ts : List Tree} {o i j : Nat}, FolC ts o i j → In o (onesL ts) i ∧ In o (onesL ts) j
  | [], o, i, j, h => by rw [FolC_nil] at h; exact h.elim
  | t :: ts, o, i, j, h => by
    rw [FolC_cons] at h; rw [onesL_cons]
    rcases h with h | h | ⟨h1, h2⟩
    · have := Fol.in_ h; omega
    · have := FolC.in_ h; omega
    · have := Las.in_ h1; have := FirC.in_ h2; omega
theorem FolA.in_ : ∀ {ts : List Tree} {o i j : Nat}, FolA ts o i j → In o (onesL ts) i ∧ In o (onesL ts) j
  | [], o, i, j, h => by rw [FolA_nil] at h; exact h.elim
  | t :: ts, o, i, j, h => by
    rw [FolA_cons] at h; rw [onesL_cons]
    rcases h with h | h
    · have := Fol.in_ h; omega
    · have := FolA.in_ h; omega
end

/-- Numbers i .. j of a path are taken by positions, one behind the other, the first p, the last q. -/
inductive Run (F : Nat → Nat → Prop) (S : Nat → Nat → Prop) : Nat → Nat → Nat → Nat → Prop where
  | one {i p : Nat} : S p i → Run F S i (i + 1) p p
  | step {i j p q r : Nat} : Run F S i j p q → F q r → S r j → Run F S i (j + 1) p r

theorem Run.mono {F G : Nat → Nat → Prop} {S : Nat → Nat → Prop} (h : ∀ a b, F a b → G a b) {i j p q : Nat} (r : Run F S i j p q) : Run G S i j p q := by
  induction r with
  | one h1 => exact .one h1
  | step _ h2 h3 ih => exact .step ih (h _ _ h2) h3
theorem Run.join {F : Nat → Nat → Prop} {S : Nat → Nat → Prop} {i m p q : Nat} (r : Run F S i m p q) {j p' q' : Nat} (r' : Run F S m j p' q') : F q p' → Run F S i j p q' := by
  induction r' with
  | one h1 => intro h; exact .step r h h1
  | step _ h2 h3 ih => intro h; exact .step (ih h) h2 h3
theorem Run.lt {F : Nat → Nat → Prop} {S : Nat → Nat → Prop} {i j p q : Nat} (r : Run F S i j p q) : i < j := by
  induction r with
  | one _ => omega
  | step _ _ _ ih => omega

/-- The number at a place of the path is in the position's set. -/
def Sat (G : List (List (Int × Int))) (l : List Int) (p i : Nat) : Prop := ∃ s x, G[p]? = some s ∧ l[i]? = some x ∧ inSet s x = true
theorem Run.le {F : Nat → Nat → Prop} {G : List (List (Int × Int))} {l : List Int} {i j p q : Nat} (r : Run F (Sat G l) i j p q) : j ≤ l.length := by
  induction r with
  | one h => obtain ⟨s, x, _, h, _⟩ := h; have := (List.getElem?_eq_some_iff.1 h).1; omega
  | step _ _ h _ => obtain ⟨s, x, _, h, _⟩ := h; have := (List.getElem?_eq_some_iff.1 h).1; omega

/-- Goes by positions. -/
def GoesP (E : Bool) (F : Nat → Nat → Prop) (Fi La : Nat → Prop) (G : List (List (Int × Int))) (l : List Int) (i j : Nat) : Prop :=
  (i = j ∧ j ≤ l.length ∧ E = true) ∨ ∃ p q, Run F (Sat G l) i j p q ∧ Fi p ∧ La q

/-- These are the sets from o on. -/
def Sub (G : List (List (Int × Int))) (o : Nat) (L : List (List (Int × Int))) : Prop := ∀ k s, L[k]? = some s → G[o + k]? = some s
theorem Sub.left {G : List (List (Int × Int))} {o : Nat} {A B : List (List (Int × Int))} (h : Sub G o (A ++ B)) : Sub G o A := fun k s hk => by
  have := (List.getElem?_eq_some_iff.1 hk).1
  exact h k s (by rw [List.getElem?_append_left this]; exact hk)
theorem Sub.right {G : List (List (Int × Int))} {o : Nat} {A B : List (List (Int × Int))} (h : Sub G o (A ++ B)) : Sub G (o + A.length) B := fun k s hk => by
  have := h (A.length + k) s (by rw [List.getElem?_append_right (by omega)]; simpa using hk)
  rw [← Nat.add_assoc] at this
  exact this

theorem goesC_cons (l : List Int) (t : Tree) (ts : List Tree) (i j : Nat) : GoesC l (t :: ts) i j ↔ ∃ m, Goes l t i m ∧ GoesC l ts m j := by
  unfold GoesC Goes
  constructor
  · rintro ⟨h1, h2, h3⟩
    obtain ⟨a, b, e, h4, h5⟩ := (takesCat_cons _ _ _).1 h3
    obtain ⟨m, h6, h7, rfl, rfl⟩ := seg_split l h1 h2 e
    exact ⟨m, ⟨h6, by omega, h4⟩, h7, h2, h5⟩
  · rintro ⟨m, ⟨h1, h2, h3⟩, h4, h5, h6⟩
    exact ⟨by omega, h5, (takesCat_cons _ _ _).2 ⟨_, _, (seg_append l h1 h4).symm, h3, h6⟩⟩

/-- Two parts one behind the other: a run in the one, in the other, or from the one into the other. -/
theorem run_split {F1 F2 F : Nat → Nat → Prop} {S : Nat → Nat → Prop} {o a b : Nat} {L1 F12 : Nat → Prop} (hF : ∀ x y, F x y → F1 x y ∨ F2 x y ∨ (L1 x ∧ F12 y))
    (h1 : ∀ x y, F1 x y → In o a x ∧ In o a y) (h2 : ∀ x y, F2 x y → In (o + a) b x ∧ In (o + a) b y) (hL : ∀ x, L1 x → In o a x) (hR : ∀ x, F12 x → In (o + a) b x)
    {i j p q : Nat} (r : Run F S i j p q) (hp : In o (a + b) p) :
    (In o a p ∧ In o a q ∧ Run F1 S i j p q) ∨ (In (o + a) b p ∧ In (o + a) b q ∧ Run F2 S i j p q) ∨ (In o a p ∧ In (o + a) b q ∧ ∃ m x y, Run F1 S i m p x ∧ L1 x ∧ F12 y ∧ Run F2 S m j y q) := by
  induction r with
  | @one p h =>
    by_cases c : p < o + a
    · exact Or.inl ⟨⟨hp.1, c⟩, ⟨hp.1, c⟩, .one h⟩
    · exact Or.inr (Or.inl ⟨⟨by omega, by omega⟩, ⟨by omega, by omega⟩, .one h⟩)
  | @step j p q r k1 k2 k3 ih =>
    rcases ih hp with ⟨c1, c2, c3⟩ | ⟨c1, c2, c3⟩ | ⟨c1, c2, m, x, y, c3, c4, c5, c6⟩
    · rcases hF _ _ k2 with e | e | ⟨e1, e2⟩
      · exact Or.inl ⟨c1, (h1 _ _ e).2, .step c3 e k3⟩
      · have := (h2 _ _ e).1; omega
      · exact Or.inr (Or.inr ⟨c1, hR _ e2, j, q, r, c3, e1, e2, .one k3⟩)
    · rcases hF _ _ k2 with e | e | ⟨e1, e2⟩
      · have := (h1 _ _ e).1; omega
      · exact Or.inr (Or.inl ⟨c1, (h2 _ _ e).2, .step c3 e k3⟩)
      · have := hL _ e1; omega
    · rcases hF _ _ k2 with e | e | ⟨e1, e2⟩
      · have := (h1 _ _ e).1; omega
      · exact Or.inr (Or.inr ⟨c1, (h2 _ _ e).2, m, x, y, c3, c4, c5, .step c6 e k3⟩)
      · have := hL _ e1; omega

/-- A Star's run: its last stretch within the part. -/
theorem run_star {F1 F : Nat → Nat → Prop} {S : Nat → Nat → Prop} {L1 F12 : Nat → Prop} {C : Nat → Nat → Prop} (hF : ∀ x y, F x y → F1 x y ∨ (L1 x ∧ F12 y))
    (hC : ∀ i j p q, Run F1 S i j p q → F12 p → L1 q → C i j) {i j p q : Nat} (r : Run F S i j p q) (hp : F12 p) : ∃ m y, Chain C i m ∧ F12 y ∧ Run F1 S m j y q := by
  induction r with
  | @one p h => exact ⟨i, p, .refl _, hp, .one h⟩
  | @step j p q r k1 k2 k3 ih =>
    obtain ⟨m, y, c1, c2, c3⟩ := ih hp
    rcases hF _ _ k2 with e | ⟨e1, e2⟩
    · exact ⟨m, y, c1, c2, .step c3 e k3⟩
    · exact ⟨j, r, c1.snoc (hC _ _ _ _ c3 c2 e1), e2, .one k3⟩

mutual
theorem goes_pos {G : List (List (Int × Int))} {l : List Int} : ∀ (t : Tree) (o : Nat), kindsT t = true → Sub G o (setsT t) → ∀ i j, Goes l t i j ↔ GoesP (emp t) (Fol t o) (Fir t o) (Las t o) G l i j
  | .mk k set subs, o, hk, hG, i, j => by
    rw [kindsT_mk] at hk
    simp only [Bool.and_eq_true] at hk
    obtain ⟨hk1, hk2⟩ := hk
    unfold GoesP
    rw [emp_mk]
    by_cases h1 : k = 1
    · subst h1
      have hs : G[o]? = some set := by
        have := hG 0 set (by rw [setsT_mk, if_pos rfl]; rfl)
        simpa using this
      rw [goes_one, if_pos rfl]
      constructor
      · rintro ⟨rfl, x, h2, h3⟩
        exact Or.inr ⟨o, o, .one ⟨set, x, hs, h2, h3⟩, by rw [Fir_mk, if_pos rfl], by rw [Las_mk, if_pos rfl]⟩
      · rintro (⟨_, _, h⟩ | ⟨p, q, h, h2, h3⟩)
        · cases h
        · rw [Fir_mk, if_pos rfl] at h2
          subst h2
          cases h with
          | one h =>
            obtain ⟨s, x, e1, e2, e3⟩ := h
            rw [hs] at e1
            injection e1 with e1
            subst e1
            exact ⟨rfl, x, e2, e3⟩
          | step _ h _ => rw [Fol_mk, if_pos rfl] at h; exact h.elim
    rw [if_neg h1]
    have hG' : Sub G o (setsL subs) := by rw [setsT_mk, if_neg h1] at hG; exact hG
    have eF : Fir (.mk k set subs) o = fun i => if k = 2 then FirC subs o i else FirA subs o i := by funext i; rw [Fir, if_neg h1]
    have eL : Las (.mk k set subs) o = fun i => if k = 2 then LasC subs o i else LasA subs o i := by funext i; rw [Las, if_neg h1]
    by_cases h2 : k = 2
    · subst h2
      have eG : Fol (.mk 2 set subs) o = FolC subs o := by funext i j; rw [Fol, if_neg h1, if_pos rfl]
      rw [goes_cat, if_pos rfl, eF, eL, eG]
      simp only [if_true]
      exact goesC_pos subs o hk2 hG' i j
    rw [if_neg h2]
    by_cases h3 : k = 3
    · subst h3
      have eG : Fol (.mk 3 set subs) o = FolA subs o := by funext i j; rw [Fol, if_neg h1, if_neg h2, if_pos rfl]
      rw [goes_alt, if_pos rfl, eF, eL, eG]
      simp only [h2, if_false]
      exact goesA_pos subs o hk2 hG' i j
    rw [if_neg h3]
    have h4 : k = 4 := by
      unfold okAlone at hk1
      rw [if_neg h1, if_neg (by omega)] at hk1
      by_cases h4 : k = 4
      · exact h4
      · rw [if_neg h4] at hk1; cases hk1
    subst h4
    have hl : subs.length = 1 := by
      unfold okAlone at hk1
      rw [if_neg h1, if_neg (by omega), if_pos rfl] at hk1
      simp at hk1
      exact hk1.2
    match subs, hl with
    | [s], _ =>
      have hks : kindsT s = true := by rw [kindsL_cons] at hk2; simp at hk2; exact hk2.1
      have hGs : Sub G o (setsT s) := by rw [setsL_cons, setsL_nil, List.append_nil] at hG'; exact hG'
      have ih := goes_pos (l := l) s o hks hGs
      have eG : Fol (.mk 4 set [s]) o = fun i j => Fol s o i j ∨ (Las s o i ∧ Fir s o j) := by
        funext i j
        rw [Fol, if_neg h1, if_neg h2, if_neg h3, FolA_cons, FolA_nil, LasA_cons, LasA_nil, FirA_cons, FirA_nil, or_false, or_false, or_false]
      have eF' : Fir (.mk 4 set [s]) o = Fir s o := by rw [eF]; funext i; rw [if_neg h2, FirA_cons, FirA_nil, or_false]
      have eL' : Las (.mk 4 set [s]) o = Las s o := by rw [eL]; funext i; rw [if_neg h2, LasA_cons, LasA_nil, or_false]
      rw [goes_star, eG, eF', eL']
      simp only [and_true]
      constructor
      · rintro ⟨h5, h6⟩
        induction h6 with
        | refl i => exact Or.inl ⟨rfl, h5⟩
        | @step i m j c1 c2 ih2 =>
          have hm : m ≤ l.length := c1.2.1
          rcases (ih i m).1 c1 with ⟨rfl, _, _⟩ | ⟨p, q, r1, r2, r3⟩
          · exact ih2 hm
          · rcases ih2 hm with ⟨rfl, h7⟩ | ⟨p', q', r4, r5, r6⟩
            · exact Or.inr ⟨p, q, r1.mono fun _ _ h => Or.inl h, r2, r3⟩
            · exact Or.inr ⟨p, q', Run.join (r1.mono fun _ _ h => Or.inl h) r4 (Or.inr ⟨r3, r5⟩), r2, r6⟩
      · rintro (⟨rfl, h⟩ | ⟨p, q, r1, r2, r3⟩)
        · exact ⟨h, .refl _⟩
        · obtain ⟨m, y, c1, c2, c3⟩ := run_star (F1 := Fol s o) (L1 := Las s o) (F12 := Fir s o) (C := Goes l s) (fun _ _ h => h) (fun a b p q k1 k2 k3 => (ih a b).2 (Or.inr ⟨p, q, k1, k2, k3⟩)) r1 r2
          have c4 : Goes l s m j := (ih m j).2 (Or.inr ⟨y, q, c3, c2, r3⟩)
          have := r1.lt
          have := r1.le
          exact ⟨by omega, c1.snoc c4⟩
theorem goesC_pos {G : List (List (Int × Int))} {l : List Int} : ∀ (ts : List Tree) (o : Nat), kindsL ts = true → Sub G o (setsL ts) → ∀ i j, GoesC l ts i j ↔ GoesP (empC ts) (FolC ts o) (FirC ts o) (LasC ts o) G l i j
  | [], o, hk, hG, i, j => by
    unfold GoesP
    rw [goesC_nil, empC_nil]
    constructor
    · rintro ⟨rfl, h⟩; exact Or.inl ⟨rfl, h, rfl⟩
    · rintro (⟨rfl, h, _⟩ | ⟨p, q, _, h, _⟩)
      · exact ⟨rfl, h⟩
      · rw [FirC_nil] at h; exact h.elim
  | t :: ts, o, hk, hG, i, j => by
    rw [kindsL_cons] at hk
    simp only [Bool.and_eq_true] at hk
    rw [setsL_cons] at hG
    have hG2 := hG.right
    rw [setsT_len] at hG2
    have ih1 := goes_pos (l := l) t o hk.1 hG.left
    have ih2 := goesC_pos (l := l) ts (o + ones t) hk.2 hG2
    have eF : FolC (t :: ts) o = fun i j => Fol t o i j ∨ FolC ts (o + ones t) i j ∨ (Las t o i ∧ FirC ts (o + ones t) j) := by funext i j; rw [FolC]
    have eFi : FirC (t :: ts) o = fun i => Fir t o i ∨ (emp t = true ∧ FirC ts (o + ones t) i) := by funext i; rw [FirC]
    have eL : LasC (t :: ts) o = fun i => (empC ts = true ∧ Las t o i) ∨ LasC ts (o + ones t) i := by funext i; rw [LasC]
    rw [goesC_cons, eF, eFi, eL, empC_cons]
    constructor
    · rintro ⟨m, h1, h2⟩
      rcases (ih1 i m).1 h1 with ⟨rfl, k1, k2⟩ | ⟨p, q, r1, r2, r3⟩
      · rcases (ih2 i j).1 h2 with ⟨rfl, k3, k4⟩ | ⟨p, q, r1, r2, r3⟩
        · exact Or.inl ⟨rfl, k3, by rw [k2, k4]; rfl⟩
        · exact Or.inr ⟨p, q, r1.mono fun _ _ h => Or.inr (Or.inl h), Or.inr ⟨k2, r2⟩, Or.inr r3⟩
      · rcases (ih2 m j).1 h2 with ⟨rfl, k3, k4⟩ | ⟨p', q', r4, r5, r6⟩
        · exact Or.inr ⟨p, q, r1.mono fun _ _ h => Or.inl h, Or.inl r2, Or.inl ⟨k4, r3⟩⟩
        · exact Or.inr ⟨p, q', Run.join (r1.mono fun _ _ h => Or.inl h) (r4.mono fun _ _ h => Or.inr (Or.inl h)) (Or.inr (Or.inr ⟨r3, r5⟩)), Or.inl r2, Or.inr r6⟩
    · rintro (⟨rfl, h1, h2⟩ | ⟨p, q, r, h1, h2⟩)
      · simp only [Bool.and_eq_true] at h2
        exact ⟨i, (ih1 i i).2 (Or.inl ⟨rfl, h1, h2.1⟩), (ih2 i i).2 (Or.inl ⟨rfl, h1, h2.2⟩)⟩
      · have hp : In o (ones t + onesL ts) p := by
          rcases h1 with h1 | ⟨_, h1⟩
          · have := h1.in_; exact ⟨this.1, by omega⟩
          · have := h1.in_; exact ⟨by omega, by omega⟩
        have hj := r.le
        have hi := r.lt
        rcases run_split (F1 := Fol t o) (F2 := FolC ts (o + ones t)) (L1 := Las t o) (F12 := FirC ts (o + ones t)) (o := o) (a := ones t) (b := onesL ts) (fun _ _ h => h) (fun _ _ h => h.in_) (fun _ _ h => h.in_) (fun _ h => h.in_) (fun _ h => h.in_) r hp with ⟨c1, c2, c3⟩ | ⟨c1, c2, c3⟩ | ⟨c1, c2, m, x, y, c3, c4, c5, c6⟩
        · have k1 : Fir t o p := by
            rcases h1 with h1 | ⟨_, h1⟩
            · exact h1
            · have := h1.in_; omega
          have k2 : empC ts = true ∧ Las t o q := by
            rcases h2 with h2 | h2
            · exact h2
            · have := h2.in_; omega
          exact ⟨j, (ih1 i j).2 (Or.inr ⟨p, q, c3, k1, k2.2⟩), (ih2 j j).2 (Or.inl ⟨rfl, hj, k2.1⟩)⟩
        · have k1 : emp t = true ∧ FirC ts (o + ones t) p := by
            rcases h1 with h1 | h1
            · have := h1.in_; omega
            · exact h1
          have k2 : LasC ts (o + ones t) q := by
            rcases h2 with ⟨_, h2⟩ | h2
            · have := h2.in_; omega
            · exact h2
          exact ⟨i, (ih1 i i).2 (Or.inl ⟨rfl, by omega, k1.1⟩), (ih2 i j).2 (Or.inr ⟨p, q, c3, k1.2, k2⟩)⟩
        · have k1 : Fir t o p := by
            rcases h1 with h1 | ⟨_, h1⟩
            · exact h1
            · have := h1.in_; omega
          have k2 : LasC ts (o + ones t) q := by
            rcases h2 with ⟨_, h2⟩ | h2
            · have := h2.in_; omega
            · exact h2
          exact ⟨m, (ih1 i m).2 (Or.inr ⟨p, x, c3, k1, c4⟩), (ih2 m j).2 (Or.inr ⟨y, q, c6, c5, k2⟩)⟩
theorem goesA_pos {G : List (List (Int × Int))} {l : List Int} : ∀ (ts : List Tree) (o : Nat), kindsL ts = true → Sub G o (setsL ts) → ∀ i j, (∃ (n : Nat) (t : Tree), ts[n]? = some t ∧ Goes l t i j) ↔ GoesP (empA ts) (FolA ts o) (FirA ts o) (LasA ts o) G l i j
  | [], o, hk, hG, i, j => by
    unfold GoesP
    rw [empA_nil]
    constructor
    · rintro ⟨n, t, h, _⟩; simp at h
    · rintro (⟨_, _, h⟩ | ⟨p, q, _, h, _⟩)
      · cases h
      · rw [FirA_nil] at h; exact h.elim
  | t :: ts, o, hk, hG, i, j => by
    rw [kindsL_cons] at hk
    simp only [Bool.and_eq_true] at hk
    rw [setsL_cons] at hG
    have hG2 := hG.right
    rw [setsT_len] at hG2
    have ih1 := goes_pos (l := l) t o hk.1 hG.left
    have ih2 := goesA_pos (l := l) ts (o + ones t) hk.2 hG2
    have eF : FolA (t :: ts) o = fun i j => Fol t o i j ∨ FolA ts (o + ones t) i j := by funext i j; rw [FolA]
    have eFi : FirA (t :: ts) o = fun i => Fir t o i ∨ FirA ts (o + ones t) i := by funext i; rw [FirA]
    have eL : LasA (t :: ts) o = fun i => Las t o i ∨ LasA ts (o + ones t) i := by funext i; rw [LasA]
    have key : (∃ (n : Nat) (t' : Tree), (t :: ts)[n]? = some t' ∧ Goes l t' i j) ↔ Goes l t i j ∨ ∃ (n : Nat) (t' : Tree), ts[n]? = some t' ∧ Goes l t' i j := by
      constructor
      · rintro ⟨n, t', h1, h2⟩
        cases n with
        | zero => simp at h1; subst h1; exact Or.inl h2
        | succ n => exact Or.inr ⟨n, t', by simpa using h1, h2⟩
      · rintro (h | ⟨n, t', h1, h2⟩)
        · exact ⟨0, t, rfl, h⟩
        · exact ⟨n + 1, t', by simpa using h1, h2⟩
    rw [key, ih1 i j, ih2 i j, eF, eFi, eL, empA_cons]
    unfold GoesP
    constructor
    · rintro ((⟨rfl, k1, k2⟩ | ⟨p, q, r1, r2, r3⟩) | (⟨rfl, k1, k2⟩ | ⟨p, q, r1, r2, r3⟩))
      · exact Or.inl ⟨rfl, k1, by rw [k2]; rfl⟩
      · exact Or.inr ⟨p, q, r1.mono fun _ _ h => Or.inl h, Or.inl r2, Or.inl r3⟩
      · exact Or.inl ⟨rfl, k1, by rw [k2, Bool.or_true]⟩
      · exact Or.inr ⟨p, q, r1.mono fun _ _ h => Or.inr h, Or.inr r2, Or.inr r3⟩
    · rintro (⟨rfl, h1, h2⟩ | ⟨p, q, r, h1, h2⟩)
      · simp only [Bool.or_eq_true] at h2
        rcases h2 with h2 | h2
        · exact Or.inl (Or.inl ⟨rfl, h1, h2⟩)
        · exact Or.inr (Or.inl ⟨rfl, h1, h2⟩)
      · have hp : In o (ones t + onesL ts) p := by
          rcases h1 with h1 | h1
          · have := h1.in_; exact ⟨this.1, by omega⟩
          · have := h1.in_; exact ⟨by omega, by omega⟩
        rcases run_split (F1 := Fol t o) (F2 := FolA ts (o + ones t)) (L1 := fun _ => False) (F12 := fun _ => False) (o := o) (a := ones t) (b := onesL ts) (fun _ _ h => h.elim Or.inl fun h => Or.inr (Or.inl h)) (fun _ _ h => h.in_) (fun _ _ h => h.in_) (fun _ h => h.elim) (fun _ h => h.elim) r hp with ⟨c1, c2, c3⟩ | ⟨c1, c2, c3⟩ | ⟨c1, c2, m, x, y, c3, c4, c5, c6⟩
        · left; right
          refine ⟨p, q, c3, ?_, ?_⟩
          · rcases h1 with h1 | h1
            · exact h1
            · have := h1.in_; omega
          · rcases h2 with h2 | h2
            · exact h2
            · have := h2.in_; omega
        · right; right
          refine ⟨p, q, c3, ?_, ?_⟩
          · rcases h1 with h1 | h1
            · have := h1.in_; omega
            · exact h1
          · rcases h2 with h2 | h2
            · have := h2.in_; omega
            · exact h2
        · exact c4.elim
end

theorem Sub.whole (L : List (List (Int × Int))) : Sub L 0 L := fun k s h => by rw [Nat.zero_add]; exact h

/-- What a pattern takes, by its positions. -/
theorem takes_pos (t : Tree) (hk : kindsT t = true) (l : List Int) : takes t l ↔ GoesP (emp t) (Fol t 0) (Fir t 0) (Las t 0) (setsT t) l 0 l.length := by
  rw [← goes_whole, goes_pos t 0 hk (Sub.whole _)]

/-- The positions at which the first n numbers can end. -/
def Reach (F : Nat → Nat → Prop) (Fi : Nat → Prop) (S : Nat → Nat → Prop) (n q : Nat) : Prop := ∃ p, Run F S 0 n p q ∧ Fi p
theorem Reach.one {F : Nat → Nat → Prop} {Fi : Nat → Prop} {S : Nat → Nat → Prop} (q : Nat) : Reach F Fi S 1 q ↔ Fi q ∧ S q 0 := by
  unfold Reach
  constructor
  · rintro ⟨p, h, hf⟩
    cases h with
    | one h => exact ⟨hf, h⟩
    | step h _ _ => have := h.lt; omega
  · rintro ⟨h1, h2⟩; exact ⟨q, .one h2, h1⟩
theorem Reach.succ {F : Nat → Nat → Prop} {Fi : Nat → Prop} {S : Nat → Nat → Prop} (n q : Nat) (hn : 0 < n) : Reach F Fi S (n + 1) q ↔ (∃ p, Reach F Fi S n p ∧ F p q) ∧ S q n := by
  unfold Reach
  constructor
  · rintro ⟨p, h, hf⟩
    cases h with
    | one h => omega
    | step h1 h2 h3 => exact ⟨⟨_, ⟨p, h1, hf⟩, h2⟩, h3⟩
  · rintro ⟨⟨q', ⟨p, h1, h2⟩, h3⟩, h4⟩; exact ⟨p, .step h1 h3 h4, h2⟩

theorem takes_reach (t : Tree) (hk : kindsT t = true) (l : List Int) (hl : l ≠ []) : takes t l ↔ ∃ q, Reach (Fol t 0) (Fir t 0) (Sat (setsT t) l) l.length q ∧ Las t 0 q := by
  rw [takes_pos t hk]
  unfold GoesP Reach
  constructor
  · rintro (⟨h, _⟩ | ⟨p, q, h1, h2, h3⟩)
    · exact absurd (List.length_eq_zero_iff.1 h.symm) hl
    · exact ⟨q, ⟨p, h1, h2⟩, h3⟩
  · rintro ⟨q, ⟨p, h1, h2⟩, h3⟩; exact Or.inr ⟨p, q, h1, h2, h3⟩
theorem takes_nil (t : Tree) (hk : kindsT t = true) : takes t [] ↔ emp t = true := by
  rw [takes_pos t hk]
  unfold GoesP
  constructor
  · rintro (⟨_, _, h⟩ | ⟨p, q, h1, _⟩)
    · exact h
    · have := h1.lt; simp at this
  · intro h; exact Or.inl ⟨rfl, Nat.le_refl _, h⟩

end Go.Proofs.YtjjlkjfhhpogaaaDoor
