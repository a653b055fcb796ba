/-
  Patterns as trees: their parts, how deep they are, which are right, what they take. Plain mathematics.
  Sets of places: four words of 64 bits. Plain mathematics, and how the model reckons with such words.
-/
import Derived.Laws.BitsAllLaws
namespace Go.Proofs.YtjjlkjfhhpogaaaDoor

inductive Tree where
  | mk (k : Int) (set : List (Int × Int)) (subs : List Tree)

mutual
def size : Tree → Nat
  | .mk _ _ subs => sizeL subs + 1
def sizeL : List Tree → Nat
  | [] => 0
  | t :: ts => size t + sizeL ts
end
mutual
def deep : Tree → Nat
  | .mk _ _ subs => deepL subs + 1
def deepL : List Tree → Nat
  | [] => 0
  | t :: ts => max (deep t) (deepL ts)
end

theorem size_mk (k : Int) (set : List (Int × Int)) (subs : List Tree) : size (.mk k set subs) = sizeL subs + 1 := by rw [size]
theorem deep_mk (k : Int) (set : List (Int × Int)) (subs : List Tree) : deep (.mk k set subs) = deepL subs + 1 := by rw [deep]
theorem sizeL_nil : sizeL [] = 0 := by rw [sizeL]
theorem sizeL_cons (t : Tree) (ts : List Tree) : sizeL (t :: ts) = size t + sizeL ts := by rw [sizeL]
theorem deepL_nil : deepL [] = 0 := by rw [deepL]
theorem deepL_cons (t : Tree) (ts : List Tree) : deepL (t :: ts) = max (deep t) (deepL ts) := by rw [deepL]

theorem sizeL_append (a b : List Tree) : sizeL (a ++ b) = sizeL a + sizeL b := by
  induction a with
  | nil => simp [sizeL_nil]
  | cons t ts ih => rw [List.cons_append, sizeL_cons, sizeL_cons, ih]; omega
theorem deepL_append (a b : List Tree) : deepL (a ++ b) = max (deepL a) (deepL b) := by
  induction a with
  | nil => simp [deepL_nil]
  | cons t ts ih => rw [List.cons_append, deepL_cons, deepL_cons, ih]; omega
theorem size_pos (t : Tree) : 0 < size t := by cases t; rw [size_mk]; omega

theorem size_le_of_at : ∀ {ts : List Tree} {k : Nat} {t : Tree}, ts[k]? = some t → size t ≤ sizeL ts
  | [], _, _, h => by simp at h
  | a :: ts, 0, t, h => by simp at h; subst h; rw [sizeL_cons]; omega
  | a :: ts, k + 1, t, h => by
    have := size_le_of_at (ts := ts) (k := k) (t := t) (by simpa using h)
    rw [sizeL_cons]; omega
theorem deep_le_of_at : ∀ {ts : List Tree} {k : Nat} {t : Tree}, ts[k]? = some t → deep t ≤ deepL ts
  | [], _, _, h => by simp at h
  | a :: ts, 0, t, h => by simp at h; subst h; rw [deepL_cons]; omega
  | a :: ts, k + 1, t, h => by
    have := deep_le_of_at (ts := ts) (k := k) (t := t) (by simpa using h)
    rw [deepL_cons]; omega

theorem take_succ_of {α : Type} {l : List α} {k : Nat} {x : α} (hx : l[k]? = some x) : l.take (k + 1) = l.take k ++ [x] := by
  rw [List.take_add_one, hx]; rfl
theorem drop_of {α : Type} {l : List α} {k : Nat} {x : α} (hx : l[k]? = some x) : l.drop k = x :: l.drop (k + 1) := by
  obtain ⟨hi, rfl⟩ := List.getElem?_eq_some_iff.1 hx
  exact List.drop_eq_getElem_cons hi

theorem sizeL_take {ts : List Tree} {k : Nat} {t : Tree} (h : ts[k]? = some t) : sizeL (ts.take (k + 1)) = sizeL (ts.take k) + size t := by
  rw [take_succ_of h, sizeL_append, sizeL_cons, sizeL_nil]; rfl
theorem deepL_take {ts : List Tree} {k : Nat} {t : Tree} (h : ts[k]? = some t) : deepL (ts.take (k + 1)) = max (deepL (ts.take k)) (deep t) := by
  rw [take_succ_of h, deepL_append, deepL_cons, deepL_nil]; omega
theorem sizeL_take_le (ts : List Tree) (k : Nat) : sizeL (ts.take k) ≤ sizeL ts := by
  have := sizeL_append (ts.take k) (ts.drop k)
  rw [List.take_append_drop] at this
  omega
theorem deepL_take_le (ts : List Tree) (k : Nat) : deepL (ts.take k) ≤ deepL ts := by
  have := deepL_append (ts.take k) (ts.drop k)
  rw [List.take_append_drop] at this
  omega
theorem length_le_sizeL (ts : List Tree) : ts.length ≤ sizeL ts := by
  induction ts with
  | nil => simp
  | cons t ts ih => have := size_pos t; rw [sizeL_cons, List.length_cons]; omega

mutual
theorem deep_le_size : ∀ t : Tree, deep t ≤ size t
  | .mk k s subs => by rw [deep_mk, size_mk]; have := deepL_le_sizeL subs; omega
theorem deepL_le_sizeL : ∀ ts : List Tree, deepL ts ≤ sizeL ts
  | [] => by rw [deepL_nil]; omega
  | t :: ts => by rw [deepL_cons, sizeL_cons]; have := deep_le_size t; have := deepL_le_sizeL ts; omega
end

/-- May a part be, whatever its Subs are? -/
def okAlone (k : Int) (ns nb : Nat) : Bool :=
  if k = 1 then decide (nb = 0) && decide (ns ≤ 256) else if k = 2 ∨ k = 3 then decide (ns = 0) else if k = 4 then decide (ns = 0) && decide (nb = 1) else false

mutual
def kindsT : Tree → Bool
  | .mk k set subs => okAlone k set.length subs.length && kindsL subs
def kindsL : List Tree → Bool
  | [] => true
  | t :: ts => kindsT t && kindsL ts
end
theorem kindsT_mk (k : Int) (set : List (Int × Int)) (subs : List Tree) : kindsT (.mk k set subs) = (okAlone k set.length subs.length && kindsL subs) := by rw [kindsT]
theorem kindsL_nil : kindsL [] = true := by rw [kindsL]
theorem kindsL_cons (t : Tree) (ts : List Tree) : kindsL (t :: ts) = (kindsT t && kindsL ts) := by rw [kindsL]
theorem kindsT_of_at : ∀ {ts : List Tree} {k : Nat} {t : Tree}, kindsL ts = true → ts[k]? = some t → kindsT t = true
  | [], _, _, _, h => by simp at h
  | a :: ts, 0, t, hk, h => by simp at h; subst h; rw [kindsL_cons] at hk; simp at hk; exact hk.1
  | a :: ts, k + 1, t, hk, h => by
    rw [kindsL_cons] at hk; simp at hk
    exact kindsT_of_at (ts := ts) (k := k) hk.2 (by simpa using h)

/-- Is a pattern right? -/
def rightT (t : Tree) : Bool := decide (size t ≤ 200) && (decide (deep t ≤ 40) && kindsT t)

/-- The room that is left behind a part: as the program reckons it. -/
def roomT (t : Tree) (d left : Int) : Int := if kindsT t = true ∧ d + deep t ≤ 41 ∧ (size t : Int) ≤ left then left - size t else -1
def roomL (ts : List Tree) (d left : Int) : Int := if kindsL ts = true ∧ (ts = [] ∨ d + deepL ts ≤ 41) ∧ (sizeL ts : Int) ≤ left then left - sizeL ts else -1

theorem roomL_nil (d left : Int) (h : 0 ≤ left) : roomL [] d left = left := by
  unfold roomL
  rw [if_pos ⟨kindsL_nil, Or.inl rfl, by rw [sizeL_nil]; omega⟩, sizeL_nil]
  omega

theorem roomL_cons (t : Tree) (ts : List Tree) (d left : Int) : roomL (t :: ts) d left = if roomT t d left < 0 then -1 else roomL ts d (roomT t d left) := by
  unfold roomL roomT
  have p1 := size_pos t
  by_cases c : kindsT t = true ∧ d + deep t ≤ 41 ∧ (size t : Int) ≤ left
  · have e0 : (if kindsT t = true ∧ d + deep t ≤ 41 ∧ (size t : Int) ≤ left then left - size t else -1) = left - size t := if_pos c
    rw [e0, if_neg (show ¬ (left - (size t : Int) < 0) by omega), kindsL_cons, deepL_cons, sizeL_cons]
    clear e0
    obtain ⟨c1, c2, c3⟩ := c
    by_cases e : kindsL ts = true ∧ (ts = [] ∨ d + deepL ts ≤ 41) ∧ (sizeL ts : Int) ≤ left - size t
    · obtain ⟨e1, e2, e3⟩ := e
      have : d + ((max (deep t) (deepL ts) : Nat) : Int) ≤ 41 := by
        rcases e2 with rfl | e2
        · rw [deepL_nil]; omega
        · omega
      rw [if_pos ⟨by simp [c1, e1], Or.inr this, by omega⟩, if_pos ⟨e1, e2, e3⟩]
      omega
    · rw [if_neg e, if_neg]
      rintro ⟨f1, f2, f3⟩
      simp at f1
      rcases f2 with f2 | f2
      · simp at f2
      · exact e ⟨f1.2, Or.inr (by omega), by omega⟩
  · have e0 : (if kindsT t = true ∧ d + deep t ≤ 41 ∧ (size t : Int) ≤ left then left - size t else -1) = -1 := if_neg c
    rw [e0, if_pos (show (-1 : Int) < 0 by omega), if_neg]
    clear e0
    rintro ⟨f1, f2, f3⟩
    rw [kindsL_cons] at f1
    rw [deepL_cons] at f2
    rw [sizeL_cons] at f3
    simp at f1 f2
    exact c ⟨f1.1, by omega, by omega⟩

theorem roomT_mk (k : Int) (set : List (Int × Int)) (subs : List Tree) (d left : Int) :
    roomT (.mk k set subs) d left = if left = 0 ∨ 40 < d ∨ okAlone k set.length subs.length = false then -1 else roomL subs (d + 1) (left - 1) := by
  unfold roomT roomL
  rw [kindsT_mk, deep_mk, size_mk]
  by_cases c : left = 0 ∨ 40 < d ∨ okAlone k set.length subs.length = false
  · rw [if_pos c, if_neg]
    rintro ⟨f1, f2, f3⟩
    simp at f1
    rcases c with c | c | c
    · omega
    · omega
    · rw [f1.1] at c; cases c
  · rw [if_neg c]
    have c1 : left ≠ 0 := fun e => c (Or.inl e)
    have c2 : ¬ 40 < d := fun e => c (Or.inr (Or.inl e))
    have c3 : okAlone k set.length subs.length = true := by
      cases e : okAlone k set.length subs.length
      · exact absurd (Or.inr (Or.inr e)) c
      · rfl
    rw [c3, Bool.true_and]
    by_cases e : kindsL subs = true ∧ (subs = [] ∨ d + 1 + deepL subs ≤ 41) ∧ (sizeL subs : Int) ≤ left - 1
    · obtain ⟨e1, e2, e3⟩ := e
      have : d + ((deepL subs + 1 : Nat) : Int) ≤ 41 := by
        rcases e2 with rfl | e2
        · rw [deepL_nil]; omega
        · omega
      rw [if_pos ⟨e1, this, by omega⟩, if_pos ⟨e1, e2, e3⟩]
      omega
    · rw [if_neg e, if_neg]
      rintro ⟨f1, f2, f3⟩
      exact e ⟨f1, Or.inr (by omega), by omega⟩

theorem roomT_right (t : Tree) : decide (0 ≤ roomT t 1 200) = rightT t := by
  unfold roomT rightT
  by_cases c : kindsT t = true ∧ (1 : Int) + deep t ≤ 41 ∧ (size t : Int) ≤ 200
  · rw [if_pos c]
    obtain ⟨c1, c2, c3⟩ := c
    have h1 : size t ≤ 200 := by omega
    have h2 : deep t ≤ 40 := by omega
    simp [c1, h1, h2]
    omega
  · rw [if_neg c]
    cases h : kindsT t
    · simp
    · by_cases h1 : size t ≤ 200
      · by_cases h2 : deep t ≤ 40
        · exact absurd ⟨h, by omega, by omega⟩ c
        · simp [h2]
      · simp [h1]

theorem roomT_neg (t : Tree) (d left : Int) : roomT t d left < 0 → roomT t d left = -1 := by
  unfold roomT
  split
  · omega
  · intro _; rfl

theorem right_parts {t : Tree} (h : rightT t = true) : size t ≤ 200 ∧ deep t ≤ 40 ∧ kindsT t = true := by
  unfold rightT at h
  simp at h
  exact h

/-- Is a number in a set? -/
def inSet (set : List (Int × Int)) (n : Int) : Bool := set.any fun s => decide (s.1 ≤ n) && decide (n ≤ s.2)

/-- Any number of paths one behind the other. -/
inductive StarL (P : List Int → Prop) : List Int → Prop where
  | nil : StarL P []
  | cons {a b : List Int} : P a → StarL P b → StarL P (a ++ b)

mutual
/-- A pattern takes a path. -/
def takes : Tree → List Int → Prop
  | .mk k set subs, s => (k = 1 ∧ ∃ n, s = [n] ∧ inSet set n = true) ∨ (k = 2 ∧ takesCat subs s) ∨ (k = 3 ∧ takesAlt subs s) ∨ (k = 4 ∧ StarL (takesAlt subs) s)
def takesCat : List Tree → List Int → Prop
  | [], s => s = []
  | t :: ts, s => ∃ a b, s = a ++ b ∧ takes t a ∧ takesCat ts b
def takesAlt : List Tree → List Int → Prop
  | [], _ => False
  | t :: ts, s => takes t s ∨ takesAlt ts s
end
theorem takes_mk (k : Int) (set : List (Int × Int)) (subs : List Tree) (s : List Int) : takes (.mk k set subs) s ↔ ((k = 1 ∧ ∃ n, s = [n] ∧ inSet set n = true) ∨ (k = 2 ∧ takesCat subs s) ∨ (k = 3 ∧ takesAlt subs s) ∨ (k = 4 ∧ StarL (takesAlt subs) s)) := by rw [takes]
theorem takesCat_nil (s : List Int) : takesCat [] s ↔ s = [] := by rw [takesCat]
theorem takesCat_cons (t : Tree) (ts : List Tree) (s : List Int) : takesCat (t :: ts) s ↔ ∃ a b, s = a ++ b ∧ takes t a ∧ takesCat ts b := by rw [takesCat]
theorem takesAlt_nil (s : List Int) : takesAlt [] s ↔ False := by rw [takesAlt]
theorem takesAlt_cons (t : Tree) (ts : List Tree) (s : List Int) : takesAlt (t :: ts) s ↔ takes t s ∨ takesAlt ts s := by rw [takesAlt]

theorem takesCat_append (a b : List Tree) : ∀ s, takesCat (a ++ b) s ↔ ∃ x y, s = x ++ y ∧ takesCat a x ∧ takesCat b y := by
  induction a with
  | nil =>
    intro s
    constructor
    · intro h; exact ⟨[], s, rfl, (takesCat_nil _).2 rfl, h⟩
    · rintro ⟨x, y, rfl, h1, h2⟩
      rw [takesCat_nil] at h1
      subst h1
      exact h2
  | cons t ts ih =>
    intro s
    rw [List.cons_append, takesCat_cons]
    constructor
    · rintro ⟨x, y, rfl, h1, h2⟩
      obtain ⟨u, v, rfl, h3, h4⟩ := (ih y).1 h2
      exact ⟨x ++ u, v, by simp, (takesCat_cons _ _ _).2 ⟨x, u, rfl, h1, h3⟩, h4⟩
    · rintro ⟨x, y, rfl, h1, h2⟩
      obtain ⟨u, v, rfl, h3, h4⟩ := (takesCat_cons _ _ _).1 h1
      exact ⟨u, v ++ y, by simp, h3, (ih _).2 ⟨v, y, rfl, h4, h2⟩⟩

theorem takesAlt_iff (ts : List Tree) (s : List Int) : takesAlt ts s ↔ ∃ (i : Nat) (t : Tree), ts[i]? = some t ∧ takes t s := by
  induction ts with
  | nil => rw [takesAlt_nil]; simp
  | cons t ts ih =>
    rw [takesAlt_cons, ih]
    constructor
    · rintro (h | ⟨i, u, h1, h2⟩)
      · exact ⟨0, t, rfl, h⟩
      · exact ⟨i + 1, u, by simpa using h1, h2⟩
    · rintro ⟨i, u, h1, h2⟩
      cases i with
      | zero => simp at h1; subst h1; exact Or.inl h2
      | succ i => exact Or.inr ⟨i, u, by simpa using h1, h2⟩

/-- A stretch of a path. -/
def seg (l : List Int) (i j : Nat) : List Int := (l.drop i).take (j - i)

theorem seg_self (l : List Int) (i : Nat) : seg l i i = [] := by simp [seg]
theorem seg_length (l : List Int) {i j : Nat} (h : j ≤ l.length) : (seg l i j).length = j - i := by simp [seg]; omega
theorem seg_all (l : List Int) : seg l 0 l.length = l := by simp [seg]
theorem seg_append (l : List Int) {i m j : Nat} (h1 : i ≤ m) (h2 : m ≤ j) : seg l i m ++ seg l m j = seg l i j := by
  unfold seg
  have e : l.drop m = (l.drop i).drop (m - i) := by rw [List.drop_drop]; congr 1; omega
  rw [e]
  have : j - i = (m - i) + (j - m) := by omega
  rw [this, List.take_add]
theorem seg_one (l : List Int) {i : Nat} {x : Int} (h : l[i]? = some x) : seg l i (i + 1) = [x] := by
  unfold seg
  rw [drop_of h]
  simp
theorem seg_split (l : List Int) {i j : Nat} {a b : List Int} (hij : i ≤ j) (hj : j ≤ l.length) (h : seg l i j = a ++ b) : ∃ m, i ≤ m ∧ m ≤ j ∧ a = seg l i m ∧ b = seg l m j := by
  have hl := congrArg List.length h
  rw [seg_length l hj, List.length_append] at hl
  refine ⟨i + a.length, by omega, by omega, ?_⟩
  have e := seg_append l (i := i) (m := i + a.length) (j := j) (by omega) (by omega)
  rw [h] at e
  have := List.append_inj e (by rw [seg_length l (by omega)]; omega)
  exact ⟨this.1.symm, this.2.symm⟩

/-- A pattern goes from a place to another one. -/
def Goes (l : List Int) (t : Tree) (i j : Nat) : Prop := i ≤ j ∧ j ≤ l.length ∧ takes t (seg l i j)
def GoesC (l : List Int) (ts : List Tree) (i j : Nat) : Prop := i ≤ j ∧ j ≤ l.length ∧ takesCat ts (seg l i j)

theorem seg_eq_nil (l : List Int) {i j : Nat} (hij : i ≤ j) (hj : j ≤ l.length) : seg l i j = [] ↔ i = j := by
  constructor
  · intro h
    have := congrArg List.length h
    rw [seg_length l hj] at this
    simp at this
    omega
  · rintro rfl; exact seg_self _ _

theorem goesC_nil (l : List Int) (i j : Nat) : GoesC l [] i j ↔ i = j ∧ j ≤ l.length := by
  unfold GoesC
  constructor
  · rintro ⟨h1, h2, h3⟩
    exact ⟨(seg_eq_nil l h1 h2).1 ((takesCat_nil _).1 h3), h2⟩
  · rintro ⟨rfl, h⟩
    exact ⟨Nat.le_refl _, h, (takesCat_nil _).2 (seg_self _ _)⟩

theorem goesC_snoc (l : List Int) (ts : List Tree) (t : Tree) (i j : Nat) : GoesC l (ts ++ [t]) i j ↔ ∃ m, GoesC l ts i m ∧ Goes l t m j := by
  unfold GoesC Goes
  constructor
  · rintro ⟨h1, h2, h3⟩
    obtain ⟨a, b, e, h4, h5⟩ := (takesCat_append _ _ _).1 h3
    obtain ⟨m, h6, h7, rfl, rfl⟩ := seg_split l h1 h2 e
    obtain ⟨c, d, e2, h8, h9⟩ := (takesCat_cons _ _ _).1 h5
    rw [takesCat_nil] at h9
    subst h9
    rw [List.append_nil] at e2
    subst e2
    exact ⟨m, ⟨h6, by omega, h4⟩, h7, h2, h8⟩
  · rintro ⟨m, ⟨h1, h2, h3⟩, h4, h5, h6⟩
    refine ⟨by omega, h5, (takesCat_append _ _ _).2 ⟨_, _, (seg_append l h1 h4).symm, h3, ?_⟩⟩
    exact (takesCat_cons _ _ _).2 ⟨_, [], by simp, h6, (takesCat_nil _).2 rfl⟩

theorem goes_one (l : List Int) (set : List (Int × Int)) (subs : List Tree) (i j : Nat) : Goes l (.mk 1 set subs) i j ↔ j = i + 1 ∧ ∃ x, l[i]? = some x ∧ inSet set x = true := by
  unfold Goes
  rw [takes_mk]
  constructor
  · rintro ⟨h1, h2, h3⟩
    rcases h3 with ⟨_, n, h3, h4⟩ | ⟨h, _⟩ | ⟨h, _⟩ | ⟨h, _⟩
    · have := congrArg List.length h3
      rw [seg_length l h2] at this
      simp at this
      have e : j = i + 1 := by omega
      subst e
      obtain ⟨x, hx⟩ : ∃ x, l[i]? = some x := ⟨_, List.getElem?_eq_getElem (by omega)⟩
      rw [seg_one l hx] at h3
      simp at h3
      subst h3
      exact ⟨rfl, x, hx, h4⟩
    · cases h
    · cases h
    · cases h
  · rintro ⟨rfl, x, hx, h⟩
    have := (List.getElem?_eq_some_iff.1 hx).1
    exact ⟨by omega, by omega, Or.inl ⟨rfl, x, seg_one l hx, h⟩⟩

theorem goes_cat (l : List Int) (set : List (Int × Int)) (subs : List Tree) (i j : Nat) : Goes l (.mk 2 set subs) i j ↔ GoesC l subs i j := by
  unfold Goes GoesC
  rw [takes_mk]
  constructor
  · rintro ⟨h1, h2, h3⟩
    rcases h3 with ⟨h, _⟩ | ⟨_, h⟩ | ⟨h, _⟩ | ⟨h, _⟩
    · cases h
    · exact ⟨h1, h2, h⟩
    · cases h
    · cases h
  · rintro ⟨h1, h2, h3⟩
    exact ⟨h1, h2, Or.inr (Or.inl ⟨rfl, h3⟩)⟩

theorem goes_alt (l : List Int) (set : List (Int × Int)) (subs : List Tree) (i j : Nat) : Goes l (.mk 3 set subs) i j ↔ ∃ (n : Nat) (t : Tree), subs[n]? = some t ∧ Goes l t i j := by
  unfold Goes
  rw [takes_mk]
  constructor
  · rintro ⟨h1, h2, h3⟩
    rcases h3 with ⟨h, _⟩ | ⟨h, _⟩ | ⟨_, h⟩ | ⟨h, _⟩
    · cases h
    · cases h
    · obtain ⟨n, t, h4, h5⟩ := (takesAlt_iff _ _).1 h
      exact ⟨n, t, h4, h1, h2, h5⟩
    · cases h
  · rintro ⟨n, t, h4, h1, h2, h5⟩
    exact ⟨h1, h2, Or.inr (Or.inr (Or.inl ⟨rfl, (takesAlt_iff _ _).2 ⟨n, t, h4, h5⟩⟩))⟩

/-- Any number of steps. -/
inductive Chain (R : Nat → Nat → Prop) : Nat → Nat → Prop where
  | refl (i : Nat) : Chain R i i
  | step {i m j : Nat} : R i m → Chain R m j → Chain R i j
theorem Chain.snoc {R : Nat → Nat → Prop} {i m j : Nat} (h : Chain R i m) (k : R m j) : Chain R i j := by
  induction h with
  | refl i => exact .step k (.refl _)
  | step h1 _ ih => exact .step h1 (ih k)

theorem chain_le {l : List Int} {t : Tree} {i j : Nat} (h : Chain (Goes l t) i j) : i ≤ j ∧ (i ≤ l.length → j ≤ l.length) := by
  induction h with
  | refl i => exact ⟨Nat.le_refl _, id⟩
  | step h1 _ ih => exact ⟨by have := h1.1; omega, fun _ => ih.2 h1.2.1⟩

theorem takesAlt_one (t : Tree) (s : List Int) : takesAlt [t] s ↔ takes t s := by rw [takesAlt_cons, takesAlt_nil, or_false]

theorem star_chain {l : List Int} {t : Tree} {s : List Int} (h : StarL (takesAlt [t]) s) : ∀ {i j : Nat}, i ≤ j → j ≤ l.length → s = seg l i j → Chain (Goes l t) i j := by
  induction h with
  | nil =>
    intro i j hij hj e
    rw [(seg_eq_nil l hij hj).1 e.symm]
    exact .refl _
  | @cons a b ha _ ih =>
    intro i j hij hj e
    obtain ⟨m, h1, h2, rfl, rfl⟩ := seg_split l hij hj e.symm
    exact .step ⟨h1, by omega, (takesAlt_one _ _).1 ha⟩ (ih h2 hj rfl)

theorem chain_star {l : List Int} {t : Tree} {i j : Nat} (h : Chain (Goes l t) i j) : StarL (takesAlt [t]) (seg l i j) := by
  induction h with
  | refl i => rw [seg_self]; exact .nil
  | step h1 h2 ih =>
    rw [← seg_append l h1.1 (chain_le h2).1]
    exact .cons ((takesAlt_one _ _).2 h1.2.2) ih

theorem goes_star (l : List Int) (set : List (Int × Int)) (t : Tree) (i j : Nat) : Goes l (.mk 4 set [t]) i j ↔ i ≤ l.length ∧ Chain (Goes l t) i j := by
  unfold Goes
  rw [takes_mk]
  constructor
  · rintro ⟨h1, h2, h3⟩
    rcases h3 with ⟨h, _⟩ | ⟨h, _⟩ | ⟨h, _⟩ | ⟨_, h⟩
    · cases h
    · cases h
    · cases h
    · exact ⟨by omega, star_chain h h1 h2 rfl⟩
  · rintro ⟨h1, h2⟩
    exact ⟨(chain_le h2).1, (chain_le h2).2 h1, Or.inr (Or.inr (Or.inr ⟨rfl, chain_star h2⟩))⟩

theorem goes_whole (l : List Int) (t : Tree) : Goes l t 0 l.length ↔ takes t l := by
  unfold Goes
  rw [seg_all]
  simp

/-- A Star by a front that isn't empty, and the rest. -/
theorem star_front (P : List Int → Prop) (s : List Int) : StarL P s ↔ s = [] ∨ ∃ a b, s = a ++ b ∧ a ≠ [] ∧ P a ∧ StarL P b := by
  constructor
  · intro h
    induction h with
    | nil => exact Or.inl rfl
    | @cons a b ha hb ih =>
      by_cases e : a = []
      · subst e
        simpa using ih
      · exact Or.inr ⟨a, b, rfl, e, ha, hb⟩
  · rintro (rfl | ⟨a, b, rfl, _, ha, hb⟩)
    · exact .nil
    · exact .cons ha hb

end Go.Proofs.YtjjlkjfhhpogaaaDoor

namespace Go.Proofs.YtjjlkjfhhpogaaaDoor

/-- A word, as a number. -/
def u (x : BitVec 64) : Int := (x.toNat : Int)
theorem u_inj {x y : BitVec 64} (h : u x = u y) : x = y := BitVec.eq_of_toNat_eq (by unfold u at h; omega)
theorem u_zero : u 0 = 0 := rfl
theorem u_range (x : BitVec 64) : 0 ≤ u x ∧ u x < 18446744073709551616 := by unfold u; have := x.isLt; omega

theorem u_or (x y : BitVec 64) : bits .or .u64 (u x) (u y) = u (x ||| y) := by
  unfold u; rw [u64_or_nat _ _ (by have := x.isLt; omega) (by have := y.isLt; omega), BitVec.toNat_or]
theorem u_and (x y : BitVec 64) : bits .and .u64 (u x) (u y) = u (x &&& y) := by
  unfold u; rw [u64_and_nat _ _ (by have := x.isLt; omega) (by have := y.isLt; omega), BitVec.toNat_and]
theorem u_andNot (x y : BitVec 64) : bits .andNot .u64 (u x) (u y) = u (x &&& ~~~y) := by
  unfold u; rw [u64_andNot_nat _ _ (by have := x.isLt; omega) (by have := y.isLt; omega), BitVec.toNat_and, BitVec.toNat_not]
theorem u_shl (x : BitVec 64) (n : Nat) : IntKind.u64.wrap (u x * 2 ^ n) = u (x <<< n) := by
  unfold u
  rw [IntKind.wrap_u64, BitVec.toNat_shiftLeft, Nat.shiftLeft_eq]
  have : ((x.toNat : Int) * 2 ^ n) = ((x.toNat * 2 ^ n : Nat) : Int) := by simp
  rw [this]
  omega
theorem u_shr (x : BitVec 64) (n : Nat) : u x / 2 ^ n = u (x >>> n) := by
  unfold u
  rw [BitVec.toNat_ushiftRight, Nat.shiftRight_eq_div_pow]
  simp
theorem u_sub1 (x : BitVec 64) (h : x ≠ 0) : IntKind.u64.wrap (u x - 1) = u (x - 1) := by
  unfold u
  have h0 : x.toNat ≠ 0 := fun e => h (BitVec.eq_of_toNat_eq (by simpa using e))
  have := x.isLt
  rw [IntKind.wrap_u64, BitVec.toNat_sub]
  simp
  omega
theorem u_neg (x : BitVec 64) : IntKind.u64.wrap (-(u x)) = u (-x) := by
  unfold u
  have := x.isLt
  rw [IntKind.wrap_u64, BitVec.toNat_neg]
  omega
theorem u_mul (x y : BitVec 64) : IntKind.u64.wrap (u x * u y) = u (x * y) := by
  unfold u
  rw [IntKind.wrap_u64, BitVec.toNat_mul]
  have : ((x.toNat : Int) * (y.toNat : Int)) = ((x.toNat * y.toNat : Nat) : Int) := by simp
  rw [this]
  omega
theorem u_one_shl (n : Nat) : IntKind.u64.wrap (1 * 2 ^ n) = u ((1 : BitVec 64) <<< n) := u_shl 1 n

/-- The lowest bit of a word, and the word without it. -/
theorem lowest (x : BitVec 64) (h : x ≠ 0) : ∃ k, k < 64 ∧ x.getLsbD k = true ∧ x &&& -x = (1 : BitVec 64) <<< k ∧ ∀ j, (x &&& (x - 1)).getLsbD j = (x.getLsbD j && decide (j ≠ k)) := by
  have h0 : x.toNat ≠ 0 := fun e => h (BitVec.eq_of_toNat_eq (by simpa using e))
  have ex : ∀ n : Nat, n ≠ 0 → ∃ k m, n = 2 ^ k * (2 * m + 1) := by
    intro n
    induction n using Nat.strongRecOn with
    | ind n ih =>
      intro hn
      by_cases e : n % 2 = 0
      · obtain ⟨k, m, hkm⟩ := ih (n / 2) (by omega) (by omega)
        refine ⟨k + 1, m, ?_⟩
        have : n = 2 * (n / 2) := by omega
        rw [this, hkm, Nat.pow_succ, Nat.mul_comm (2 ^ k) 2, Nat.mul_assoc]
      · exact ⟨0, n / 2, by omega⟩
  obtain ⟨k, m, hkm⟩ := ex x.toNat h0
  have hx := x.isLt
  have hk : k < 64 := by
    rcases Nat.lt_or_ge k 64 with h | h
    · exact h
    · exfalso
      have h1 := Nat.pow_le_pow_right (show 0 < 2 by omega) h
      have h2 : 2 ^ k * 1 ≤ 2 ^ k * (2 * m + 1) := Nat.mul_le_mul_left _ (by omega)
      omega
  have hp := Nat.two_pow_pos k
  have hx1 : (x - 1).toNat = 2 ^ k * (2 * m) + (2 ^ k - 1) := by
    have e : (x - 1).toNat = x.toNat - 1 := by
      rw [BitVec.toNat_sub]
      simp
      omega
    rw [e, hkm, Nat.mul_add]
    omega
  have bx : ∀ j, x.getLsbD j = (if j < k then false else if j = k then true else (2 * m).testBit (j - k)) := by
    intro j
    rw [← BitVec.testBit_toNat, hkm, Nat.testBit_two_pow_mul]
    by_cases c : j < k
    · rw [if_pos c]; simp; omega
    · rw [if_neg c]
      by_cases d : j = k
      · rw [if_pos d]; subst d; simp
      · rw [if_neg d]
        have : j - k = (j - k - 1) + 1 := by omega
        rw [this, Nat.testBit_succ, Nat.testBit_succ]
        have e1 : (2 * m + 1) / 2 = m := by omega
        have e2 : 2 * m / 2 = m := by omega
        rw [e1, e2]
        simp
        omega
  have by1 : ∀ j, (x - 1).getLsbD j = (if j < k then true else if j = k then false else (2 * m).testBit (j - k)) := by
    intro j
    rw [← BitVec.testBit_toNat, hx1, Nat.testBit_two_pow_mul_add _ (by omega)]
    by_cases c : j < k
    · rw [if_pos c, if_pos c, Nat.testBit_two_pow_sub_one]; simp [c]
    · rw [if_neg c, if_neg c]
      by_cases d : j = k
      · rw [if_pos d]; subst d; simp
      · rw [if_neg d]
  have hneg : -x = ~~~(x - 1) := by
    apply BitVec.eq_of_toNat_eq
    rw [BitVec.toNat_neg, BitVec.toNat_not, BitVec.toNat_sub]
    simp
    omega
  refine ⟨k, hk, by rw [bx]; simp, ?_, ?_⟩
  · apply BitVec.eq_of_getLsbD_eq
    intro j hj
    rw [BitVec.getLsbD_and, hneg, BitVec.getLsbD_not, bx, by1, BitVec.getLsbD_shiftLeft]
    by_cases c : j < k
    · simp [c]
    · by_cases d : j = k
      · subst d; simp [hj]
      · have : j - k ≠ 0 := by omega
        simp only [c, d, if_false]
        have e : (1#64).getLsbD (j - k) = false := by
          rw [BitVec.getLsbD_one]
          simp
          omega
        simp [e]
        intro h _
        exact h
  · intro j
    rw [BitVec.getLsbD_and, bx, by1]
    by_cases c : j < k
    · simp [c]
    · by_cases d : j = k
      · subst d; simp
      · simp [c, d]

theorem less_and (x : BitVec 64) (h : x ≠ 0) : (x &&& (x - 1)).toNat < x.toNat := by
  have h0 : x.toNat ≠ 0 := fun e => h (BitVec.eq_of_toNat_eq (by simpa using e))
  have e : (x - 1).toNat = x.toNat - 1 := by
    have := x.isLt
    rw [BitVec.toNat_sub]
    simp
    omega
  rw [BitVec.toNat_and, e]
  have := @Nat.and_le_right x.toNat (x.toNat - 1)
  omega

/-- The table of the lowest bits. -/
def tab64 : List Int := [0, 1, 56, 2, 57, 49, 28, 3, 61, 58, 42, 50, 38, 29, 17, 4, 62, 47, 59, 36, 45, 43, 51, 22, 53, 39, 33, 30, 24, 18, 12, 5, 63, 55, 48, 27, 60, 41, 37, 16, 46, 35, 44, 21, 52, 32, 23, 11, 54, 26, 40, 15, 34, 20, 31, 10, 25, 14, 19, 9, 13, 8, 7, 6]
theorem tab64_at : ∀ k : Fin 64, tab64[(((1 : BitVec 64) <<< k.val * 285870213051353865) >>> 58).toNat]? = some (k.val : Int) ∧ (((1 : BitVec 64) <<< k.val * 285870213051353865) >>> 58).toNat < 64 := by decide +kernel

/-- Four words. -/
structure Pl where
  a : BitVec 64
  b : BitVec 64
  c : BitVec 64
  d : BitVec 64

def Pl.word (p : Pl) : Nat → BitVec 64
  | 0 => p.a
  | 1 => p.b
  | 2 => p.c
  | 3 => p.d
  | _ => 0

/-- Is a place in the set? -/
def Pl.has (p : Pl) (n : Nat) : Bool := (p.word (n / 64)).getLsbD (n % 64)

def Pl.zero : Pl := ⟨0, 0, 0, 0⟩
def Pl.or (p q : Pl) : Pl := ⟨p.a ||| q.a, p.b ||| q.b, p.c ||| q.c, p.d ||| q.d⟩
def Pl.and (p q : Pl) : Pl := ⟨p.a &&& q.a, p.b &&& q.b, p.c &&& q.c, p.d &&& q.d⟩
def Pl.sub (p q : Pl) : Pl := ⟨p.a &&& ~~~q.a, p.b &&& ~~~q.b, p.c &&& ~~~q.c, p.d &&& ~~~q.d⟩
def Pl.onw (p : Pl) : Pl := ⟨p.a <<< 1, p.b <<< 1 ||| p.a >>> 63, p.c <<< 1 ||| p.b >>> 63, p.d <<< 1 ||| p.c >>> 63⟩
def Pl.put (p : Pl) (i : Nat) (x : BitVec 64) : Pl := ⟨if i = 0 then x else p.a, if i = 1 then x else p.b, if i = 2 then x else p.c, if i = 3 then x else p.d⟩
def Pl.at (n : Nat) : Pl := Pl.zero.put (n / 64) ((1 : BitVec 64) <<< (n % 64))

theorem Pl.has_big (p : Pl) {n : Nat} (h : 256 ≤ n) : p.has n = false := by
  unfold Pl.has
  have : ∃ m, n / 64 = m + 4 := ⟨n / 64 - 4, by omega⟩
  obtain ⟨m, hm⟩ := this
  rw [hm]
  simp [Pl.word]
theorem div_cases {n : Nat} (h : n < 256) : n / 64 = 0 ∨ n / 64 = 1 ∨ n / 64 = 2 ∨ n / 64 = 3 := by omega

theorem Pl.has_zero (n : Nat) : Pl.zero.has n = false := by
  unfold Pl.has Pl.zero Pl.word
  split <;> simp
theorem Pl.has_or (p q : Pl) (n : Nat) : (p.or q).has n = (p.has n || q.has n) := by
  unfold Pl.has Pl.or Pl.word
  split <;> simp
theorem Pl.has_and (p q : Pl) (n : Nat) : (p.and q).has n = (p.has n && q.has n) := by
  unfold Pl.has Pl.and Pl.word
  split <;> simp
theorem Pl.has_sub (p q : Pl) (n : Nat) : (p.sub q).has n = (p.has n && !q.has n) := by
  have hm : n % 64 < 64 := Nat.mod_lt _ (by omega)
  unfold Pl.has Pl.sub Pl.word
  split <;> simp [hm]
theorem Pl.has_at {m : Nat} (hm : m < 256) (n : Nat) : (Pl.at m).has n = decide (n = m) := by
  by_cases hn : n < 256
  · have hm1 : m % 64 < 64 := Nat.mod_lt _ (by omega)
    have hn1 : n % 64 < 64 := Nat.mod_lt _ (by omega)
    have key : ((1 : BitVec 64) <<< (m % 64)).getLsbD (n % 64) = decide (n % 64 = m % 64) := by
      rw [BitVec.getLsbD_shiftLeft]
      by_cases e : n % 64 = m % 64
      · simp [e, hm1]
      · have : (1#64).getLsbD (n % 64 - m % 64) = decide (n % 64 - m % 64 = 0) := by rw [BitVec.getLsbD_one]; simp
        simp only [BitVec.ofNat_eq_ofNat, this, hn1, decide_true, Bool.true_and, e, decide_false, Bool.and_eq_false_imp, Bool.not_eq_true', decide_eq_false_iff_not]
        omega
    have h1 : n = 64 * (n / 64) + n % 64 := by omega
    have h2 : m = 64 * (m / 64) + m % 64 := by omega
    have h3 : decide (n = m) = (decide (n / 64 = m / 64) && decide (n % 64 = m % 64)) := by
      by_cases a : n / 64 = m / 64
      · by_cases b : n % 64 = m % 64
        · have : n = m := by omega
          simp [this]
        · have : ¬ n = m := fun e => b (by rw [e])
          simp [this, b]
      · have : ¬ n = m := fun e => a (by rw [e])
        simp [this, a]
    rw [h3, ← key]
    unfold Pl.has Pl.at Pl.put Pl.zero
    rcases div_cases hn with e | e | e | e <;> rcases div_cases hm with f | f | f | f <;> simp [e, f, Pl.word]
  · rw [Pl.has_big _ (by omega)]
    simp
    omega
theorem Pl.has_onw_zero (p : Pl) : p.onw.has 0 = false := by
  unfold Pl.has Pl.onw Pl.word
  simp
theorem Pl.has_onw (p : Pl) {n : Nat} (h : n < 255) : p.onw.has (n + 1) = p.has n := by
  by_cases c : n % 64 = 63
  · have h1 : (n + 1) / 64 = n / 64 + 1 := by omega
    have h2 : (n + 1) % 64 = 0 := by omega
    unfold Pl.has
    rw [h1, h2, c]
    have : n / 64 = 0 ∨ n / 64 = 1 ∨ n / 64 = 2 := by omega
    unfold Pl.onw
    rcases this with e | e | e <;> simp [e, Pl.word]
  · have h1 : (n + 1) / 64 = n / 64 := by omega
    have h2 : (n + 1) % 64 = n % 64 + 1 := by omega
    have h3 : n % 64 + 1 < 64 := by have := Nat.mod_lt n (show 0 < 64 by omega); omega
    unfold Pl.has
    rw [h1, h2]
    unfold Pl.onw
    have big : ∀ x : BitVec 64, x.getLsbD (63 + (n % 64 + 1)) = false := fun x => BitVec.getLsbD_of_ge _ _ (by omega)
    rcases div_cases (show n < 256 by omega) with e | e | e | e <;> simp [e, Pl.word, h3, big] <;> rfl

theorem Pl.ext_has {p q : Pl} (h : ∀ n, n < 256 → p.has n = q.has n) : p = q := by
  have w : ∀ i, i < 4 → p.word i = q.word i := by
    intro i hi
    apply BitVec.eq_of_getLsbD_eq
    intro j hj
    have := h (64 * i + j) (by omega)
    unfold Pl.has at this
    have e1 : (64 * i + j) / 64 = i := by omega
    have e2 : (64 * i + j) % 64 = j := by omega
    rw [e1, e2] at this
    exact this
  obtain ⟨a, b, c, d⟩ := p
  obtain ⟨a', b', c', d'⟩ := q
  have h0 := w 0 (by omega)
  have h1 := w 1 (by omega)
  have h2 := w 2 (by omega)
  have h3 := w 3 (by omega)
  simp only [Pl.word] at h0 h1 h2 h3
  subst h0 h1 h2 h3
  rfl

theorem Pl.eq_zero {p : Pl} (h : p ≠ .zero) : ∃ n, n < 256 ∧ p.has n = true := by
  apply Classical.byContradiction
  intro c
  apply h
  apply Pl.ext_has
  intro n hn
  rw [Pl.has_zero]
  cases e : p.has n
  · rfl
  · exact absurd ⟨n, hn, e⟩ c

/-- How many places are not in the set. -/
def Pl.left (p : Pl) : Nat := (List.range 256).countP fun n => !p.has n

theorem countP_lt {α : Type} (l : List α) (f g : α → Bool) (h : ∀ x ∈ l, f x = true → g x = true) {y : α} (hy : y ∈ l) (h1 : g y = true) (h2 : f y = false) : l.countP f < l.countP g := by
  induction l with
  | nil => simp at hy
  | cons a l ih =>
    have hle : l.countP f ≤ l.countP g := List.countP_mono_left fun x hx => h x (List.mem_cons_of_mem _ hx)
    rw [List.countP_cons, List.countP_cons]
    rcases List.mem_cons.1 hy with rfl | hy
    · simp [h1, h2]
      omega
    · have := ih (fun x hx => h x (List.mem_cons_of_mem _ hx)) hy
      have ha := h a (List.mem_cons_self ..)
      by_cases c : f a = true
      · simp [c, ha c]; exact this
      · simp [c]; omega

theorem Pl.left_lt {p q : Pl} (hq : q ≠ .zero) (hd : ∀ n, q.has n = true → p.has n = false) : (p.or q).left < p.left := by
  obtain ⟨n, hn, h⟩ := Pl.eq_zero hq
  refine countP_lt _ _ _ (fun x _ hx => ?_) (List.mem_range.2 hn) (by rw [hd n h]; rfl) (by rw [Pl.has_or, h]; simp)
  rw [Pl.has_or] at hx
  simp at hx
  simp [hx.1]

def anyT : Tree := .mk 1 [(0, 4294967295)] []
def fiveT : Tree := .mk 1 [(5, 5)] []
def zeroT : Tree := .mk 0 [] []
def catT : Tree := .mk 2 [] []
def mayT (t : Tree) : Tree := .mk 3 [] [t, catT]
def starT (t : Tree) : Tree := .mk 4 [] [t]
def rowL (t : Tree) (a m : Nat) (e : Bool) : List Tree := List.replicate a t ++ (List.replicate m (mayT t) ++ (if e then [starT t] else []))
def rowT (t : Tree) (a m : Nat) (e : Bool) : Tree := .mk 2 [] (rowL t a m e)
/-- A pattern so many times, and the error. -/
def timesT (t : Tree) (a b : Int) : Tree × Int :=
  if a < 0 then (zeroT, 2) else if rightT t = false then (zeroT, 4) else if 0 ≤ b ∧ b < a then (zeroT, 2)
  else if rightT (rowT t a.toNat (if b < 0 then 0 else b - a).toNat (decide (b < 0))) = true then (rowT t a.toNat (if b < 0 then 0 else b - a).toNat (decide (b < 0)), 0) else (zeroT, 6)


end Go.Proofs.YtjjlkjfhhpogaaaDoor
