/-
  Blanks ahead of signs change nothing: mathematics. No program in sight.
-/
import Derived.Test.YtjjlkjfhhpogaaaGreatDoorJb
namespace Go.Proofs.YtjjlkjfhhpogaaaGreatDoor

/-- The second text is the first one with blanks ahead of bytes that aren't digits, and at the end. -/
def Bla : Bs → Bs → Prop
  | [], r' => dropBl r' = []
  | c :: r, r' => ∃ b q, r' = b ++ c :: q ∧ (∀ x ∈ b, x = 32) ∧ (isDig c = true → b = []) ∧ Bla r q

theorem dropBl_app : ∀ (b : Bs) (r : Bs), (∀ x ∈ b, x = 32) → dropBl (b ++ r) = dropBl r
  | [], _, _ => rfl
  | c :: b, r, h => by
    have := h c (by simp)
    subst this
    rw [List.cons_append, dropBl_32]
    exact dropBl_app b r fun x hx => h x (by simp [hx])

theorem Bla.cons {c : UInt8} {q q' : Bs} (h : Bla q q') : Bla (c :: q) (c :: q') := ⟨[], q', rfl, by simp, fun _ => rfl, h⟩
theorem Bla.drop : ∀ {r r' : Bs}, Bla r r' → (dropBl r = [] ∧ dropBl r' = []) ∨ ∃ c q q', dropBl r = c :: q ∧ dropBl r' = c :: q' ∧ Bla q q' ∧ q.length < r.length ∧ q'.length < r'.length
  | [], r', h => Or.inl ⟨rfl, h⟩
  | c :: r, r', ⟨b, q, hr, hb, _, h⟩ => by
    subst hr
    by_cases hc : c = 32
    · subst hc
      rw [dropBl_32, dropBl_app b _ hb, dropBl_32]
      rcases Bla.drop h with h1 | ⟨d, u, u', h1, h2, h3, h4, h5⟩
      · exact Or.inl h1
      · exact Or.inr ⟨d, u, u', h1, h2, h3, by simp; omega, by simp; omega⟩
    · right
      rw [dropBl_no hc, dropBl_app b _ hb, dropBl_no hc]
      exact ⟨c, r, q, rfl, rfl, h, by simp, by simp <;> omega⟩

theorem Bla.dig : ∀ {r r' : Bs}, Bla r r' → r.takeWhile isDig = r'.takeWhile isDig ∧ Bla (r.dropWhile isDig) (r'.dropWhile isDig)
  | [], r', h => by
    cases r' with
    | nil => exact ⟨rfl, h⟩
    | cons c q =>
      by_cases hc : c = 32
      · subst hc
        have : isDig 32 = false := by decide
        simp only [List.takeWhile_nil, List.dropWhile_nil, List.takeWhile_cons, List.dropWhile_cons, this]
        exact ⟨rfl, h⟩
      · have h : dropBl (c :: q) = [] := h
        rw [dropBl_no hc] at h
        cases h
  | c :: r, r', ⟨b, q, hr, hb, hd, h⟩ => by
    subst hr
    by_cases hc : isDig c = true
    · rw [hd hc, List.nil_append]
      obtain ⟨h1, h2⟩ := Bla.dig h
      simp only [List.takeWhile_cons, List.dropWhile_cons, hc, if_true]
      exact ⟨by rw [h1], h2⟩
    · have hc' : isDig c = false := by simpa using hc
      have e1 : (c :: r).takeWhile isDig = [] := by simp [hc']
      have e2 : (c :: r).dropWhile isDig = c :: r := by simp [hc']
      rw [e1, e2]
      cases b with
      | nil =>
        rw [List.nil_append]
        have e3 : (c :: q).takeWhile isDig = [] := by simp [hc']
        have e4 : (c :: q).dropWhile isDig = c :: q := by simp [hc']
        rw [e3, e4]
        exact ⟨rfl, Bla.cons h⟩
      | cons d b =>
        have hd32 := hb d (by simp)
        subst hd32
        have h32 : isDig 32 = false := by decide
        have e3 : ((32 :: b) ++ c :: q).takeWhile isDig = [] := by simp [h32]
        have e4 : ((32 :: b) ++ c :: q).dropWhile isDig = (32 :: b) ++ c :: q := by simp [h32]
        rw [e3, e4]
        exact ⟨rfl, ⟨32 :: b, q, rfl, hb, fun h => absurd h hc, h⟩⟩

theorem dropW_le (r : Bs) : (r.dropWhile isDig).length ≤ r.length := (List.dropWhile_sublist isDig).length_le

/-- The same number, and rests that differ in blanks alone. -/
def NRel (L L' : Nat) (x y : Option (Nat × Bs)) : Prop := (x = none ∧ y = none) ∨ ∃ n r r', x = some (n, r) ∧ y = some (n, r') ∧ Bla r r' ∧ r.length ≤ L ∧ r'.length ≤ L'
theorem num_rel {r r' : Bs} (h : Bla r r') : NRel r.length r'.length (numM r) (numM r') := by
  obtain ⟨h1, h2⟩ := h.dig
  unfold numM
  rw [h1]
  split
  · exact Or.inl ⟨rfl, rfl⟩
  · exact Or.inr ⟨_, _, _, rfl, rfl, h2, dropW_le r, dropW_le r'⟩
theorem num_drop {r r' : Bs} (h : Bla r r') : NRel r.length r'.length (numM (dropBl r)) (numM (dropBl r')) := by
  rcases h.drop with ⟨h1, h2⟩ | ⟨c, q, q', h1, h2, h3, h4, h5⟩
  · rw [h1, h2]; exact Or.inl ⟨rfl, rfl⟩
  · rw [h1, h2]
    rcases num_rel (Bla.cons (c := c) h3) with h6 | ⟨n, u, u', h6, h7, h8, h9, h10⟩
    · exact Or.inl h6
    · exact Or.inr ⟨n, u, u', h6, h7, h8, by simp at h9; omega, by simp at h10; omega⟩

def CRel (L L' : Nat) (x y : Option (Int × Int × Bool × Bs)) : Prop := (x = none ∧ y = none) ∨ ∃ m n o r r', x = some (m, n, o, r) ∧ y = some (m, n, o, r') ∧ Bla r r' ∧ r.length ≤ L ∧ r'.length ≤ L'
theorem CRel.le {L L' M M' : Nat} {x y : Option (Int × Int × Bool × Bs)} (h : CRel L L' x y) (h1 : L ≤ M) (h2 : L' ≤ M') : CRel M M' x y := by
  rcases h with h | ⟨m, n, o, r, r', a, b, c, d, e⟩
  · exact Or.inl h
  · exact Or.inr ⟨m, n, o, r, r', a, b, c, by omega, by omega⟩
theorem most_rel (m : Nat) {r r' : Bs} (h : Bla r r') : CRel r.length r'.length (mostM m r) (mostM m r') := by
  unfold mostM
  rcases num_rel h with ⟨h1, h2⟩ | ⟨n, u, u', h1, h2, h3, h4, h5⟩
  · rw [h1, h2]; exact Or.inl ⟨rfl, rfl⟩
  rw [h1, h2]
  simp only
  rcases h3.drop with ⟨g1, g2⟩ | ⟨c, q, q', g1, g2, g3, g4, g5⟩
  · rw [g1, g2]; exact Or.inl ⟨rfl, rfl⟩
  rw [g1, g2]
  simp only
  split
  · exact Or.inr ⟨_, _, _, _, _, rfl, rfl, g3, by omega, by omega⟩
  · exact Or.inl ⟨rfl, rfl⟩
theorem counts_rel {r r' : Bs} (h : Bla r r') : CRel r.length r'.length (countsM r) (countsM r') := by
  unfold countsM
  rcases num_drop h with ⟨h1, h2⟩ | ⟨n, u, u', h1, h2, h3, h4, h5⟩
  · rw [h1, h2]; exact Or.inl ⟨rfl, rfl⟩
  rw [h1, h2]
  simp only
  rcases h3.drop with ⟨g1, g2⟩ | ⟨c, q, q', g1, g2, g3, g4, g5⟩
  · rw [g1, g2]; exact Or.inl ⟨rfl, rfl⟩
  rw [g1, g2]
  simp only
  split
  · rcases g3.drop with ⟨i1, i2⟩ | ⟨d, v, v', i1, i2, i3, i4, i5⟩
    · rw [i1, i2]; exact Or.inl ⟨rfl, rfl⟩
    rw [i1, i2]
    simp only
    split
    · exact Or.inr ⟨_, _, _, _, _, rfl, rfl, i3, by omega, by omega⟩
    · exact (most_rel n (Bla.cons (c := d) i3)).le (by simp; omega) (by simp; omega)
  · split
    · exact Or.inr ⟨_, _, _, _, _, rfl, rfl, g3, by omega, by omega⟩
    · exact Or.inl ⟨rfl, rfl⟩

/-- The same part, and rests that differ in blanks alone. -/
def ORel (L L' : Nat) (x y : Option Rd) : Prop := (x = none ∧ y = none) ∨ ∃ t o f r r', x = some ⟨t, o, f, r⟩ ∧ y = some ⟨t, o, f, r'⟩ ∧ Bla r r' ∧ r.length ≤ L ∧ r'.length ≤ L'
theorem ORel.le {L L' M M' : Nat} {x y : Option Rd} (h : ORel L L' x y) (h1 : L ≤ M) (h2 : L' ≤ M') : ORel M M' x y := by
  rcases h with h | ⟨m, n, o, r, r', a, b, c, d, e⟩
  · exact Or.inl h
  · exact Or.inr ⟨m, n, o, r, r', a, b, c, by omega, by omega⟩
def FRel (N N' : Nat) (F F' : Bs → Option Rd) : Prop := ∀ r r', Bla r r' → r.length < N → r'.length < N' → ORel r.length r'.length (F r) (F' r')

theorem nums_rel {r r' : Bs} (h : Bla r r') : ORel r.length r'.length (jnumsM r) (jnumsM r') := by
  unfold jnumsM
  rcases num_rel h with ⟨h1, h2⟩ | ⟨n, u, u', h1, h2, h3, h4, h5⟩
  · rw [h1, h2]; exact Or.inl ⟨rfl, rfl⟩
  rw [h1, h2]
  simp only
  rcases h3.drop with ⟨g1, g2⟩ | ⟨c, q, q', g1, g2, g3, g4, g5⟩
  · rw [g1, g2]; exact Or.inr ⟨_, _, _, _, _, rfl, rfl, rfl, Nat.zero_le _, Nat.zero_le _⟩
  rw [g1, g2]
  simp only
  split
  · rcases num_drop g3 with ⟨i1, i2⟩ | ⟨m, v, v', i1, i2, i3, i4, i5⟩
    · rw [i1, i2]; exact Or.inl ⟨rfl, rfl⟩
    · rw [i1, i2]; exact Or.inr ⟨_, _, _, _, _, rfl, rfl, i3, by omega, by omega⟩
  · exact Or.inr ⟨_, _, _, _, _, rfl, rfl, Bla.cons g3, by simp; omega, by simp; omega⟩

theorem par_rel {L L' : Nat} {x y : Option Rd} (h : ORel L L' x y) : ORel L L' (jparM x) (jparM y) := by
  rcases h with ⟨rfl, rfl⟩ | ⟨t, o, f, r, r', rfl, rfl, h3, h4, h5⟩
  · exact Or.inl ⟨rfl, rfl⟩
  unfold jparM
  simp only
  rcases h3.drop with ⟨g1, g2⟩ | ⟨c, q, q', g1, g2, g3, g4, g5⟩
  · rw [g1, g2]; exact Or.inl ⟨rfl, rfl⟩
  rw [g1, g2]
  simp only
  split
  · exact Or.inr ⟨_, _, _, _, _, rfl, rfl, g3, by omega, by omega⟩
  · exact Or.inl ⟨rfl, rfl⟩

theorem atom_rel {N N' : Nat} {F F' : Bs → Option Rd} (hF : FRel N N' F F') : FRel (N + 1) (N' + 1) (jatomM F) (jatomM F') := by
  intro r r' h hl hl'
  unfold jatomM
  rcases h.drop with ⟨g1, g2⟩ | ⟨c, q, q', g1, g2, g3, g4, g5⟩
  · rw [g1, g2]; exact Or.inl ⟨rfl, rfl⟩
  rw [g1, g2]
  simp only
  split
  · exact Or.inr ⟨_, _, _, _, _, rfl, rfl, g3, by omega, by omega⟩
  split
  · exact Or.inr ⟨_, _, _, _, _, rfl, rfl, g3, by omega, by omega⟩
  split
  · exact (par_rel (hF q q' g3 (by omega) (by omega))).le (by omega) (by omega)
  · exact (nums_rel (Bla.cons (c := c) g3)).le (by simp; omega) (by simp; omega)

theorem signs_rel : ∀ (k k' : Nat) (r r' : Bs) (t : Tree) (o f : Bool), Bla r r' → r.length < k → r'.length < k' → ORel r.length r'.length (jsignsM k r t o f) (jsignsM k' r' t o f)
  | 0, _, _, _, _, _, _, _, h, _ => by omega
  | _, 0, _, _, _, _, _, _, _, h => by omega
  | k + 1, k' + 1, r, r', t, o, f, h, hl, hl' => by
    rw [jsignsM, jsignsM]
    rcases h.drop with ⟨g1, g2⟩ | ⟨c, q, q', g1, g2, g3, g4, g5⟩
    · rw [g1, g2]; exact Or.inr ⟨_, _, _, _, _, rfl, rfl, rfl, Nat.zero_le _, Nat.zero_le _⟩
    rw [g1, g2]
    simp only
    split
    · exact (signs_rel k k' q q' _ _ _ g3 (by omega) (by omega)).le (by omega) (by omega)
    split
    · exact (signs_rel k k' q q' _ _ _ g3 (by omega) (by omega)).le (by omega) (by omega)
    split
    · exact (signs_rel k k' q q' _ _ _ g3 (by omega) (by omega)).le (by omega) (by omega)
    split
    · rcases counts_rel g3 with ⟨i1, i2⟩ | ⟨m, n, o2, v, v', i1, i2, i3, i4, i5⟩
      · rw [i1, i2]; exact Or.inl ⟨rfl, rfl⟩
      · rw [i1, i2]
        exact (signs_rel k k' v v' _ _ _ i3 (by omega) (by omega)).le (by omega) (by omega)
    · exact Or.inr ⟨_, _, _, _, _, rfl, rfl, Bla.cons g3, by simp; omega, by simp; omega⟩

theorem item_rel {N N' : Nat} {F F' : Bs → Option Rd} (hF : FRel N N' F F') : FRel (N + 1) (N' + 1) (jitemM F) (jitemM F') := by
  intro r r' h hl hl'
  unfold jitemM
  rcases atom_rel hF r r' h hl hl' with ⟨h1, h2⟩ | ⟨t, o, f, u, u', h1, h2, h3, h4, h5⟩
  · rw [h1, h2]; exact Or.inl ⟨rfl, rfl⟩
  · rw [h1, h2]
    exact (signs_rel _ _ u u' t o f h3 (by simp) (by simp)).le h4 h5

/-- The same parts, and rests that differ in blanks alone. -/
def LRel (L L' : Nat) (x y : Option (List Tree × Bool × Bool × Bs)) : Prop := (x = none ∧ y = none) ∨ ∃ l o f r r', x = some (l, o, f, r) ∧ y = some (l, o, f, r') ∧ Bla r r' ∧ r.length ≤ L ∧ r'.length ≤ L'
theorem LRel.le {L L' M M' : Nat} {x y : Option (List Tree × Bool × Bool × Bs)} (h : LRel L L' x y) (h1 : L ≤ M) (h2 : L' ≤ M') : LRel M M' x y := by
  rcases h with h | ⟨m, n, o, r, r', a, b, c, d, e⟩
  · exact Or.inl h
  · exact Or.inr ⟨m, n, o, r, r', a, b, c, by omega, by omega⟩
theorem LRel.fin {L L' : Nat} {x y : Option (List Tree × Bool × Bool × Bs)} (h : LRel L L' x y) (k : Int) : ORel L L' (jfinM k x) (jfinM k y) := by
  rcases h with ⟨rfl, rfl⟩ | ⟨l, o, f, r, r', rfl, rfl, h3, h4, h5⟩
  · exact Or.inl ⟨rfl, rfl⟩
  · exact Or.inr ⟨_, _, _, r, r', rfl, rfl, h3, h4, h5⟩

theorem num_less {r : Bs} {n : Nat} {r' : Bs} (h : numM r = some (n, r')) : r'.length < r.length := by
  unfold numM at h
  split at h
  · cases h
  · rename_i hn
    simp at h
    obtain ⟨_, rfl⟩ := h
    have := congrArg List.length (List.takeWhile_append_dropWhile (p := isDig) (l := r))
    rw [List.length_append] at this
    have h2 : (r.takeWhile isDig).length ≠ 0 := fun e => hn (Or.inl (List.length_eq_zero_iff.1 e))
    omega
theorem drop_cons_le {r q : Bs} {c : UInt8} (h : dropBl r = c :: q) : q.length < r.length := by
  have := dropBl_le r
  rw [h] at this
  simp at this
  omega

/-- Nothing grows. -/
def Leq (N : Nat) (F : Bs → Option Rd) : Prop := ∀ r x, r.length < N → F r = some x → x.r.length ≤ r.length

theorem nums_less {r : Bs} {x : Rd} (h : jnumsM r = some x) : x.r.length < r.length := by
  unfold jnumsM at h
  split at h
  · cases h
  · rename_i lo r1 e1
    have l1 := num_less e1
    split at h
    · simp at h; subst h; simp; omega
    · rename_i c r2 e2
      have l2 := drop_cons_le e2
      split at h
      · split at h
        · cases h
        · rename_i hi r3 e3
          have l3 := num_less e3
          have l4 := dropBl_le r2
          simp at h; subst h; simp only; omega
      · simp at h; subst h; simp; omega
theorem atom_less {N : Nat} {F : Bs → Option Rd} (hF : Leq N F) {r : Bs} {x : Rd} (hr : r.length < N + 1) (h : jatomM F r = some x) : x.r.length < r.length := by
  unfold jatomM at h
  split at h
  · cases h
  · rename_i c q e
    have l := drop_cons_le e
    split at h
    · simp at h; subst h; exact l
    split at h
    · simp at h; subst h; exact l
    split at h
    · unfold jparM at h
      split at h
      · cases h
      · rename_i y ey
        have l2 := hF _ _ (by omega) ey
        split at h
        · cases h
        · rename_i d u eu
          have l3 := drop_cons_le eu
          split at h
          · simp at h; subst h; simp only; omega
          · cases h
    · have := nums_less h
      simp at this
      omega
theorem most_less {m : Nat} {r : Bs} {y : Int × Int × Bool × Bs} (h : mostM m r = some y) : y.2.2.2.length < r.length := by
  unfold mostM at h
  split at h
  · cases h
  · rename_i n r4 e4
    have l4 := num_less e4
    split at h
    · cases h
    · rename_i c r5 e5
      have l5 := drop_cons_le e5
      split at h
      · simp at h; subst h; simp only; omega
      · cases h
theorem counts_less {r : Bs} {y : Int × Int × Bool × Bs} (h : countsM r = some y) : y.2.2.2.length < r.length := by
  unfold countsM at h
  split at h
  · cases h
  · rename_i m r1 e1
    have l1 := num_less e1
    have l0 := dropBl_le r
    split at h
    · cases h
    · rename_i c r2 e2
      have l2 := drop_cons_le e2
      split at h
      · split at h
        · cases h
        · rename_i d r3 e3
          have l3 := drop_cons_le e3
          split at h
          · simp at h; subst h; simp only; omega
          · have := most_less h
            simp at this
            omega
      · split at h
        · simp at h; subst h; simp only; omega
        · cases h
theorem signs_less : ∀ (k : Nat) (r : Bs) (t : Tree) (o f : Bool) (x : Rd), jsignsM k r t o f = some x → x.r.length ≤ r.length
  | 0, _, _, _, _, _, h => by cases h
  | k + 1, r, t, o, f, x, h => by
    rw [jsignsM] at h
    split at h
    · simp at h; subst h; simp
    · rename_i c q e
      have l := drop_cons_le e
      split at h
      · have := signs_less k _ _ _ _ _ h; omega
      split at h
      · have := signs_less k _ _ _ _ _ h; omega
      split at h
      · have := signs_less k _ _ _ _ _ h; omega
      split at h
      · split at h
        · cases h
        · rename_i m n o2 u eu
          have l2 := counts_less eu
          have := signs_less k _ _ _ _ _ h
          simp only at l2
          omega
      · simp at h; subst h; simp; omega
theorem item_less {N : Nat} {F : Bs → Option Rd} (hF : Leq N F) {r : Bs} {x : Rd} (hr : r.length < N + 1) (h : jitemM F r = some x) : x.r.length < r.length := by
  unfold jitemM at h
  split at h
  · cases h
  · rename_i y ey
    have := atom_less hF hr ey
    have := signs_less _ _ _ _ _ _ h
    omega
theorem items_less {N : Nat} {F : Bs → Option Rd} (hF : ∀ r x, r.length < N → F r = some x → x.r.length < r.length) : ∀ (k : Nat) (l : List Tree) (o f : Bool) (r : Bs) (y : List Tree × Bool × Bool × Bs), r.length < N → jitemsM F k l o f r = some y → y.2.2.2.length ≤ r.length
  | 0, _, _, _, _, _, _, h => by cases h
  | k + 1, l, o, f, r, y, hr, h => by
    rw [jitemsM] at h
    have l0 := dropBl_le r
    split at h
    · split at h
      · cases h
      · rename_i x ex
        have l1 := hF _ _ (by omega) ex
        have := items_less hF k _ _ _ _ _ (by omega) h
        omega
    · simp at h; subst h; exact l0
theorem fin_less {k : Int} {L : Nat} {z : Option (List Tree × Bool × Bool × Bs)} {x : Rd} (hz : ∀ y, z = some y → y.2.2.2.length ≤ L) (h : jfinM k z = some x) : x.r.length ≤ L := by
  unfold jfinM at h
  split at h
  · cases h
  · rename_i l o f r
    have := hz _ rfl
    simp at h
    subst h
    exact this
theorem cat_less {N : Nat} {F : Bs → Option Rd} (hF : Leq N F) : Leq (N + 1) (jcatM F) := by
  intro r x hr h
  unfold jcatM at h
  exact fin_less (fun y hy => items_less (fun r x h1 h2 => item_less hF h1 h2) _ _ _ _ _ _ hr hy) h
theorem sep_less {N : Nat} {F : Bs → Option Rd} (hF : Leq N F) : ∀ (k : Nat) (l : List Tree) (o f : Bool) (r : Bs) (y : List Tree × Bool × Bool × Bs), r.length < N → jsepM F k l o f r = some y → y.2.2.2.length ≤ r.length
  | 0, _, _, _, _, _, _, h => by cases h
  | k + 1, l, o, f, r, y, hr, h => by
    rw [jsepM] at h
    split at h
    · simp at h; subst h; simp
    · rename_i c q e
      have l0 := drop_cons_le e
      split at h
      · split at h
        · cases h
        · rename_i x ex
          have l1 := hF _ _ (by omega) ex
          have := sep_less hF k _ _ _ _ _ (by omega) h
          omega
      · simp at h; subst h; simp; omega
theorem pat_less {N : Nat} {F : Bs → Option Rd} (hF : Leq N F) : Leq (N + 1) (jpatM F) := by
  intro r x hr h
  unfold jpatM at h
  split at h
  · cases h
  · rename_i y ey
    have l1 := cat_less hF _ _ hr ey
    have := fin_less (L := y.r.length) (fun z hz => sep_less (cat_less hF) _ _ _ _ _ _ (by omega) hz) h
    omega
theorem patN_less : ∀ n, Leq n (jpatN n)
  | 0 => fun r x hr => by omega
  | n + 1 => pat_less (patN_less n)

theorem items_rel' {N N' : Nat} {F F' : Bs → Option Rd} (hF : FRel N N' F F') (hL : ∀ r x, r.length < N → F r = some x → x.r.length < r.length) (hL' : ∀ r x, r.length < N' → F' r = some x → x.r.length < r.length) : ∀ (k k' : Nat) (l : List Tree) (o f : Bool) (r r' : Bs), Bla r r' → r.length < N → r'.length < N' → r.length < k → r'.length < k' → LRel r.length r'.length (jitemsM F k l o f r) (jitemsM F' k' l o f r')
  | 0, _, _, _, _, _, _, _, _, _, h, _ => by omega
  | _, 0, _, _, _, _, _, _, _, _, _, h => by omega
  | k + 1, k' + 1, l, o, f, r, r', h, hl, hl', hk, hk' => by
    rw [jitemsM, jitemsM]
    rcases h.drop with ⟨g1, g2⟩ | ⟨c, q, q', g1, g2, g3, g4, g5⟩
    · rw [g1, g2]
      simp only [beginsM, Bool.false_eq_true, if_false]
      exact Or.inr ⟨_, _, _, _, _, rfl, rfl, rfl, Nat.zero_le _, Nat.zero_le _⟩
    rw [g1, g2, begins_cons, begins_cons]
    split
    · rcases hF (c :: q) (c :: q') (Bla.cons g3) (by simp; omega) (by simp; omega) with ⟨i1, i2⟩ | ⟨t, o2, f2, u, u', i1, i2, i3, i4, i5⟩
      · rw [i1, i2]; exact Or.inl ⟨rfl, rfl⟩
      · have j1 := hL _ _ (by simp; omega) i1
        have j2 := hL' _ _ (by simp; omega) i2
        simp only [List.length_cons] at j1 j2
        rw [i1, i2]
        exact (items_rel' hF hL hL' k k' _ _ _ u u' i3 (by omega) (by omega) (by omega) (by omega)).le (by omega) (by omega)
    · exact Or.inr ⟨_, _, _, _, _, rfl, rfl, Bla.cons g3, by simp; omega, by simp; omega⟩

theorem cat_rel {N N' : Nat} {F F' : Bs → Option Rd} (hF : FRel N N' F F') (hL : Leq N F) (hL' : Leq N' F') : FRel (N + 1) (N' + 1) (jcatM F) (jcatM F') := by
  intro r r' h hl hl'
  unfold jcatM
  exact (items_rel' (item_rel hF) (fun r x h1 h2 => item_less hL h1 h2) (fun r x h1 h2 => item_less hL' h1 h2) _ _ _ _ _ r r' h hl hl' (by omega) (by omega)).fin 2

theorem sep_rel {N N' : Nat} {F F' : Bs → Option Rd} (hF : FRel N N' F F') : ∀ (k k' : Nat) (l : List Tree) (o f : Bool) (r r' : Bs), Bla r r' → r.length < N → r'.length < N' → r.length < k → r'.length < k' → LRel r.length r'.length (jsepM F k l o f r) (jsepM F' k' l o f r')
  | 0, _, _, _, _, _, _, _, _, _, h, _ => by omega
  | _, 0, _, _, _, _, _, _, _, _, _, h => by omega
  | k + 1, k' + 1, l, o, f, r, r', h, hl, hl', hk, hk' => by
    rw [jsepM, jsepM]
    rcases h.drop with ⟨g1, g2⟩ | ⟨c, q, q', g1, g2, g3, g4, g5⟩
    · rw [g1, g2]; exact Or.inr ⟨_, _, _, _, _, rfl, rfl, rfl, Nat.zero_le _, Nat.zero_le _⟩
    rw [g1, g2]
    simp only
    split
    · rcases hF q q' g3 (by omega) (by omega) with ⟨i1, i2⟩ | ⟨t, o2, f2, u, u', i1, i2, i3, i4, i5⟩
      · rw [i1, i2]; exact Or.inl ⟨rfl, rfl⟩
      · rw [i1, i2]
        exact (sep_rel hF k k' _ _ _ u u' i3 (by omega) (by omega) (by omega) (by omega)).le (by omega) (by omega)
    · exact Or.inr ⟨_, _, _, _, _, rfl, rfl, Bla.cons g3, by simp; omega, by simp; omega⟩

theorem pat_rel {N N' : Nat} {F F' : Bs → Option Rd} (hF : FRel N N' F F') (hL : Leq N F) (hL' : Leq N' F') : FRel (N + 1) (N' + 1) (jpatM F) (jpatM F') := by
  intro r r' h hl hl'
  unfold jpatM
  rcases cat_rel hF hL hL' r r' h hl hl' with ⟨i1, i2⟩ | ⟨t, o2, f2, u, u', i1, i2, i3, i4, i5⟩
  · rw [i1, i2]; exact Or.inl ⟨rfl, rfl⟩
  · rw [i1, i2]
    exact ((sep_rel (cat_rel hF hL hL') _ _ _ _ _ u u' i3 (by omega) (by omega) (by simp) (by simp)).fin 3).le i4 i5

theorem patN_rel : ∀ n n', FRel n n' (jpatN n) (jpatN n')
  | 0, _ => fun r r' _ h _ => by omega
  | _, 0 => fun r r' _ _ h => by omega
  | n + 1, n' + 1 => pat_rel (patN_rel n n') (patN_less n) (patN_less n')

theorem sep_fix {F : Bs → Option Rd} : ∀ (k : Nat) (l : List Tree) (o f : Bool) (r : Bs) (y : List Tree × Bool × Bool × Bs), jsepM F k l o f r = some y → dropBl y.2.2.2 = y.2.2.2
  | 0, _, _, _, _, _, h => by cases h
  | k + 1, l, o, f, r, y, h => by
    rw [jsepM] at h
    split at h
    · simp at h; subst h; rfl
    · rename_i c q e
      split at h
      · split at h
        · cases h
        · exact sep_fix k _ _ _ _ _ h
      · simp at h; subst h; exact dropBl_no (dropBl_head e) _
theorem pat_fix {F : Bs → Option Rd} {r : Bs} {x : Rd} (h : jpatM F r = some x) : dropBl x.r = x.r := by
  unfold jpatM at h
  split at h
  · cases h
  · rename_i y ey
    unfold jfinM at h
    split at h
    · cases h
    · rename_i l o f r' e
      have := sep_fix _ _ _ _ _ _ e
      simp at h
      subst h
      exact this

/-- Blanks that may stand, or not, change nothing. -/
theorem parse_bla {s s' : Bs} (h : Bla s s') (h1 : s.length ≤ 2000) (h2 : s'.length ≤ 2000) : jparseM s = jparseM s' := by
  unfold jparseM
  rw [if_neg (by omega), if_neg (by omega)]
  rcases patN_rel (s.length + 1) (s'.length + 1) s s' h (by omega) (by omega) with ⟨i1, i2⟩ | ⟨t, o, f, u, u', i1, i2, i3, _, _⟩
  · rw [i1, i2]
  · have f1 := pat_fix (x := ⟨t, o, f, u⟩) i1
    have f2 := pat_fix (x := ⟨t, o, f, u'⟩) i2
    simp only at f1 f2
    rw [i1, i2]
    simp only
    have hu : u = [] ↔ u' = [] := by
      rcases i3.drop with ⟨g1, g2⟩ | ⟨c, q, q', g1, g2, _⟩
      · rw [f1] at g1; rw [f2] at g2; simp [g1, g2]
      · rw [f1] at g1; rw [f2] at g2; simp [g1, g2]
    by_cases hn : u = []
    · have hn' : u' = [] := hu.1 hn
      subst hn
      subst hn'
      rfl
    · rw [if_pos hn, if_pos (fun h => hn (hu.2 h))]

end Go.Proofs.YtjjlkjfhhpogaaaGreatDoor
