/-
  Plain mathematics of cells: where kinds may begin, the corners, the first corner of each kind. No program in sight.
-/
import Derived.Test.YtepioggejacfjaaMath
namespace Go.Proofs.Ytepioggejacfjaa

/-- Rising, each once. -/
def Rising (l : List Int) : Prop := l.Pairwise (· < ·)

/-- Of one kind: each box has both or neither. -/
def alike (l : List Sp) (c d : Int) : Bool := l.all fun s => inB s c == inB s d

theorem alike_iff {l : List Sp} {c d : Int} : alike l c d = true ↔ ∀ s ∈ l, inB s c = inB s d := by
  simp [alike]
theorem alike_refl (l : List Sp) (c : Int) : alike l c c = true := alike_iff.2 fun _ _ => rfl
theorem alike_symm {l : List Sp} {c d : Int} (h : alike l c d = true) : alike l d c = true := alike_iff.2 fun s hs => (alike_iff.1 h s hs).symm
theorem alike_trans {l : List Sp} {c d e : Int} (h : alike l c d = true) (k : alike l d e = true) : alike l c e = true :=
  alike_iff.2 fun s hs => (alike_iff.1 h s hs).trans (alike_iff.1 k s hs)

/-- Where kinds may begin along a side. -/
structure Begs (f : Int → Int) (l : List Sp) (b : List Int) : Prop where
  rising : Rising b
  mem : ∀ x, x ∈ b ↔ x = 0 ∨ ∃ s ∈ l, x = f s.1 ∨ (f s.2 < 65535 ∧ x = f s.2 + 1)

theorem Rising.ext : ∀ {a b : List Int}, Rising a → Rising b → (∀ x, x ∈ a ↔ x ∈ b) → a = b
  | [], [], _, _, _ => rfl
  | [], y :: b, _, _, h => absurd ((h y).2 (by simp)) (by simp)
  | x :: a, [], _, _, h => absurd ((h x).1 (by simp)) (by simp)
  | x :: a, y :: b, ha, hb, h => by
    obtain ⟨a1, a2⟩ := List.pairwise_cons.1 ha
    obtain ⟨b1, b2⟩ := List.pairwise_cons.1 hb
    have e : x = y := by
      have h1 := (h x).1 (by simp)
      have h2 := (h y).2 (by simp)
      rcases List.mem_cons.1 h1 with h1 | h1
      · exact h1
      · rcases List.mem_cons.1 h2 with h2 | h2
        · exact h2.symm
        · have := b1 x h1; have := a1 y h2; omega
    subst e
    rw [Rising.ext a2 b2 fun z => ?_]
    constructor
    · intro hz
      have := a1 z hz
      rcases List.mem_cons.1 ((h z).1 (List.mem_cons_of_mem _ hz)) with e | e
      · omega
      · exact e
    · intro hz
      have := b1 z hz
      rcases List.mem_cons.1 ((h z).2 (List.mem_cons_of_mem _ hz)) with e | e
      · omega
      · exact e

theorem Begs.unique {f : Int → Int} {l : List Sp} {a b : List Int} (ha : Begs f l a) (hb : Begs f l b) : a = b :=
  ha.rising.ext hb.rising fun x => (ha.mem x).trans (hb.mem x).symm

def hiP (n : Int) : Int := n / 65536
def loP (n : Int) : Int := n % 65536

/-- The corners, rising. -/
def corners (X Y : List Int) : List Int := X.flatMap fun x => Y.map fun y => 65536 * x + y

/-- One corner more. -/
def cellStep (l : List Sp) (o : List Int) (c : Int) : List Int := if o.any (fun d => alike l c d) then o else o ++ [c]

/-- The first corner of each kind. -/
def cellsFold (l : List Sp) (o : List Int) (cs : List Int) : List Int := cs.foldl (cellStep l) o

theorem cellsFold_append (l : List Sp) (o a b : List Int) : cellsFold l o (a ++ b) = cellsFold l (cellsFold l o a) b := by
  simp [cellsFold]

theorem cellsFold_snoc (l : List Sp) (o a : List Int) (c : Int) : cellsFold l o (a ++ [c]) = cellStep l (cellsFold l o a) c := by
  simp [cellsFold]

/-- What the cells are. -/
def IsCells (l : List Sp) (o : List Int) : Prop := ∃ X Y, Begs hiP l X ∧ Begs loP l Y ∧ o = cellsFold l [] (corners X Y)

theorem IsCells.unique {l : List Sp} {o p : List Int} (h : IsCells l o) (k : IsCells l p) : o = p := by
  obtain ⟨X, Y, hX, hY, rfl⟩ := h
  obtain ⟨X', Y', hX', hY', rfl⟩ := k
  rw [hX.unique hX', hY.unique hY']

theorem cellStep_length (l : List Sp) (o : List Int) (c : Int) : (cellStep l o c).length ≤ o.length + 1 := by
  unfold cellStep; split <;> simp

theorem cellsFold_length (l : List Sp) : ∀ (cs o : List Int), (cellsFold l o cs).length ≤ o.length + cs.length
  | [], o => by simp [cellsFold]
  | c :: cs, o => by
    have h1 := cellsFold_length l cs (cellStep l o c)
    have h2 := cellStep_length l o c
    have e : cellsFold l o (c :: cs) = cellsFold l (cellStep l o c) cs := rfl
    rw [e]
    simp
    omega

/-- It goes on with some of the corners, in their order. -/
theorem cellsFold_sub (l : List Sp) : ∀ (cs o : List Int), ∃ t, cellsFold l o cs = o ++ t ∧ t.Sublist cs
  | [], o => ⟨[], by simp [cellsFold], List.Sublist.refl _⟩
  | c :: cs, o => by
    have e : cellsFold l o (c :: cs) = cellsFold l (cellStep l o c) cs := rfl
    rw [e]
    unfold cellStep
    split
    · obtain ⟨t, h1, h2⟩ := cellsFold_sub l cs o
      exact ⟨t, h1, h2.cons _⟩
    · obtain ⟨t, h1, h2⟩ := cellsFold_sub l cs (o ++ [c])
      exact ⟨c :: t, by rw [h1]; simp, h2.cons_cons _⟩

/-- No two of one kind. -/
def Apart (l : List Sp) (o : List Int) : Prop := o.Pairwise fun c d => alike l c d = false

theorem apart_step {l : List Sp} {o : List Int} (h : Apart l o) (c : Int) : Apart l (cellStep l o c) := by
  unfold cellStep
  split
  · exact h
  · rename_i hn
    refine List.pairwise_append.2 ⟨h, by simp, fun a ha b hb => ?_⟩
    simp at hb
    subst hb
    cases hk : alike l a b with
    | false => rfl
    | true => exact absurd (List.any_eq_true.2 ⟨a, ha, alike_symm hk⟩) hn

theorem apart_fold {l : List Sp} : ∀ (cs o : List Int), Apart l o → Apart l (cellsFold l o cs)
  | [], _, h => h
  | c :: cs, o, h => apart_fold cs (cellStep l o c) (apart_step h c)

/-- Each corner has one of its kind that isn't greater. -/
theorem fold_has {l : List Sp} : ∀ (cs o : List Int), (∀ d ∈ o, ∀ c ∈ cs, d ≤ c) → cs.Pairwise (· ≤ ·) → ∀ c ∈ cs, ∃ d ∈ cellsFold l o cs, alike l c d = true ∧ d ≤ c
  | [], _, _, _, c, hc => by simp at hc
  | a :: cs, o, ho, hp, c, hc => by
    obtain ⟨p1, p2⟩ := List.pairwise_cons.1 hp
    have e : cellsFold l o (a :: cs) = cellsFold l (cellStep l o a) cs := rfl
    rw [e]
    obtain ⟨t, ht, _⟩ := cellsFold_sub l cs (cellStep l o a)
    rcases List.mem_cons.1 hc with rfl | hc
    · have : ∃ d ∈ cellStep l o c, alike l c d = true ∧ d ≤ c := by
        unfold cellStep
        split
        · rename_i h
          obtain ⟨d, hd, hk⟩ := List.any_eq_true.1 h
          exact ⟨d, hd, hk, ho d hd c (by simp)⟩
        · exact ⟨c, by simp, alike_refl l c, Int.le_refl _⟩
      obtain ⟨d, hd, h1, h2⟩ := this
      exact ⟨d, by rw [ht]; exact List.mem_append_left _ hd, h1, h2⟩
    · refine fold_has cs (cellStep l o a) (fun d hd b hb => ?_) p2 c hc
      unfold cellStep at hd
      split at hd
      · exact ho d hd b (by simp [hb])
      · rcases List.mem_append.1 hd with hd | hd
        · exact ho d hd b (by simp [hb])
        · simp at hd; subst hd; exact p1 b hb

theorem mem_corners {X Y : List Int} {c : Int} : c ∈ corners X Y ↔ ∃ x ∈ X, ∃ y ∈ Y, c = 65536 * x + y := by
  simp only [corners, List.mem_flatMap, List.mem_map]
  constructor
  · rintro ⟨x, hx, y, hy, rfl⟩; exact ⟨x, hx, y, hy, rfl⟩
  · rintro ⟨x, hx, y, hy, rfl⟩; exact ⟨x, hx, y, hy, rfl⟩

theorem corners_rising {Y : List Int} (hY : Rising Y) (hb : ∀ y ∈ Y, 0 ≤ y ∧ y ≤ 65535) : ∀ {X : List Int}, Rising X → Rising (corners X Y)
  | [], _ => List.Pairwise.nil
  | x :: X, hX => by
    obtain ⟨h1, h2⟩ := List.pairwise_cons.1 hX
    have e : corners (x :: X) Y = Y.map (fun y => 65536 * x + y) ++ corners X Y := rfl
    rw [e]
    refine List.pairwise_append.2 ⟨List.pairwise_map.2 (hY.imp fun h => by omega), corners_rising hY hb h2, fun a ha b hb' => ?_⟩
    obtain ⟨y, hy, rfl⟩ := List.mem_map.1 ha
    obtain ⟨x', hx', y', hy', rfl⟩ := mem_corners.1 hb'
    have := h1 x' hx'
    have := hb y hy
    have := hb y' hy'
    omega

theorem corners_length (X Y : List Int) : (corners X Y).length = X.length * Y.length := by
  induction X with
  | nil => simp [corners]
  | cons x X ih =>
    have e : corners (x :: X) Y = Y.map (fun y => 65536 * x + y) ++ corners X Y := rfl
    rw [e, List.length_append, ih]
    simp [Nat.add_mul]
    omega

theorem Begs.rng {f : Int → Int} {l : List Sp} {b : List Int} (h : Begs f l b) (hf : ∀ s ∈ l, (0 ≤ f s.1 ∧ f s.1 ≤ 65535) ∧ 0 ≤ f s.2) : ∀ x ∈ b, 0 ≤ x ∧ x ≤ 65535 := fun x hx => by
  rcases (h.mem x).1 hx with rfl | ⟨s, hs, rfl | ⟨h1, rfl⟩⟩
  · omega
  · exact (hf s hs).1
  · have := (hf s hs).2; omega

/-- The greatest beginning that isn't beyond x. -/
theorem Begs.below {f : Int → Int} {l : List Sp} {b : List Int} (h : Begs f l b) (x : Int) (h0 : 0 ≤ x) : ∃ y ∈ b, y ≤ x ∧ ∀ z ∈ b, z ≤ x → z ≤ y := by
  have key : ∀ (b : List Int), (∃ y ∈ b, y ≤ x) → ∃ y ∈ b, y ≤ x ∧ ∀ z ∈ b, z ≤ x → z ≤ y := by
    intro b
    induction b with
    | nil => rintro ⟨y, hy, _⟩; simp at hy
    | cons a b ih =>
      rintro ⟨y, hy, hyx⟩
      by_cases hb : ∃ y ∈ b, y ≤ x
      · obtain ⟨m, hm, h1, h2⟩ := ih hb
        by_cases ha : a ≤ x ∧ m < a
        · exact ⟨a, by simp, ha.1, fun z hz hzx => by
            rcases List.mem_cons.1 hz with rfl | hz
            · omega
            · have := h2 z hz hzx; omega⟩
        · exact ⟨m, by simp [hm], h1, fun z hz hzx => by
            rcases List.mem_cons.1 hz with rfl | hz
            · omega
            · exact h2 z hz hzx⟩
      · have hya : y = a := by
          rcases List.mem_cons.1 hy with h | h
          · exact h
          · exact absurd ⟨y, h, hyx⟩ hb
        subst hya
        exact ⟨y, by simp, hyx, fun z hz hzx => by
          rcases List.mem_cons.1 hz with rfl | hz
          · omega
          · exact absurd ⟨z, hz, hzx⟩ hb⟩
  exact key b ⟨0, (h.mem 0).2 (Or.inl rfl), h0⟩

/-- Along one side nothing is told apart between a beginning and what is behind it. -/
theorem Begs.side {f : Int → Int} {l : List Sp} {b : List Int} (h : Begs f l b) {x y : Int} (hx : x ≤ 65535) (hyx : y ≤ x) (hy : ∀ z ∈ b, z ≤ x → z ≤ y) {s : Sp} (hs : s ∈ l) :
    (f s.1 ≤ x ↔ f s.1 ≤ y) ∧ (x ≤ f s.2 ↔ y ≤ f s.2) := by
  have m1 : f s.1 ∈ b := (h.mem _).2 (Or.inr ⟨s, hs, Or.inl rfl⟩)
  refine ⟨⟨fun h1 => hy _ m1 h1, fun h1 => by omega⟩, ⟨fun h1 => by omega, fun h1 => ?_⟩⟩
  by_cases hc : f s.2 < x
  · have m2 : f s.2 + 1 ∈ b := (h.mem _).2 (Or.inr ⟨s, hs, Or.inr ⟨by omega, rfl⟩⟩)
    have := hy _ m2 (by omega)
    omega
  · omega

theorem parts_of (x y : Int) (hy : 0 ≤ y ∧ y ≤ 65535) : (65536 * x + y) / 65536 = x ∧ (65536 * x + y) % 65536 = y := by omega

theorem good_hi {l : List Sp} (h : Good l) : ∀ s ∈ l, (0 ≤ hiP s.1 ∧ hiP s.1 ≤ 65535) ∧ 0 ≤ hiP s.2 := fun s hs => by
  have := h s hs; unfold hiP; omega
theorem good_lo {l : List Sp} (h : Good l) : ∀ s ∈ l, (0 ≤ loP s.1 ∧ loP s.1 ≤ 65535) ∧ 0 ≤ loP s.2 := fun s hs => by
  have := h s hs; unfold loP; omega

/-- Of each community there is a corner of its kind that isn't greater. -/
theorem corner_of {l : List Sp} {X Y : List Int} (hX : Begs hiP l X) (hY : Begs loP l Y) (hg : Good l) {c : Int} (hc : Num c) : ∃ d ∈ corners X Y, alike l c d = true ∧ d ≤ c := by
  obtain ⟨c0, c1⟩ := hc
  obtain ⟨x, hx, x1, x2⟩ := hX.below (c / 65536) (by omega)
  obtain ⟨y, hy, y1, y2⟩ := hY.below (c % 65536) (by omega)
  have yr := hY.rng (good_lo hg) y hy
  refine ⟨65536 * x + y, mem_corners.2 ⟨x, hx, y, hy, rfl⟩, alike_iff.2 fun s hs => ?_, by omega⟩
  obtain ⟨a1, a2⟩ := hX.side (by omega) x1 x2 hs
  obtain ⟨b1, b2⟩ := hY.side (by omega) y1 y2 hs
  obtain ⟨p1, p2⟩ := parts_of x y yr
  unfold inB
  rw [p1, p2]
  unfold hiP at a1 a2
  unfold loP at b1 b2
  rw [decide_eq_decide.2 a1, decide_eq_decide.2 a2, decide_eq_decide.2 b1, decide_eq_decide.2 b2]

/-- What the law asks of cells. -/
theorem IsCells.kinds {l : List Sp} {o : List Int} (h : IsCells l o) (hg : Good l) : Rising o ∧ Apart l o ∧ (∀ d ∈ o, Num d) ∧ ∀ c, Num c → ∃ d ∈ o, alike l c d = true ∧ d ≤ c := by
  obtain ⟨X, Y, hX, hY, rfl⟩ := h
  have hr := corners_rising hY.rising (hY.rng (good_lo hg)) hX.rising
  obtain ⟨t, ht, hsub⟩ := cellsFold_sub l (corners X Y) []
  rw [List.nil_append] at ht
  refine ⟨?_, apart_fold _ _ List.Pairwise.nil, fun d hd => ?_, fun c hc => ?_⟩
  · rw [ht]; exact hr.sublist hsub
  · rw [ht] at hd
    obtain ⟨x, hx, y, hy, rfl⟩ := mem_corners.1 (hsub.subset hd)
    have := hX.rng (good_hi hg) x hx
    have := hY.rng (good_lo hg) y hy
    unfold Num
    omega
  · obtain ⟨d, hd, h1, h2⟩ := corner_of hX hY hg hc
    obtain ⟨e, he, h3, h4⟩ := fold_has (l := l) (corners X Y) [] (by simp) (hr.imp fun h => Int.le_of_lt h) d hd
    exact ⟨e, he, alike_trans h1 h3, by omega⟩

theorem rising_length : ∀ {b : List Int} {lo hi : Int}, Rising b → (∀ x ∈ b, lo ≤ x ∧ x ≤ hi) → lo ≤ hi + 1 → (b.length : Int) ≤ hi - lo + 1
  | [], lo, hi, _, _, h => by simp; omega
  | x :: t, lo, hi, hr, hb, h => by
    obtain ⟨h1, h2⟩ := List.pairwise_cons.1 hr
    have hx := hb x (by simp)
    have := rising_length (lo := x + 1) (hi := hi) h2 (fun y hy => ⟨by have := h1 y hy; omega, (hb y (by simp [hy])).2⟩) (by omega)
    simp
    omega

theorem IsCells.len {l : List Sp} {o : List Int} (h : IsCells l o) (hg : Good l) : o.length ≤ 4294967296 := by
  obtain ⟨h1, _, h3, _⟩ := h.kinds hg
  have := rising_length (lo := 0) (hi := 4294967295) h1 (fun x hx => h3 x hx) (by omega)
  omega

end Go.Proofs.Ytepioggejacfjaa
