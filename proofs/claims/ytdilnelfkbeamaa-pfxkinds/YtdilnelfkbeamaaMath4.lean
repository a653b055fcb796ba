/-
  Plain mathematics of Kinds.
-/
import Derived.Test.YtdilnelfkbeamaaMath3
namespace Go.Proofs.Ytdilnelfkbeamaa

/-- Are two prefixes of one kind? -/
def alikeB (l : List Rg) (p q : Pf) : Bool := l.all fun x => inR x p == inR x q

theorem alikeB_iff {l : List Rg} {p q : Pf} : alikeB l p q = true ↔ ∀ x ∈ l, inR x p = inR x q := by
  unfold alikeB
  simp
theorem alikeB_self (l : List Rg) (p : Pf) : alikeB l p p = true := alikeB_iff.2 fun _ _ => rfl
theorem alikeB_comm {l : List Rg} {p q : Pf} (h : alikeB l p q = true) : alikeB l q p = true := alikeB_iff.2 fun x hx => (alikeB_iff.1 h x hx).symm
theorem alikeB_trans {l : List Rg} {p q r : Pf} (h : alikeB l p q = true) (k : alikeB l q r = true) : alikeB l p r = true := alikeB_iff.2 fun x hx => (alikeB_iff.1 h x hx).trans (alikeB_iff.1 k x hx)

/-- By Len, then by Addr. -/
def lexLe (p q : Pf) : Prop := p.len < q.len ∨ (p.len = q.len ∧ p.addr ≤ q.addr)
def lexLt (p q : Pf) : Prop := p.len < q.len ∨ (p.len = q.len ∧ p.addr < q.addr)

theorem lexLe_refl (p : Pf) : lexLe p p := Or.inr ⟨rfl, Int.le_refl _⟩
theorem lexLe_trans {p q r : Pf} (h : lexLe p q) (k : lexLe q r) : lexLe p r := by unfold lexLe at *; omega
theorem lexLe_antisymm {p q : Pf} (h : lexLe p q) (k : lexLe q p) : p = q := by
  unfold lexLe at *
  obtain ⟨a, b⟩ := p
  obtain ⟨c, d⟩ := q
  simp only at *
  have : a = c := by omega
  have : b = d := by omega
  subst_vars
  rfl
theorem lexLt_of {p q : Pf} (h : lexLe p q) (hne : p ≠ q) : lexLt p q := by
  unfold lexLe lexLt at *
  rcases h with h | ⟨h1, h2⟩
  · exact Or.inl h
  · refine Or.inr ⟨h1, ?_⟩
    by_cases e : p.addr = q.addr
    · exfalso
      apply hne
      obtain ⟨a, b⟩ := p
      obtain ⟨c, d⟩ := q
      simp only at *
      subst_vars
      rfl
    · omega
theorem lexLt_irrefl {p : Pf} (h : lexLt p p) : False := by unfold lexLt at h; omega
theorem lexLt_asymm {p q : Pf} (h : lexLt p q) (k : lexLt q p) : False := by unfold lexLt at *; omega

/-- Lists that rise by this order are told by what they have. -/
theorem lex_unique : ∀ {l m : List Pf}, l.Pairwise lexLt → m.Pairwise lexLt → (∀ x, x ∈ l ↔ x ∈ m) → l = m
  | [], [], _, _, _ => rfl
  | [], b :: m, _, _, h => absurd ((h b).2 List.mem_cons_self) (by simp)
  | a :: l, [], _, _, h => absurd ((h a).1 List.mem_cons_self) (by simp)
  | a :: l, b :: m, hl, hm, h => by
    have h1 := List.pairwise_cons.1 hl
    have h2 := List.pairwise_cons.1 hm
    have e : a = b := by
      rcases List.mem_cons.1 ((h a).1 List.mem_cons_self) with e | e
      · exact e
      · rcases List.mem_cons.1 ((h b).2 List.mem_cons_self) with f | f
        · exact f.symm
        · exact (lexLt_asymm (h1.1 b f) (h2.1 a e)).elim
    subst e
    rw [lex_unique h1.2 h2.2 fun x => ⟨fun hx => ?_, fun hx => ?_⟩]
    · rcases List.mem_cons.1 ((h x).1 (List.mem_cons_of_mem _ hx)) with e | e
      · subst e; exact (lexLt_irrefl (h1.1 x hx)).elim
      · exact e
    · rcases List.mem_cons.1 ((h x).2 (List.mem_cons_of_mem _ hx)) with e | e
      · subst e; exact (lexLt_irrefl (h2.1 x hx)).elim
      · exact e

/-- A prefix that may be. -/
def OkPf (p : Pf) : Prop := Num p.addr ∧ rightP p.addr p.len = true

/-- Of each kind the first one, in order. -/
structure IsKinds (l : List Rg) (out : List Pf) : Prop where
  ok : ∀ q ∈ out, OkPf q
  rising : out.Pairwise lexLt
  all : ∀ p, OkPf p → ∃ q ∈ out, alikeB l q p = true ∧ lexLe q p
  apart : out.Pairwise fun p q => alikeB l p q = false

theorem IsKinds.eq_of_alike {l : List Rg} {out : List Pf} (h : IsKinds l out) {p q : Pf} (hp : p ∈ out) (hq : q ∈ out) (ha : alikeB l p q = true) : p = q := by
  have key : ∀ (m : List Pf), m.Pairwise (fun p q => alikeB l p q = false) → p ∈ m → q ∈ m → p = q := by
    intro m
    induction m with
    | nil => intro _ hp; simp at hp
    | cons a m ih =>
      intro hm hp hq
      have h1 := List.pairwise_cons.1 hm
      rcases List.mem_cons.1 hp with rfl | hp'
      · rcases List.mem_cons.1 hq with rfl | hq
        · rfl
        · have := h1.1 q hq; rw [ha] at this; cases this
      · rcases List.mem_cons.1 hq with e | hq
        · rw [← e] at h1
          have := h1.1 p hp'
          rw [alikeB_comm ha] at this
          cases this
        · exact ih h1.2 hp' hq
  exact key out h.apart hp hq

theorem IsKinds.unique {l : List Rg} {out out' : List Pf} (h : IsKinds l out) (k : IsKinds l out') : out = out' := by
  have half : ∀ {a b : List Pf}, IsKinds l a → IsKinds l b → ∀ q, q ∈ a → q ∈ b := by
    intro a b ha hb q hq
    obtain ⟨q', hq', h1, h2⟩ := hb.all q (ha.ok q hq)
    obtain ⟨q'', hq'', h3, h4⟩ := ha.all q' (hb.ok q' hq')
    have e := ha.eq_of_alike hq'' hq (alikeB_trans h3 h1)
    subst e
    have := lexLe_antisymm h2 h4
    subst this
    exact hq'
  exact lex_unique h.rising k.rising fun x => ⟨half h k x, half k h x⟩

/-- One prefix more is met. -/
def visit (l : List Rg) (out : List Pf) (p : Pf) : List Pf := if out.any (fun q => alikeB l p q) then out else out ++ [p]

/-- What was met, in order: all right, none left out. -/
structure Met (l : List Rg) (T : List Pf) (out : List Pf) : Prop where
  sub : ∀ q ∈ out, q ∈ T
  rising : out.Pairwise lexLt
  all : ∀ p ∈ T, ∃ q ∈ out, alikeB l q p = true ∧ lexLe q p
  apart : out.Pairwise fun p q => alikeB l p q = false

theorem Met.nil (l : List Rg) : Met l [] [] := ⟨fun q hq => by simp at hq, List.Pairwise.nil, fun p hp => by simp at hp, List.Pairwise.nil⟩

theorem Met.visit {l : List Rg} {T out : List Pf} {p : Pf} (h : Met l T out) (hs : ∀ q ∈ T, lexLe q p) : Met l (T ++ [p]) (visit l out p) := by
  unfold Go.Proofs.Ytdilnelfkbeamaa.visit
  by_cases ha : out.any (fun q => alikeB l p q) = true
  · rw [if_pos ha]
    refine ⟨fun q hq => List.mem_append_left _ (h.sub q hq), h.rising, fun q hq => ?_, h.apart⟩
    rcases List.mem_append.1 hq with hq | hq
    · exact h.all q hq
    · simp at hq
      subst hq
      obtain ⟨c, hc, hca⟩ := List.any_eq_true.1 ha
      exact ⟨c, hc, alikeB_comm hca, hs c (h.sub c hc)⟩
  · rw [if_neg ha]
    have hn : ∀ q ∈ out, alikeB l p q = false := fun q hq => by
      cases hh : alikeB l p q
      · rfl
      · exact absurd (List.any_eq_true.2 ⟨q, hq, hh⟩) ha
    refine ⟨fun q hq => ?_, ?_, fun q hq => ?_, ?_⟩
    · rcases List.mem_append.1 hq with hq | hq
      · exact List.mem_append_left _ (h.sub q hq)
      · exact List.mem_append_right _ hq
    · refine List.pairwise_append.2 ⟨h.rising, by simp, fun a ha' b hb => ?_⟩
      simp at hb
      subst hb
      refine lexLt_of (hs a (h.sub a ha')) ?_
      intro e
      subst e
      have := hn a ha'
      rw [alikeB_self] at this
      cases this
    · rcases List.mem_append.1 hq with hq | hq
      · obtain ⟨c, hc, h1⟩ := h.all q hq
        exact ⟨c, List.mem_append_left _ hc, h1⟩
      · simp at hq
        subst hq
        exact ⟨q, List.mem_append_right _ (by simp), alikeB_self _ _, lexLe_refl _⟩
    · refine List.pairwise_append.2 ⟨h.apart, by simp, fun a ha' b hb => ?_⟩
      simp at hb
      subst hb
      cases hh : alikeB l a b
      · rfl
      · have := hn a ha'
        rw [alikeB_comm hh] at this
        cases this

/-- The addresses of one length: in order, right, and one of each kind not behind. -/
structure RowOk (l : List Rg) (n : Int) (R : List Int) : Prop where
  order : R.Pairwise (· ≤ ·)
  ok : ∀ c ∈ R, OkPf ⟨c, n⟩
  all : ∀ P, OkPf ⟨P, n⟩ → ∃ c ∈ R, c ≤ P ∧ alikeB l ⟨c, n⟩ ⟨P, n⟩ = true

/-- All lengths below n are swept. -/
structure Swept (l : List Rg) (n : Int) (T : List Pf) : Prop where
  ok : ∀ c ∈ T, OkPf c
  below : ∀ c ∈ T, c.len < n
  all : ∀ p, OkPf p → p.len < n → ∃ c ∈ T, alikeB l c p = true ∧ lexLe c p

theorem Swept.zero (l : List Rg) : Swept l 0 [] := ⟨fun c hc => by simp at hc, fun c hc => by simp at hc, fun p hp hn => by have := rightP_len hp.2; omega⟩

theorem Swept.row {l : List Rg} {n : Int} {T : List Pf} {R : List Int} (h : Swept l n T) (k : RowOk l n R) : Swept l (n + 1) (T ++ R.map fun c => ⟨c, n⟩) := by
  refine ⟨fun c hc => ?_, fun c hc => ?_, fun p hp hn => ?_⟩
  · rcases List.mem_append.1 hc with hc | hc
    · exact h.ok c hc
    · obtain ⟨a, ha, rfl⟩ := List.mem_map.1 hc
      exact k.ok a ha
  · rcases List.mem_append.1 hc with hc | hc
    · have := h.below c hc; omega
    · obtain ⟨a, ha, rfl⟩ := List.mem_map.1 hc
      simp only
      omega
  · by_cases e : p.len = n
    · obtain ⟨P, m⟩ := p
      simp only at e
      subst e
      obtain ⟨c, hc, h1, h2⟩ := k.all P hp
      exact ⟨⟨c, m⟩, List.mem_append_right _ (List.mem_map.2 ⟨c, hc, rfl⟩), h2, Or.inr ⟨rfl, h1⟩⟩
    · obtain ⟨c, hc, h1⟩ := h.all p hp (by omega)
      exact ⟨c, List.mem_append_left _ hc, h1⟩

theorem Swept.done {l : List Rg} {T out : List Pf} (h : Swept l 33 T) (k : Met l T out) : IsKinds l out := by
  refine ⟨fun q hq => h.ok q (k.sub q hq), k.rising, fun p hp => ?_, k.apart⟩
  obtain ⟨c, hc, h1, h2⟩ := h.all p hp (by have := rightP_len hp.2; omega)
  obtain ⟨q, hq, h3, h4⟩ := k.all c hc
  exact ⟨q, hq, alikeB_trans h3 h1, lexLe_trans h4 h2⟩

/-- In a range: between its first and its last address. -/
theorem mask_between {P a n : Int} (ha : maskA a n = a) : maskA P n = a ↔ a ≤ P ∧ P < a + sz n := by
  have hs := sz_pos n
  constructor
  · intro h
    have h1 := maskA_le P n
    have h2 := maskA_lt P n
    rw [h] at h1 h2
    exact ⟨h1, h2⟩
  · rintro ⟨h1, h2⟩
    have h3 := maskA_mono h1 n
    rw [ha] at h3
    have h4 := maskA_le P n
    have h5 : maskA P n < a + sz n := by omega
    rw [← ha] at h3 h5 ⊢
    unfold maskA at *
    have h6 : a / sz n ≤ P / sz n := Int.le_of_mul_le_mul_right h3 (by omega)
    have h7 : P / sz n < a / sz n + 1 := Int.lt_of_mul_lt_mul_right (a := sz n) (by rw [Int.add_mul, Int.one_mul]; exact h5) (by omega)
    have : P / sz n = a / sz n := by omega
    rw [this]

/-- The address behind a range's last one. -/
theorem behind_right {x : Rg} {n : Int} (h : hasLen x n = true) : maskA (x.addr + sz x.len) n = x.addr + sz x.len ∧ maskA x.addr n = x.addr ∧ 0 ≤ n ∧ n ≤ 32 := by
  obtain ⟨hr, h1, h2⟩ := hasLen_iff.1 h
  obtain ⟨hp, h3, h4, h5⟩ := rightR_iff.1 hr
  have hl := rightP_len hp
  have hx := (rightP_iff.1 (rightP_more hp (show x.len ≤ n by omega) (by omega))).1
  refine ⟨?_, hx, by omega, by omega⟩
  obtain ⟨t, ht, e⟩ := sz_mul (clampL_mono (show x.len ≤ n by omega))
  have hs := sz_pos n
  have hd : x.addr = x.addr / sz n * sz n := by
    have := hx
    unfold maskA at this
    exact this.symm
  have h8 : x.addr + sz x.len = (x.addr / sz n + t) * sz n := by
    rw [Int.add_mul, ← hd, e, Int.mul_comm t (sz n)]
  unfold maskA
  rw [h8, Int.mul_ediv_cancel _ (by omega)]

/-- Nothing ends or begins between them: of one kind. -/
theorem alike_of {l : List Rg} {n c P : Int} (hc : OkPf ⟨c, n⟩) (hP : OkPf ⟨P, n⟩) (hle : c ≤ P) (h : ∀ x ∈ l, hasLen x n = true → (x.addr ≤ P → x.addr ≤ c) ∧ (x.addr + sz x.len ≤ P → x.addr + sz x.len ≤ c)) : alikeB l ⟨c, n⟩ ⟨P, n⟩ = true := by
  refine alikeB_iff.2 fun x hx => ?_
  by_cases hn : hasLen x n = true
  · have hr := (rightP_iff.1 (rightR_iff.1 (hasLen_iff.1 hn).1).1).1
    obtain ⟨h1, h2⟩ := h x hx hn
    apply bool_eq
    unfold inR
    simp only [hn, hc.2, hP.2, Bool.true_and, decide_eq_true_iff]
    rw [mask_between hr, mask_between hr]
    constructor
    · rintro ⟨h3, h4⟩
      exact ⟨by omega, by omega⟩
    · rintro ⟨h3, h4⟩
      exact ⟨by omega, by omega⟩
  · unfold inR
    simp [hn]

/-- Where kinds of one length may begin. -/
def behind (x : Rg) : Int := (x.addr + sz x.len) % 4294967296
def cutsRaw (l : List Rg) (n : Int) : List Int := 0 :: l.flatMap fun x => if hasLen x n then [x.addr, behind x] else []

theorem okPf_zero {n : Int} (h0 : 0 ≤ n) (h1 : n ≤ 32) : OkPf ⟨0, n⟩ := by
  refine ⟨⟨by simp, by simp⟩, rightP_iff.2 ⟨?_, clampL_of h0 h1⟩⟩
  unfold maskA
  simp

/-- The greatest number of a list that is not greater than P. -/
theorem exists_max : ∀ (R : List Int) (P : Int), (∃ c ∈ R, c ≤ P) → ∃ c ∈ R, c ≤ P ∧ ∀ x ∈ R, x ≤ P → x ≤ c
  | [], P, h => by obtain ⟨c, hc, _⟩ := h; simp at hc
  | a :: R, P, h => by
    by_cases ha : a ≤ P
    · by_cases hR : ∃ c ∈ R, c ≤ P
      · obtain ⟨c, hc, h1, h2⟩ := exists_max R P hR
        by_cases hac : a ≤ c
        · refine ⟨c, List.mem_cons_of_mem _ hc, h1, fun x hx hxP => ?_⟩
          rcases List.mem_cons.1 hx with rfl | hx
          · exact hac
          · exact h2 x hx hxP
        · refine ⟨a, List.mem_cons_self, ha, fun x hx hxP => ?_⟩
          rcases List.mem_cons.1 hx with rfl | hx
          · exact Int.le_refl _
          · have := h2 x hx hxP; omega
      · refine ⟨a, List.mem_cons_self, ha, fun x hx hxP => ?_⟩
        rcases List.mem_cons.1 hx with rfl | hx
        · exact Int.le_refl _
        · exact absurd ⟨x, hx, hxP⟩ hR
    · obtain ⟨c, hc, hcP⟩ := h
      have hcR : c ∈ R := by
        rcases List.mem_cons.1 hc with rfl | hc
        · exact absurd hcP ha
        · exact hc
      obtain ⟨d, hd, h1, h2⟩ := exists_max R P ⟨c, hcR, hcP⟩
      refine ⟨d, List.mem_cons_of_mem _ hd, h1, fun x hx hxP => ?_⟩
      rcases List.mem_cons.1 hx with rfl | hx
      · exact absurd hxP ha
      · exact h2 x hx hxP

theorem cuts_ok {l : List Rg} {n : Int} {R : List Int} (hl : GoodG l) (h0 : 0 ≤ n) (h1 : n ≤ 32) (h : IsSet (cutsRaw l n) R) : RowOk l n R := by
  have hok : ∀ c ∈ R, OkPf ⟨c, n⟩ := fun c hc => by
    have := (h.2 c).1 hc
    unfold cutsRaw at this
    rcases List.mem_cons.1 this with rfl | hc
    · exact okPf_zero h0 h1
    · obtain ⟨x, hx, hxc⟩ := List.mem_flatMap.1 hc
      split at hxc
      · rename_i hn
        obtain ⟨b1, b2, _, _⟩ := behind_right hn
        have hxr := hl x hx
        simp at hxc
        rcases hxc with rfl | rfl
        · exact ⟨hxr, rightP_iff.2 ⟨b2, clampL_of h0 h1⟩⟩
        · refine ⟨⟨by unfold behind; simp only; omega, by unfold behind; simp only; omega⟩, rightP_iff.2 ⟨?_, clampL_of h0 h1⟩⟩
          have hle := sz_le x.len
          have hp := sz_pos x.len
          have hx1 := hxr.1
          have hx2 := hxr.2
          simp only
          unfold behind
          by_cases hb : x.addr + sz x.len < 4294967296
          · rw [Int.emod_eq_of_lt (by omega) hb]
            exact b1
          · have hT : x.addr + sz x.len ≤ 4294967296 := by
              have hx3 := (rightP_iff.1 (rightR_iff.1 (hasLen_iff.1 hn).1).1).1
              have l2 := maskA_lt 4294967295 x.len
              have l1 := maskA_mono (show x.addr ≤ 4294967295 by omega) x.len
              rw [hx3] at l1
              obtain ⟨t, _, e⟩ := sz_mul (n := 0) (k := x.len) (clampL_mono (by have := rightP_len (rightR_iff.1 (hasLen_iff.1 hn).1).1; omega))
              rw [sz_zero] at e
              have e2 : maskA 4294967295 x.len = 4294967296 - sz x.len := by
                have : (4294967295 : Int) = (t - 1) * sz x.len + (sz x.len - 1) := by
                  rw [Int.sub_mul, Int.one_mul, Int.mul_comm, ← e]
                  omega
                unfold maskA
                have hq : (4294967295 : Int) / sz x.len = t - 1 := by
                  rw [this]
                  rw [Int.add_comm, Int.add_mul_ediv_right _ _ (by omega), Int.ediv_eq_zero_of_lt (by omega) (by omega)]
                  omega
                rw [hq, Int.sub_mul, Int.one_mul, Int.mul_comm, ← e]
              omega
            have : x.addr + sz x.len = 4294967296 := by omega
            rw [this]
            unfold maskA
            simp
      · simp at hxc
  refine ⟨List.Pairwise.imp (fun h => Int.le_of_lt h) h.1, hok, fun P hP => ?_⟩
  have h0R : (0 : Int) ∈ R := (h.2 0).2 List.mem_cons_self
  obtain ⟨c, hc, h2, h3⟩ := exists_max R P ⟨0, h0R, hP.1.1⟩
  refine ⟨c, hc, h2, alike_of (hok c hc) hP h2 fun x hx hn => ⟨fun h4 => ?_, fun h4 => ?_⟩⟩
  · exact h3 x.addr ((h.2 _).2 (List.mem_cons_of_mem _ (List.mem_flatMap.2 ⟨x, hx, by rw [if_pos hn]; simp⟩))) h4
  · have hlt : x.addr + sz x.len < 4294967296 := by have := hP.1.2; simp only at this; omega
    have e : behind x = x.addr + sz x.len := Int.emod_eq_of_lt (by have := (hl x hx).1; have := sz_pos x.len; omega) hlt
    have := h3 (behind x) ((h.2 _).2 (List.mem_cons_of_mem _ (List.mem_flatMap.2 ⟨x, hx, by rw [if_pos hn]; simp⟩))) (by rw [e]; exact h4)
    rw [e] at this
    exact this

/-- The document's own: where a base begins, or what is behind it. -/
def begPiece (x : Rg) : List Int := if rightR x then x.addr :: (if x.addr + sz x.len < 4294967296 then [x.addr + sz x.len] else []) else []
def begRaw (l : List Rg) : List Int := 0 :: l.flatMap begPiece

theorem begins_ok {l : List Rg} {n : Int} {R : List Int} (hl : GoodG l) (h0 : 0 ≤ n) (h1 : n ≤ 32) (h : IsSet (begRaw l) R) : RowOk l n (R.map fun c => maskA c n) := by
  have hnum : ∀ c ∈ R, Num c := fun c hc => by
    have := (h.2 c).1 hc
    unfold begRaw at this
    rcases List.mem_cons.1 this with rfl | hc
    · exact ⟨by simp, by simp⟩
    · obtain ⟨x, hx, hxc⟩ := List.mem_flatMap.1 hc
      have hxr := hl x hx
      have hp := sz_pos x.len
      unfold begPiece at hxc
      split at hxc
      · rcases List.mem_cons.1 hxc with rfl | hxc
        · exact hxr
        · split at hxc
          · simp at hxc
            subst hxc
            have := hxr.1
            exact ⟨by omega, by omega⟩
          · simp at hxc
      · simp at hxc
  have hok : ∀ c ∈ R, OkPf ⟨maskA c n, n⟩ := fun c hc => ⟨maskA_range (hnum c hc), rightP_mask c h0 h1⟩
  refine ⟨?_, fun c hc => ?_, fun P hP => ?_⟩
  · rw [List.pairwise_map]
    exact List.Pairwise.imp (fun h => maskA_mono (Int.le_of_lt h) n) h.1
  · obtain ⟨a, ha, rfl⟩ := List.mem_map.1 hc
    exact hok a ha
  · have h0R : (0 : Int) ∈ R := (h.2 0).2 List.mem_cons_self
    obtain ⟨c, hc, h2, h3⟩ := exists_max R P ⟨0, h0R, hP.1.1⟩
    have hcm : maskA c n ≤ P := Int.le_trans (maskA_le c n) h2
    refine ⟨maskA c n, List.mem_map.2 ⟨c, hc, rfl⟩, hcm, alike_of (hok c hc) hP hcm fun x hx hn => ?_⟩
    obtain ⟨b1, b2, _, _⟩ := behind_right hn
    have hr := (hasLen_iff.1 hn).1
    refine ⟨fun h4 => ?_, fun h4 => ?_⟩
    · have := maskA_mono (h3 x.addr ((h.2 _).2 (List.mem_cons_of_mem _ (List.mem_flatMap.2 ⟨x, hx, by unfold begPiece; rw [if_pos hr]; simp⟩))) h4) n
      rw [b2] at this
      exact this
    · have hlt : x.addr + sz x.len < 4294967296 := by have := hP.1.2; simp only at this; omega
      have := maskA_mono (h3 (x.addr + sz x.len) ((h.2 _).2 (List.mem_cons_of_mem _ (List.mem_flatMap.2 ⟨x, hx, by unfold begPiece; rw [if_pos hr, if_pos hlt]; simp⟩))) h4) n
      rw [b1] at this
      exact this

end Go.Proofs.Ytdilnelfkbeamaa
