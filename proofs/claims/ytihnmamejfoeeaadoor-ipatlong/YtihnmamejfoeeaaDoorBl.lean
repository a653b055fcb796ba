/-
  Whole texts: printed and read again, with and without the signs at the ends; which bytes a text that is read may have. Mathematics.
-/
import Derived.Test.YtihnmamejfoeeaaDoorBk
namespace Go.Proofs.YtihnmamejfoeeaaDoor
open Go.Proofs.YtihnmamejfoeeaaDoorS1 (NF inS Good)

/-- The text of a whole pattern. -/
noncomputable def wholeX (t : Tree) : Bs := 94 :: (textT t 0 ++ [36])

theorem alt_94 (alt : Bs → Option Rd) (r : Bs) : altM alt (94 :: r) = none := by
  have e1 : numM (94 :: r) = none := num_none (by decide) r
  have e2 : atomM alt (94 :: r) = none := by simp [atomM, e1]
  have e3 : itemM alt (94 :: r) = none := by simp [itemM, e2]
  have e4 : catM alt (94 :: r) = none := by simp [catM, endsM, listM, e3]
  simp [altM, listM, e4]

theorem text_head {t : Tree} (hk : kindsT t = true) (hg : goodT t) : headIs 94 (textT t 0) = false := by
  obtain ⟨t', f, e, _⟩ := (says_all _ t (Nat.le_refl _) hk hg (textT t 0).length).alt [] rfl (by simp) (by simp)
  rw [List.append_nil] at e
  cases h : textT t 0 with
  | nil => rfl
  | cons c q =>
    by_cases hc : c = 94
    · subst hc
      rw [h, alt_94] at e
      cases e
    · simp [headIs, hc]

/-- What is printed is read as what it was, or is too full. -/
theorem back_whole {t : Tree} (hk : kindsT t = true) (hg : goodT t) : parseM (wholeX t) = (zeT, 6) ∨ parseM (wholeX t) = (readT t, 0) := by
  unfold parseM
  split
  · exact Or.inl rfl
  obtain ⟨t', f, e, hf⟩ := (says_all _ t (Nat.le_refl _) hk hg (wholeX t).length).alt [36] rfl (by simp) (by simp [wholeX])
  have e1 : altN ((wholeX t).length + 1) (tailIf (headIs 94 (wholeX t)) (wholeX t)) = some ⟨t', false, f, [36]⟩ := e
  have e2 : patM (wholeX t) = some (t', false, f) := by
    unfold patM
    rw [e1]
    simp [headIs, tailIf, wholeM, wholeX]
  rw [e2]
  cases f with
  | true => exact Or.inl rfl
  | false => right; simp [hf rfl]

/-- Without the signs at the ends. -/
theorem back_some {t : Tree} (hk : kindsT t = true) (hg : goodT t) : parseM (textT t 0) = (zeT, 6) ∨ parseM (textT t 0) = (.mk 2 [] [stT allT, readT t, stT allT], 0) := by
  unfold parseM
  split
  · exact Or.inl rfl
  obtain ⟨t', f, e, hf⟩ := (says_all _ t (Nat.le_refl _) hk hg (textT t 0).length).alt [] rfl (by simp) (by simp)
  rw [List.append_nil] at e
  have e1 : altN ((textT t 0).length + 1) (textT t 0) = some ⟨t', false, f, []⟩ := e
  have e2 : patM (textT t 0) = some ((keptM (.mk 2 [] [stT allT, t', stT allT])).1, false, f || (keptM (.mk 2 [] [stT allT, t', stT allT])).2) := by
    unfold patM
    rw [text_head hk hg]
    simp only [tailIf]
    rw [if_neg (by decide), e1]
    simp [headIs, wholeM, wholeL]
  rw [e2]
  cases hq : (f || (keptM (.mk 2 [] [stT allT, t', stT allT])).2) with
  | true => exact Or.inl rfl
  | false =>
    simp at hq
    right
    rw [kept_false hq.2, hf hq.1]
    rfl

theorem takes_all (s : List Int) : takes allT s ↔ ∃ n, s = [n] ∧ 0 ≤ n ∧ n ≤ 4294967295 := by
  unfold allT
  rw [takesOne]
  simp [inSet]
theorem takes_stAll (s : List Int) (h : ∀ n ∈ s, 0 ≤ n ∧ n ≤ 4294967295) : takes (stT allT) s := by
  unfold stT
  rw [takesStar]
  induction s with
  | nil => exact .nil
  | cons a s ih => exact StarL.cons (a := [a]) ((takes_all _).2 ⟨a, rfl, h a (by simp)⟩) (ih fun n hn => h n (by simp [hn]))

theorem mem_seg {s : List Int} {i k : Nat} {n : Int} (h : n ∈ seg s i k) : n ∈ s := by
  unfold seg at h
  exact List.mem_of_mem_drop (List.mem_of_mem_take h)

/-- Something ahead, and behind. -/
theorem takes_some (t : Tree) (s : List Int) (h : ∀ n ∈ s, 0 ≤ n ∧ n ≤ 4294967295) : takes (.mk 2 [] [stT allT, t, stT allT]) s ↔ ∃ i k : Nat, i ≤ k ∧ k ≤ s.length ∧ takes t (seg s i k) := by
  rw [takesCat', takesCat_cons]
  constructor
  · rintro ⟨a, b, rfl, _, h2⟩
    rw [takesCat_cons] at h2
    obtain ⟨c, d, rfl, h3, _⟩ := h2
    refine ⟨a.length, a.length + c.length, by omega, by simp, ?_⟩
    have : seg (a ++ (c ++ d)) a.length (a.length + c.length) = c := by simp [seg]
    rw [this]; exact h3
  · rintro ⟨i, k, h1, h2, h3⟩
    refine ⟨seg s 0 i, seg s i k ++ seg s k s.length, ?_, takes_stAll _ ?_, ?_⟩
    · rw [seg_append s h1 h2, seg_append s (Nat.zero_le _) (by omega), seg_all]
    · intro n hn
      exact h n (mem_seg hn)
    · rw [takesCat_cons]
      refine ⟨_, _, rfl, h3, ?_⟩
      rw [takesCat_cons]
      exact ⟨seg s k s.length, [], by simp, takes_stAll _ (fun n hn => h n (mem_seg hn)), (takesCat_nil _).2 rfl⟩

/-! ### Which bytes there may be -/

def okB (c : UInt8) : Bool := isDig c || decide (c ∈ ([91, 93, 45, 46, 33, 40, 41, 124, 95, 42, 43, 63, 94, 36] : List UInt8))

def Eats (r r' : Bs) : Prop := ∃ u, r = u ++ r' ∧ ∀ c ∈ u, okB c = true
theorem Eats.refl (r : Bs) : Eats r r := ⟨[], rfl, by simp⟩
theorem Eats.trans {a b c : Bs} (h : Eats a b) (k : Eats b c) : Eats a c := by
  obtain ⟨u, rfl, hu⟩ := h
  obtain ⟨v, rfl, hv⟩ := k
  exact ⟨u ++ v, by simp, fun c hc => by rcases List.mem_append.1 hc with hc | hc; exact hu c hc; exact hv c hc⟩
theorem Eats.cons {c : UInt8} {r r' : Bs} (hc : okB c = true) (h : Eats r r') : Eats (c :: r) r' := by
  obtain ⟨u, rfl, hu⟩ := h
  exact ⟨c :: u, rfl, fun d hd => by rcases List.mem_cons.1 hd with rfl | hd; exact hc; exact hu d hd⟩

theorem eats_num {r : Bs} {n : Nat} {r' : Bs} (h : numM r = some (n, r')) : Eats r r' := by
  unfold numM at h
  split at h
  · cases h
  · rename_i hn
    clear hn
    simp at h
    obtain ⟨hv, rfl⟩ := h
    clear hv
    refine ⟨r.takeWhile isDig, (List.takeWhile_append_dropWhile).symm, fun c hc => ?_⟩
    have : isDig c = true := by
      revert hc
      induction r with
      | nil => simp
      | cons a r ih =>
        rw [List.takeWhile_cons]
        split
        · rename_i ha
          intro hc
          rcases List.mem_cons.1 hc with rfl | hc
          · exact ha
          · exact ih hc
        · simp
    simp [okB, this]

theorem eats_signs : ∀ (r : Bs) (t : Tree) (f : Bool), Eats r (signsM r t f).2.2
  | [], t, f => by rw [signsM]; exact Eats.refl _
  | c :: r, t, f => by
    rw [signsM]
    split
    · rename_i h; subst h; exact Eats.cons (by decide) (eats_signs r _ _)
    · split
      · rename_i h; subst h; exact Eats.cons (by decide) (eats_signs r _ _)
      · split
        · rename_i h; subst h; exact Eats.cons (by decide) (eats_signs r _ _)
        · exact Eats.refl _

theorem eats_span {r : Bs} {x : Rd} (h : spanM r = some x) : Eats r x.r := by
  unfold spanM at h
  split at h
  · rename_i lo r1 e1
    split at h
    · rename_i hi r2 e2
      simp at h
      subst h
      exact (eats_num e1).trans (Eats.cons (by decide) ((eats_num e2).trans (Eats.cons (by decide) (Eats.refl _))))
    · cases h
  · cases h

theorem eats_atom {alt : Bs → Option Rd} (ha : ∀ r x, alt r = some x → Eats r x.r) : ∀ {r : Bs} {x : Rd}, atomM alt r = some x → Eats r x.r
  | [], x, h => by cases h
  | c :: r, x, h => by
    rw [atomM] at h
    split at h
    · rename_i hc; subst hc; simp at h; subst h; exact Eats.cons (by decide) (Eats.refl _)
    split at h
    · rename_i hc; subst hc; simp at h; subst h; exact Eats.cons (by decide) (Eats.refl _)
    split at h
    · rename_i hc
      subst hc
      unfold parM at h
      split at h
      · rename_i t o f r' e
        simp at h
        subst h
        exact Eats.cons (by decide) ((ha _ _ e).trans (Eats.cons (by decide) (Eats.refl _)))
      · cases h
    split at h
    · rename_i hc; subst hc; exact Eats.cons (by decide) (eats_span h)
    split at h
    · rename_i n r' e
      simp at h
      subst h
      exact eats_num e
    · cases h

theorem eats_item {alt : Bs → Option Rd} (ha : ∀ r x, alt r = some x → Eats r x.r) {r : Bs} {x : Rd} (h : itemM alt r = some x) : Eats r x.r := by
  unfold itemM at h
  split at h
  · rename_i y e
    simp at h
    subst h
    exact (eats_atom ha e).trans (eats_signs _ _ _)
  · cases h

theorem eats_sep {one : Bs → Option Rd} (ho : ∀ r x, one r = some x → Eats r x.r) {c : UInt8} (hc : okB c = true) : ∀ (k : Nat) (l : List Tree) (o f : Bool) (r : Bs) (l' : List Tree) (o' f' : Bool) (r' : Bs), sepM one c k l o f r = some (l', o', f', r') → Eats r r'
  | 0, l, o, f, r, l', o', f', r', h => by rw [sepM] at h; simp at h; obtain ⟨_, _, _, rfl⟩ := h; exact Eats.refl _
  | k + 1, l, o, f, [], l', o', f', r', h => by rw [sepM] at h; simp at h; obtain ⟨_, _, _, rfl⟩ := h; exact Eats.refl _
  | k + 1, l, o, f, d :: r, l', o', f', r', h => by
    rw [sepM] at h
    split at h
    · rename_i hd
      subst hd
      split at h
      · rename_i x e
        exact Eats.cons hc ((ho _ _ e).trans (eats_sep ho hc k _ _ _ _ _ _ _ _ h))
      · cases h
    · simp at h; obtain ⟨_, _, _, rfl⟩ := h; exact Eats.refl _

theorem eats_list {one : Bs → Option Rd} (ho : ∀ r x, one r = some x → Eats r x.r) {c : UInt8} (hc : okB c = true) {k : Int} {r : Bs} {x : Rd} (h : listM one c k r = some x) : Eats r x.r := by
  unfold listM at h
  split at h
  · cases h
  · rename_i y e
    split at h
    · cases h
    · rename_i l o f r' e2
      simp at h
      subst h
      exact (ho _ _ e).trans (eats_sep ho hc _ _ _ _ _ _ _ _ _ e2)

theorem eats_alt : ∀ (n : Nat) (r : Bs) (x : Rd), altN n r = some x → Eats r x.r
  | 0, r, x, h => by cases h
  | n + 1, r, x, h => by
    refine eats_list (one := catM (altN n)) (fun r x h => ?_) (c := 124) (by decide) h
    unfold catM at h
    split at h
    · simp at h; subst h; exact Eats.refl _
    · exact eats_list (fun r x h => eats_item (eats_alt n) h) (by decide) h

/-- A text with another byte isn't of the grammar. -/
theorem pat_bytes {s : Bs} {q : Tree × Bool × Bool} (h : patM s = some q) : ∀ c ∈ s, okB c = true := by
  unfold patM at h
  split at h
  · cases h
  · rename_i x e
    split at h
    · rename_i hr
      have h1 : ∀ (b : UInt8) (r : Bs), okB b = true → Eats r (tailIf (headIs b r) r) := by
        intro b r hb
        cases r with
        | nil => simp [tailIf, headIs]; exact Eats.refl _
        | cons c r =>
          by_cases hc : c = b
          · subst hc; simp [tailIf, headIs]; exact Eats.cons hb (Eats.refl _)
          · simp [tailIf, headIs, hc]; exact Eats.refl _
      have h2 := ((h1 94 s (by decide)).trans (eats_alt _ _ _ e)).trans (h1 36 x.r (by decide))
      rw [hr] at h2
      obtain ⟨u, hu, h3⟩ := h2
      rw [List.append_nil] at hu
      rw [hu]
      exact h3
    · cases h

theorem parse_bytes {s : Bs} {c : UInt8} (hc : c ∈ s) (hb : okB c = false) : (parseM s).2 = 4 ∨ (2000 < s.length ∧ (parseM s).2 = 6) := by
  unfold parseM
  split
  · rename_i h; exact Or.inr ⟨h, rfl⟩
  · left
    cases h : patM s with
    | none => rfl
    | some q =>
      have := pat_bytes h c hc
      rw [hb] at this
      cases this

end Go.Proofs.YtihnmamejfoeeaaDoor
