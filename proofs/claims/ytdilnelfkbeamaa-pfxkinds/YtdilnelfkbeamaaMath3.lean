/-
  Plain mathematics of Flat.
-/
import Derived.Test.YtdilnelfkbeamaaMath2
namespace Go.Proofs.Ytdilnelfkbeamaa

/-- What Flat has behind an entry. -/
def stepF (out : List Rg) (e : En) : List Rg := out.flatMap (fun x => minusR x e.rg) ++ (if !e.deny && rightR e.rg then [e.rg] else [])

/-- What a list takes, as ranges. -/
def flatL : List En → Option (List Rg)
  | [] => some []
  | e :: l => match flatL l with
    | none => none
    | some out => if 1024 < (stepF out e).length then none else some (stepF out e)

/-- Ranges whose addresses fit. -/
def GoodG (l : List Rg) : Prop := ∀ x ∈ l, Num x.addr
def GoodE (l : List En) : Prop := ∀ x ∈ l, Num x.rg.addr

theorem GoodG.at {l : List Rg} (h : GoodG l) {k : Nat} {x : Rg} (hx : l[k]? = some x) : Num x.addr := h x (List.mem_of_getElem? hx)
theorem GoodE.at {l : List En} (h : GoodE l) {k : Nat} {x : En} (hx : l[k]? = some x) : Num x.rg.addr := h x (List.mem_of_getElem? hx)

theorem piece_len (a n ge le : Int) : (piece a n ge le).length ≤ 1 := by unfold piece; split <;> simp

theorem minusR_len (a b : Rg) : (minusR a b).length ≤ 34 := by
  unfold minusR
  split
  · split
    · rename_i ra hm
      obtain ⟨_, rb, ma, mb, hl⟩ := meetOk_iff.1 hm
      obtain ⟨pa, a3, a4, a5⟩ := rightR_iff.1 ra
      obtain ⟨pb, b3, b4, b5⟩ := rightR_iff.1 rb
      have la := rightP_len pa
      have lb := rightP_len pb
      have h1 := piece_len a.addr a.len a.ge ((meetX a b).ge - 1)
      have h2 := piece_len a.addr a.len ((meetX a b).le + 1) a.le
      have h3 : (meetX a b).len ≤ 32 := by simp only [meetX]; split <;> omega
      unfold minusM
      rw [List.length_append, List.length_append]
      simp only [beside, List.length_map, List.length_range]
      omega
    · simp
  · simp

theorem minusR_good (a b : Rg) (ha : Num a.addr) (hb : Num b.addr) : GoodG (minusR a b) := by
  unfold minusR
  split
  · split
    · rename_i ra hm
      obtain ⟨_, rb, ma, mb, hl⟩ := meetOk_iff.1 hm
      obtain ⟨pa, a3, a4, a5⟩ := rightR_iff.1 ra
      obtain ⟨pb, b3, b4, b5⟩ := rightR_iff.1 rb
      have la := rightP_len pa
      have lb := rightP_len pb
      have h3 : (meetX a b).len ≤ 32 := by simp only [meetX]; split <;> omega
      have h4 : Num (meetX a b).addr := by simp only [meetX]; split <;> assumption
      intro x hx
      unfold minusM at hx
      rw [List.mem_append, List.mem_append] at hx
      rcases hx with (hx | hx) | hx
      · unfold piece at hx
        split at hx
        · simp at hx; subst hx; exact ha
        · simp at hx
      · unfold beside at hx
        simp only [List.mem_map, List.mem_range] at hx
        obtain ⟨i, hi, rfl⟩ := hx
        exact turnA_range h4 (by omega) (by omega)
      · unfold piece at hx
        split at hx
        · simp at hx; subst hx; exact ha
        · simp at hx
    · intro x hx
      simp at hx
      subst hx
      exact ha
  · intro x hx
    simp at hx

theorem minusR_right (a b : Rg) : ∀ x ∈ minusR a b, rightR x = true := by
  unfold minusR
  split
  · split
    · rename_i ra hm
      obtain ⟨_, rb, ma, mb, hl⟩ := meetOk_iff.1 hm
      obtain ⟨pa, a3, a4, a5⟩ := rightR_iff.1 ra
      obtain ⟨pb, b3, b4, b5⟩ := rightR_iff.1 rb
      have la := rightP_len pa
      have lb := rightP_len pb
      have h3 : (meetX a b).len ≤ (meetX a b).ge := by simp only [meetX]; omega
      have h5 : (meetX a b).ge ≤ 32 := by simp only [meetX] at *; omega
      have h6 : a.ge ≤ (meetX a b).ge := by simp only [meetX]; omega
      have h7 : (meetX a b).le ≤ a.le := by simp only [meetX]; omega
      intro x hx
      unfold minusM at hx
      rw [List.mem_append, List.mem_append] at hx
      rcases hx with (hx | hx) | hx
      · unfold piece at hx
        split at hx
        · simp at hx; subst hx; exact rightR_iff.2 ⟨pa, a3, by simp only; omega, by simp only; omega⟩
        · simp at hx
      · unfold beside at hx
        simp only [List.mem_map, List.mem_range] at hx
        obtain ⟨i, hi, rfl⟩ := hx
        exact rightR_iff.2 ⟨turnA_right (by omega) (by omega), by simp only; omega, hl, by simp only; omega⟩
      · unfold piece at hx
        split at hx
        · simp at hx; subst hx; exact rightR_iff.2 ⟨pa, by simp only; omega, by simp only; omega, a5⟩
        · simp at hx
    · rename_i ra _
      intro x hx
      simp at hx
      subst hx
      exact ra
  · intro x hx
    simp at hx

theorem flatMap_len {l : List Rg} (b : Rg) : (l.flatMap fun x => minusR x b).length ≤ l.length * 34 := by
  induction l with
  | nil => simp
  | cons a l ih =>
    rw [List.flatMap_cons, List.length_append, List.length_cons]
    have := minusR_len a b
    omega

theorem flatMap_good {l : List Rg} {b : Rg} (hl : GoodG l) (hb : Num b.addr) : GoodG (l.flatMap fun x => minusR x b) := by
  intro x hx
  obtain ⟨y, hy, hxy⟩ := List.mem_flatMap.1 hx
  exact minusR_good y b (hl y hy) hb x hxy

theorem stepF_good {out : List Rg} {e : En} (ho : GoodG out) (he : Num e.rg.addr) : GoodG (stepF out e) := by
  intro x hx
  unfold stepF at hx
  rcases List.mem_append.1 hx with h | h
  · exact flatMap_good ho he x h
  · split at h
    · simp at h; subst h; exact he
    · simp at h
theorem stepF_right {out : List Rg} {e : En} : ∀ x ∈ stepF out e, rightR x = true := by
  intro x hx
  unfold stepF at hx
  rcases List.mem_append.1 hx with h | h
  · obtain ⟨y, _, hy⟩ := List.mem_flatMap.1 h
    exact minusR_right _ _ x hy
  · split at h
    · rename_i hh
      simp at h; subst h
      simp at hh
      exact hh.2
    · simp at h

theorem flatL_facts : ∀ {l : List En} {out : List Rg}, GoodE l → flatL l = some out → out.length ≤ 1024 ∧ GoodG out ∧ ∀ x ∈ out, rightR x = true
  | [], out, _, h => by
    simp [flatL] at h
    subst h
    exact ⟨by simp, fun x hx => by simp at hx, fun x hx => by simp at hx⟩
  | e :: l, out, hl, h => by
    unfold flatL at h
    split at h
    · cases h
    · rename_i out' ho
      split at h
      · cases h
      · rename_i hlen
        have ih := flatL_facts (fun x hx => hl x (List.mem_cons_of_mem _ hx)) ho
        injection h with h
        subst h
        exact ⟨by omega, stepF_good ih.2.1 (hl e List.mem_cons_self), stepF_right⟩

theorem minusR_wrong {a b : Rg} (ha : rightR a = true) (hb : rightR b = false) : minusR a b = [a] := by
  unfold minusR
  have : meetOk a b = false := by
    cases h : meetOk a b
    · rfl
    · have := (meetOk_iff.1 h).2.1; rw [hb] at this; cases this
  simp [ha, this]

/-- An entry whose range isn't right changes nothing. -/
theorem stepF_wrong {out : List Rg} {e : En} (ho : ∀ x ∈ out, rightR x = true) (he : rightR e.rg = false) : stepF out e = out := by
  unfold stepF
  rw [he]
  simp
  induction out with
  | nil => rfl
  | cons a l ih =>
    rw [List.flatMap_cons, minusR_wrong (ho a List.mem_cons_self) he, ih fun x hx => ho x (List.mem_cons_of_mem _ hx)]
    rfl

theorem cnt_flatMap (p : Pf) (b : Rg) : ∀ l : List Rg, cnt p (l.flatMap fun x => minusR x b) = if inR b p then 0 else cnt p l
  | [] => by simp [cnt]
  | a :: l => by
    rw [List.flatMap_cons, cnt_append, cnt_minus, cnt_flatMap p b l]
    have e : cnt p (a :: l) = (if inR a p then 1 else 0) + cnt p l := by
      simp only [cnt, List.countP_cons]
      omega
    rw [e]
    cases inR b p <;> cases inR a p <;> simp

/-- A prefix is in one of Flat's ranges, and in one alone, just if the list takes it. -/
theorem cnt_flatL (p : Pf) : ∀ {l : List En} {out : List Rg}, flatL l = some out → cnt p out = if matchL l p then 1 else 0
  | [], out, h => by
    simp [flatL] at h
    subst h
    simp [matchL, cnt]
  | e :: l, out, h => by
    unfold flatL at h
    split at h
    · cases h
    · rename_i out' ho
      split at h
      · cases h
      · injection h with h
        subst h
        unfold stepF matchL
        rw [cnt_append, cnt_flatMap, cnt_flatL p ho]
        have hin : rightR e.rg = false → inR e.rg p = false := fun h => by
          cases hh : inR e.rg p
          · rfl
          · have := (inR_iff.1 hh).1; rw [h] at this; cases this
        cases hd : e.deny <;> cases hr : rightR e.rg <;> cases hi : inR e.rg p <;> simp_all [cnt]

end Go.Proofs.Ytdilnelfkbeamaa
