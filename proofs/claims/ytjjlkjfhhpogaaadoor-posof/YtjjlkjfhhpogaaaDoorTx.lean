/-
  A pattern's text, as mathematics: the one form of a set, what is printed, and what is read again. No program in sight.
-/
import Derived.Test.YtjjlkjfhhpogaaaDoorPm
import Derived.Test.YtjjlkjfhhpogaaaDoorS1Math
import Derived.Lib.ItoaNum
import Derived.Lib.Join
namespace Go.Proofs.YtjjlkjfhhpogaaaDoor
open Go.Proofs.YtjjlkjfhhpogaaaDoorS1 (NF inS Good)

theorem inSet_inS (l : List (Int × Int)) (n : Int) : inSet l n = inS l n := rfl

/-- Each set of numbers has a form. -/
theorem form_of (p : Int → Bool) : ∀ N : Nat, N ≤ 4294967296 → ∃ m, NF m ∧ (∀ s ∈ m, s.2 < N) ∧ ∀ n : Int, inS m n = true ↔ 0 ≤ n ∧ n < N ∧ p n = true := by
  intro N
  induction N with
  | zero => intro _; exact ⟨[], YtjjlkjfhhpogaaaDoorS1.NF_nil, by simp, fun n => by simp [inS]; omega⟩
  | succ N ih =>
    intro hN
    obtain ⟨m, h1, h2, h3⟩ := ih (by omega)
    by_cases hp : p N = true
    · rcases List.eq_nil_or_concat m with rfl | ⟨init, t, rfl⟩
      · refine ⟨[((N : Int), (N : Int))], ⟨by simp; omega, by simp⟩, by simp <;> omega, fun n => ?_⟩
        have h4 := h3 n
        simp only [inS, List.any_nil, List.any_cons, Bool.or_false] at h4 ⊢
        simp at h4 ⊢
        constructor
        · rintro ⟨a, b⟩
          have : n = N := by omega
          subst this
          exact ⟨by omega, by omega, hp⟩
        · rintro ⟨a, b, c⟩
          by_cases e : n = N
          · omega
          · exact absurd c (by rw [h4 a (by omega)]; simp)
      · rw [List.concat_eq_append] at *
        have ht := h2 t (by simp)
        have hl := h1.last
        have hmem : ∀ (u : Int × Int) (n : Int), inS (init ++ [u]) n = (inS init n || (decide (u.1 ≤ n) && decide (n ≤ u.2))) := fun u n => by simp [inS]
        by_cases hm : t.2 + 1 = N
        · refine ⟨init ++ [(t.1, max t.2 N)], h1.merge (s := ((N : Int), (N : Int))) ⟨by simp, by simp, by simp; omega⟩ (by simp; omega), ?_, fun n => ?_⟩
          · intro s hs
            rcases List.mem_append.1 hs with hs | hs
            · have := h2 s (by simp [hs]); omega
            · simp at hs; subst hs; simp; omega
          · have h4 := h3 n
            rw [hmem] at h4 ⊢
            simp only [Bool.or_eq_true, Bool.and_eq_true, decide_eq_true_eq] at h4 ⊢
            by_cases e : n = N
            · subst e
              constructor
              · intro _; exact ⟨by omega, by omega, hp⟩
              · intro _; right; omega
            · constructor
              · rintro (h | ⟨h, h'⟩)
                · obtain ⟨a, b, c⟩ := h4.1 (Or.inl h); exact ⟨a, by omega, c⟩
                · obtain ⟨a, b, c⟩ := h4.1 (Or.inr ⟨h, by omega⟩); exact ⟨a, by omega, c⟩
              · rintro ⟨a, b, c⟩
                rcases h4.2 ⟨a, by omega, c⟩ with h | ⟨h, h'⟩
                · exact Or.inl h
                · exact Or.inr ⟨h, by omega⟩
        · refine ⟨init ++ [t] ++ [((N : Int), (N : Int))], h1.push ⟨by simp, by simp, by simp; omega⟩ ?_, ?_, fun n => ?_⟩
          · intro x hx
            rcases List.mem_append.1 hx with hx | hx
            · have := hl.2 x hx; simp; omega
            · simp at hx; subst hx; simp; omega
          · intro s hs
            rcases List.mem_append.1 hs with hs | hs
            · have := h2 s hs; omega
            · simp at hs; subst hs; simp <;> omega
          · have h4 := h3 n
            rw [hmem ((N : Int), (N : Int)) n |> fun _ => (by simp [inS, Bool.or_assoc] : inS (init ++ [t] ++ [((N : Int), (N : Int))]) n = (inS (init ++ [t]) n || (decide ((N : Int) ≤ n) && decide (n ≤ (N : Int)))))]
            simp only [Bool.or_eq_true, Bool.and_eq_true, decide_eq_true_eq]
            constructor
            · rintro (h | ⟨h, h'⟩)
              · obtain ⟨a, b, c⟩ := h4.1 h; exact ⟨a, by omega, c⟩
              · have : n = N := by omega
                subst this
                exact ⟨by omega, by omega, hp⟩
            · rintro ⟨a, b, c⟩
              by_cases e : n = N
              · right; omega
              · left; exact h4.2 ⟨a, by omega, c⟩
    · refine ⟨m, h1, fun s hs => by have := h2 s hs; omega, fun n => ?_⟩
      rw [h3 n]
      constructor
      · rintro ⟨a, b, c⟩; exact ⟨a, by omega, c⟩
      · rintro ⟨a, b, c⟩
        refine ⟨a, ?_, c⟩
        by_cases e : n = N
        · subst e; exact absurd c hp
        · omega

theorem form_ex {l : List (Int × Int)} (hg : Good l) : ∃ m, NF m ∧ ∀ n, inS m n = inS l n := by
  obtain ⟨m, h1, _, h3⟩ := form_of (inS l) 4294967296 (Nat.le_refl _)
  refine ⟨m, h1, fun n => YtjjlkjfhhpogaaaDoorS1.bool_eq ?_⟩
  rw [h3 n]
  constructor
  · exact fun h => h.2.2
  · intro h
    obtain ⟨s, hs, h4, h5⟩ := YtjjlkjfhhpogaaaDoorS1.inS_iff.1 h
    have := hg s hs
    exact ⟨by omega, by omega, h⟩

open Classical in
/-- The one form of a set. -/
noncomputable def nf (l : List (Int × Int)) : List (Int × Int) := if h : ∃ m, NF m ∧ ∀ n, inS m n = inS l n then Classical.choose h else []

theorem nf_spec {l : List (Int × Int)} (h : ∃ m, NF m ∧ ∀ n, inS m n = inS l n) : NF (nf l) ∧ ∀ n, inS (nf l) n = inS l n := by
  unfold nf
  rw [dif_pos h]
  exact Classical.choose_spec h
theorem nf_eq {l m : List (Int × Int)} (h1 : NF m) (h2 : ∀ n, inS m n = inS l n) : nf l = m := by
  obtain ⟨h3, h4⟩ := nf_spec ⟨m, h1, h2⟩
  exact h3.unique h1 fun n _ _ => (h4 n).trans (h2 n).symm
theorem nf_ok {l : List (Int × Int)} (hg : Good l) : NF (nf l) ∧ ∀ n, inS (nf l) n = inS l n := nf_spec (form_ex hg)

def dec (n : Int) : Bs := Lib.decDigits n.toNat
/-- The signs that a dialect has of its own. -/
structure Sty where
  bw : Bs
  op : Bs
  cl : Bs
def styI : Sty := ⟨[95], [91], [93]⟩
def styJ : Sty := ⟨[32], [], []⟩
def spanX (y : Sty) (s : Int × Int) : Bs := if s.1 = 0 ∧ s.2 = 4294967295 then [46] else if s.1 = s.2 then dec s.1 else y.op ++ (dec s.1 ++ 45 :: (dec s.2 ++ y.cl))
def brX (b : Bool) (x : Bs) : Bs := if b then 40 :: (x ++ [41]) else x
def setX (y : Sty) (l : List (Int × Int)) : Bs := if l = [] then [33] else brX (decide (1 < l.length)) (Lib.join (l.map (spanX y)) [124])

mutual
/-- A right pattern's text: at place 0 by itself, 1 as a part of an Alt, 2 as an item. -/
noncomputable def textT (y : Sty) : Tree → Nat → Bs
  | .mk k set subs, p =>
    if k = 1 then setX y (nf set)
    else if k = 4 then (textsT y subs 2).headD [] ++ [42]
    else if subs.length = 1 then (textsT y subs p).headD []
    else if k = 3 then (if subs.length = 0 then [33] else brX (decide (p ≠ 0)) (Lib.join (textsT y subs 1) [124]))
    else brX (decide (p = 2)) (Lib.join (textsT y subs 2) y.bw)
noncomputable def textsT (y : Sty) : List Tree → Nat → List Bs
  | [], _ => []
  | t :: ts, p => textT y t p :: textsT y ts p
end
theorem textT_mk (y : Sty) (k : Int) (set : List (Int × Int)) (subs : List Tree) (p : Nat) : textT y (.mk k set subs) p =
    if k = 1 then setX y (nf set)
    else if k = 4 then (textsT y subs 2).headD [] ++ [42]
    else if subs.length = 1 then (textsT y subs p).headD []
    else if k = 3 then (if subs.length = 0 then [33] else brX (decide (p ≠ 0)) (Lib.join (textsT y subs 1) [124]))
    else brX (decide (p = 2)) (Lib.join (textsT y subs 2) y.bw) := by rw [textT]
theorem textsT_nil (y : Sty) (p : Nat) : textsT y [] p = [] := by rw [textsT]
theorem textsT_cons (y : Sty) (t : Tree) (ts : List Tree) (p : Nat) : textsT y (t :: ts) p = textT y t p :: textsT y ts p := by rw [textsT]
theorem textsT_map (y : Sty) (ts : List Tree) (p : Nat) : textsT y ts p = ts.map fun t => textT y t p := by
  induction ts with
  | nil => rw [textsT_nil]; rfl
  | cons t ts ih => rw [textsT_cons, ih]; rfl

def readS (l : List (Int × Int)) : Tree :=
  match l with
  | [] => noT
  | [s] => .mk 1 [s] []
  | l => .mk 3 [] (l.map fun s => .mk 1 [s] [])
mutual
/-- The pattern that a pattern's text says. -/
noncomputable def readT : Tree → Tree
  | .mk k set subs =>
    if k = 1 then readS (nf set)
    else if k = 4 then stT ((readsT subs).headD emT)
    else if subs.length = 1 then (readsT subs).headD emT
    else .mk k [] (readsT subs)
noncomputable def readsT : List Tree → List Tree
  | [] => []
  | t :: ts => readT t :: readsT ts
end
theorem readT_mk (k : Int) (set : List (Int × Int)) (subs : List Tree) : readT (.mk k set subs) =
    if k = 1 then readS (nf set)
    else if k = 4 then stT ((readsT subs).headD emT)
    else if subs.length = 1 then (readsT subs).headD emT
    else .mk k [] (readsT subs) := by rw [readT]
theorem readsT_nil : readsT [] = [] := by rw [readsT]
theorem readsT_cons (t : Tree) (ts : List Tree) : readsT (t :: ts) = readT t :: readsT ts := by rw [readsT]
theorem readsT_map (ts : List Tree) : readsT ts = ts.map readT := by
  induction ts with
  | nil => rw [readsT_nil]; rfl
  | cons t ts ih => rw [readsT_cons, ih]; rfl

mutual
/-- Its sets hold numbers of 32 bits. -/
def goodT : Tree → Prop
  | .mk _ set subs => Good set ∧ goodL subs
def goodL : List Tree → Prop
  | [] => True
  | t :: ts => goodT t ∧ goodL ts
end
theorem goodT_mk (k : Int) (set : List (Int × Int)) (subs : List Tree) : goodT (.mk k set subs) ↔ (Good set ∧ goodL subs) := by rw [goodT]
theorem goodL_nil : goodL [] ↔ True := by rw [goodL]
theorem goodL_cons (t : Tree) (ts : List Tree) : goodL (t :: ts) ↔ (goodT t ∧ goodL ts) := by rw [goodL]
theorem goodL.at : ∀ {ts : List Tree} {i : Nat} {t : Tree}, goodL ts → ts[i]? = some t → goodT t
  | [], i, t, _, h => by simp at h
  | a :: ts, 0, t, hk, h => by simp at h; subst h; exact ((goodL_cons _ _).1 hk).1
  | a :: ts, i + 1, t, hk, h => goodL.at (ts := ts) (i := i) ((goodL_cons _ _).1 hk).2 (by simpa using h)

/-! ### Numerals -/

theorem dec_small {n : Nat} (h : n < 10) : Lib.decDigits n = [UInt8.ofNat (48 + n)] := Lib.decDigits_one h
theorem dec_big {n : Nat} (h : ¬ n < 10) : Lib.decDigits n = Lib.decDigits (n / 10) ++ [UInt8.ofNat (48 + n % 10)] := by
  rw [Lib.decDigits, dif_neg h]
theorem dig_toNat {d : Nat} (h : d < 10) : (UInt8.ofNat (48 + d)).toNat = 48 + d := by
  simp
  omega
theorem dec_digs (n : Nat) : ∀ c ∈ Lib.decDigits n, isDig c = true := by
  induction n using Nat.strongRecOn with
  | _ n ih =>
    intro c hc
    by_cases h : n < 10
    · rw [dec_small h] at hc
      simp only [List.mem_singleton] at hc
      subst hc
      unfold isDig
      rw [dig_toNat h]
      simp
      omega
    · rw [dec_big h] at hc
      rcases List.mem_append.1 hc with hc | hc
      · exact ih (n / 10) (by omega) c hc
      · simp only [List.mem_singleton] at hc
        subst hc
        unfold isDig
        rw [dig_toNat (Nat.mod_lt _ (by omega))]
        simp
        omega
theorem val_snoc (l : Bs) (c : UInt8) : val (l ++ [c]) = 10 * val l + (c.toNat - 48) := by simp [val]
theorem dec_val (n : Nat) : val (Lib.decDigits n) = n := by
  induction n using Nat.strongRecOn with
  | _ n ih =>
    by_cases h : n < 10
    · rw [dec_small h, ← List.nil_append [UInt8.ofNat (48 + n)], val_snoc, dig_toNat h]
      simp [val]
    · rw [dec_big h, val_snoc, ih (n / 10) (by omega), dig_toNat (Nat.mod_lt _ (by omega))]
      omega
theorem dec_ne (n : Nat) : Lib.decDigits n ≠ [] := by
  by_cases h : n < 10
  · rw [dec_small h]; simp
  · rw [dec_big h]; simp
theorem dec_head (n : Nat) (h : 1 ≤ n) : (Lib.decDigits n).head? ≠ some 48 := by
  induction n using Nat.strongRecOn with
  | _ n ih =>
    by_cases hn : n < 10
    · rw [dec_small hn]
      simp only [List.head?_cons, ne_eq, Option.some.injEq]
      intro e
      have := congrArg UInt8.toNat e
      rw [dig_toNat hn] at this
      simp at this
      omega
    · rw [dec_big hn]
      have := ih (n / 10) (by omega) (by omega)
      have hne := dec_ne (n / 10)
      generalize Lib.decDigits (n / 10) = q at *
      cases q with
      | nil => exact absurd rfl hne
      | cons a q => simpa using this

/-- What follows doesn't go on with a digit. -/
def nd (r : Bs) : Prop := ∀ c, r.head? = some c → isDig c = false

theorem takeWhile_append_all {l r : Bs} (h : ∀ c ∈ l, isDig c = true) (hr : nd r) : (l ++ r).takeWhile isDig = l ∧ (l ++ r).dropWhile isDig = r := by
  induction l with
  | nil =>
    cases r with
    | nil => simp
    | cons c r =>
      have : isDig c = false := hr c rfl
      simp [this]
  | cons a l ih =>
    have ha := h a (by simp)
    obtain ⟨h1, h2⟩ := ih (fun c hc => h c (by simp [hc]))
    simp only [List.cons_append, List.takeWhile_cons, List.dropWhile_cons, ha, if_true]
    exact ⟨by rw [h1], h2⟩

theorem num_dec (n : Nat) (r : Bs) (hr : nd r) : numM (Lib.decDigits n ++ r) = some (n, r) := by
  obtain ⟨h1, h2⟩ := takeWhile_append_all (dec_digs n) hr
  unfold numM
  rw [h1, h2, if_neg, dec_val]
  rintro (h | ⟨h, h3⟩)
  · exact dec_ne n h
  · by_cases hn : n = 0
    · subst hn; rw [dec_small (by omega)] at h3; simp at h3
    · exact dec_head n (by omega) h

end Go.Proofs.YtjjlkjfhhpogaaaDoor
