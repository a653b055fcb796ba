/-
  What is printed in the Jun dialect is read as what it was, each set in its one form: mathematics. No program in sight.
-/
import Derived.Test.YtjjlkjfhhpogaaaGreatDoorJm
import Derived.Test.YtjjlkjfhhpogaaaGreatDoorBl
namespace Go.Proofs.YtjjlkjfhhpogaaaGreatDoor
open Go.Proofs.YtjjlkjfhhpogaaaGreatDoorS1 (NF inS Good)

theorem dropBl_nil : dropBl [] = [] := rfl
theorem dropBl_32 (r : Bs) : dropBl (32 :: r) = dropBl r := by simp [dropBl]
theorem dropBl_no {c : UInt8} (h : c ≠ 32) (r : Bs) : dropBl (c :: r) = c :: r := by simp [dropBl, h]
theorem dropBl_le : ∀ r : Bs, (dropBl r).length ≤ r.length
  | [] => Nat.le_refl _
  | c :: r => by
    by_cases h : c = 32
    · subst h; rw [dropBl_32]; have := dropBl_le r; simp; omega
    · rw [dropBl_no h]; exact Nat.le_refl _
theorem dropBl_idem : ∀ r : Bs, dropBl (dropBl r) = dropBl r
  | [] => rfl
  | c :: r => by
    by_cases h : c = 32
    · subst h; rw [dropBl_32]; exact dropBl_idem r
    · rw [dropBl_no h, dropBl_no h]
theorem dropBl_head {r q : Bs} {c : UInt8} (h : dropBl r = c :: q) : c ≠ 32 := by
  rintro rfl
  have := dropBl_idem r
  rw [h, dropBl_32] at this
  have h2 := congrArg List.length this
  have h3 := dropBl_le q
  simp at h2
  omega

theorem jsigns_drop (k : Nat) (r : Bs) (t : Tree) (o f : Bool) : jsignsM k (dropBl r) t o f = jsignsM k r t o f := by
  cases k with
  | zero => rfl
  | succ k => rw [jsignsM, jsignsM, dropBl_idem]
theorem jitems_drop (one : Bs → Option Rd) (k : Nat) (l : List Tree) (o f : Bool) (r : Bs) : jitemsM one k l o f (dropBl r) = jitemsM one k l o f r := by
  cases k with
  | zero => rfl
  | succ k => rw [jitemsM, jitemsM, dropBl_idem]
theorem jsep_drop (one : Bs → Option Rd) (k : Nat) (l : List Tree) (o f : Bool) (r : Bs) : jsepM one k l o f (dropBl r) = jsepM one k l o f r := by
  cases k with
  | zero => rfl
  | succ k => rw [jsepM, jsepM, dropBl_idem]

/-- What may follow a number. -/
def ndJ (r : Bs) : Prop := nd r ∧ (dropBl r).head? ≠ some 45
def noSignJ (r : Bs) : Prop := (dropBl r).head? ≠ some 42 ∧ (dropBl r).head? ≠ some 43 ∧ (dropBl r).head? ≠ some 63 ∧ (dropBl r).head? ≠ some 123

/-- An item may begin with it. -/
def begC (c : UInt8) : Bool := isDig c || decide (c = 46) || decide (c = 33) || decide (c = 40)
theorem begC_no {c d : UInt8} (h : begC c = true) (hd : begC d = false) : c ≠ d := by
  rintro rfl
  rw [h] at hd
  cases hd
theorem begins_cons (c : UInt8) (r : Bs) : beginsM (c :: r) = begC c := rfl

structure JItem (n : Nat) (x : Bs) (t : Tree) : Prop where
  head : ∃ c q, x = c :: q ∧ begC c = true
  says : ∀ post, ndJ post → (x ++ post).length ≤ n → ∃ t' f k, (dropBl post).length < k ∧ jitemM (jpatN n) (x ++ post) = jsignsM k (dropBl post) t' false f ∧ (f = false → t' = t)

theorem JItem.drop {n : Nat} {x : Bs} {t : Tree} (h : JItem n x t) (post : Bs) : dropBl (x ++ post) = x ++ post ∧ beginsM (x ++ post) = true := by
  obtain ⟨c, q, rfl, hc⟩ := h.head
  exact ⟨dropBl_no (begC_no hc (by decide)) _, hc⟩

theorem jsigns_stop {r : Bs} (h : noSignJ r) (k : Nat) (t : Tree) (o f : Bool) : jsignsM (k + 1) r t o f = some ⟨t, o, f, dropBl r⟩ := by
  obtain ⟨h1, h2, h3, h4⟩ := h
  rw [jsignsM]
  generalize dropBl r = q at *
  cases q with
  | nil => rfl
  | cons c q =>
    simp at h1 h2 h3 h4
    simp only
    rw [if_neg h1, if_neg h2, if_neg h3, if_neg h4]

/-- What ends a list of items. -/
def jends (r : Bs) : Prop := r = [] ∨ ∃ c q, r = c :: q ∧ (c = 124 ∨ c = 41)
theorem jends.drop {r : Bs} (h : jends r) : dropBl r = r := by
  rcases h with rfl | ⟨c, q, rfl, rfl | rfl⟩
  · rfl
  · exact dropBl_no (by decide) _
  · exact dropBl_no (by decide) _
theorem jends.begins {r : Bs} (h : jends r) : beginsM r = false := by
  rcases h with rfl | ⟨c, q, rfl, rfl | rfl⟩
  · rfl
  · rfl
  · rfl
theorem jends.ndJ {r : Bs} (h : jends r) : ndJ r := by
  unfold Go.Proofs.YtjjlkjfhhpogaaaGreatDoor.ndJ
  rw [h.drop]
  rcases h with rfl | ⟨c, q, rfl, rfl | rfl⟩
  · exact ⟨fun d hd => by simp at hd, by simp⟩
  · exact ⟨fun d hd => by simp at hd; subst hd; decide, by simp⟩
  · exact ⟨fun d hd => by simp at hd; subst hd; decide, by simp⟩
theorem jends.noSign {r : Bs} (h : jends r) : noSignJ r := by
  unfold noSignJ
  rw [h.drop]
  rcases h with rfl | ⟨c, q, rfl, rfl | rfl⟩ <;> simp

/-- An item, what stands behind it taken as it is. -/
theorem Ag.of_jitem {n : Nat} {x : Bs} {t : Tree} (h : JItem n x t) {post : Bs} (h1 : ndJ post) (h2 : noSignJ post) (h3 : (x ++ post).length ≤ n) : Ag (jitemM (jpatN n) (x ++ post)) t (dropBl post) := by
  obtain ⟨t', f, k, hk, e, hf⟩ := h.says post h1 h3
  obtain ⟨k', rfl⟩ : ∃ k', k = k' + 1 := ⟨k - 1, by omega⟩
  rw [jsigns_drop, jsigns_stop h2] at e
  exact ⟨t', f, e, hf⟩

theorem jitems_stop {one : Bs → Option Rd} {k : Nat} {l : List Tree} {o f : Bool} {r : Bs} (h : beginsM (dropBl r) = false) : jitemsM one (k + 1) l o f r = some (l, o, f, dropBl r) := by
  rw [jitemsM, if_neg (by rw [h]; decide)]

/-- Each further item. -/
theorem jitems_many {n : Nat} {post : Bs} (hp : jends post) : ∀ (ps : List (Bs × Tree)), (∀ p ∈ ps, JItem n p.1 p.2) →
    ∀ (acc : List Tree) (f : Bool) (k : Nat), (Lib.joinTail [32] (ps.map (·.1)) ++ post).length < k → (Lib.joinTail [32] (ps.map (·.1)) ++ post).length ≤ n →
    ∃ ts f', jitemsM (jitemM (jpatN n)) k acc false f (Lib.joinTail [32] (ps.map (·.1)) ++ post) = some (acc ++ ts, false, f', post) ∧ ts.length = ps.length ∧ (f' = false → f = false ∧ ts = ps.map (·.2))
  | [], _, acc, f, k + 1, _, _ => ⟨[], f, by rw [show Lib.joinTail [32] (([] : List (Bs × Tree)).map (·.1)) ++ post = post by simp [Lib.joinTail], jitems_stop (by rw [hp.drop]; exact hp.begins), hp.drop]; simp, rfl, fun h => ⟨h, rfl⟩⟩
  | p :: ps, H, acc, f, k + 1, hk, hl => by
    have e0 : Lib.joinTail [32] ((p :: ps).map (·.1)) ++ post = 32 :: (p.1 ++ (Lib.joinTail [32] (ps.map (·.1)) ++ post)) := by simp [Lib.joinTail]
    rw [e0] at hl hk ⊢
    have hpost : ndJ (Lib.joinTail [32] (ps.map (·.1)) ++ post) ∧ noSignJ (Lib.joinTail [32] (ps.map (·.1)) ++ post) := by
      cases ps with
      | nil => exact ⟨hp.ndJ, hp.noSign⟩
      | cons p2 ps2 =>
        have e1 : Lib.joinTail [32] ((p2 :: ps2).map (·.1)) ++ post = 32 :: (p2.1 ++ (Lib.joinTail [32] (ps2.map (·.1)) ++ post)) := by simp [Lib.joinTail]
        rw [e1]
        have hd := ((H p2 (by simp)).drop (Lib.joinTail [32] (ps2.map (·.1)) ++ post)).1
        obtain ⟨c, q, hc, hb⟩ := (H p2 (by simp)).head
        unfold ndJ noSignJ
        rw [dropBl_32, hd, hc]
        refine ⟨⟨fun d hd => by simp at hd; subst hd; decide, ?_⟩, ?_, ?_, ?_, ?_⟩ <;> (simp only [List.cons_append, List.head?_cons, ne_eq, Option.some.injEq]; exact begC_no hb (by decide))
    obtain ⟨hd, hb⟩ := (H p (by simp)).drop (Lib.joinTail [32] (ps.map (·.1)) ++ post)
    obtain ⟨t', f1, e1, hf1⟩ := Ag.of_jitem (H p (by simp)) hpost.1 hpost.2 (by simp at hl ⊢; omega)
    obtain ⟨ts, f', e2, h2, h3⟩ := jitems_many hp ps (fun q hq => H q (by simp [hq])) (acc ++ [t']) (f || f1) k (by simp at hk ⊢; omega) (by simp at hl ⊢; omega)
    refine ⟨t' :: ts, f', ?_, by simp [h2], fun h => ?_⟩
    · rw [jitemsM, dropBl_32, hd, if_pos hb, e1]
      simp only [Bool.or_false]
      rw [jitems_drop, e2]
      simp
    · obtain ⟨h4, h5⟩ := h3 h
      simp at h4
      exact ⟨h4.1, by rw [hf1 h4.2, h5]; rfl⟩

/-- One item. -/
theorem Ag.jcat_item {n : Nat} {x : Bs} {t : Tree} (h : JItem n x t) {post : Bs} (hp : jends post) (h3 : (x ++ post).length ≤ n) : Ag (jcatM (jpatN n) (x ++ post)) t post := by
  obtain ⟨t', f, e, hf⟩ := Ag.of_jitem h hp.ndJ hp.noSign h3
  obtain ⟨hd, hb⟩ := h.drop post
  obtain ⟨m, hm⟩ : ∃ m, (x ++ post).length = m + 1 := by
    obtain ⟨c, q, rfl, _⟩ := h.head
    exact ⟨(q ++ post).length, rfl⟩
  refine ⟨t', f, ?_, hf⟩
  unfold jcatM
  rw [hm, jitemsM, hd, if_pos hb, e]
  simp only [Bool.false_or, List.nil_append]
  rw [jitems_drop, jitems_stop (by rw [hp.drop]; exact hp.begins), hp.drop]
  simp [jfinM, singleM]
theorem Ag.jcat_none {n : Nat} {post : Bs} (hp : jends post) : Ag (jcatM (jpatN n) post) emT post := by
  refine ⟨emT, false, ?_, fun _ => rfl⟩
  unfold jcatM
  rw [jitems_stop (by rw [hp.drop]; exact hp.begins), hp.drop]
  have : singleM 2 [] = (emT, false) := by
    show keptM emT = _
    unfold keptM
    rw [if_pos right_em]
  simp [jfinM, this]
/-- Two or more. -/
theorem Ag.jcat_many {n : Nat} {post : Bs} (hp : jends post) (ps : List (Bs × Tree)) (h2 : 2 ≤ ps.length) (H : ∀ p ∈ ps, JItem n p.1 p.2)
    (hl : (Lib.join (ps.map (·.1)) [32] ++ post).length ≤ n) : Ag (jcatM (jpatN n) (Lib.join (ps.map (·.1)) [32] ++ post)) (.mk 2 [] (ps.map (·.2))) post := by
  match ps, h2, H, hl with
  | p :: q :: ps, _, H, hl =>
    rw [List.map_cons, Lib.join_cons, List.append_assoc] at hl ⊢
    obtain ⟨hd, hb⟩ := (H p (by simp)).drop (Lib.joinTail [32] ((q :: ps).map (·.1)) ++ post)
    have hpost : ndJ (Lib.joinTail [32] ((q :: ps).map (·.1)) ++ post) ∧ noSignJ (Lib.joinTail [32] ((q :: ps).map (·.1)) ++ post) := by
      have e1 : Lib.joinTail [32] ((q :: ps).map (·.1)) ++ post = 32 :: (q.1 ++ (Lib.joinTail [32] (ps.map (·.1)) ++ post)) := by simp [Lib.joinTail]
      rw [e1]
      have hd := ((H q (by simp)).drop (Lib.joinTail [32] (ps.map (·.1)) ++ post)).1
      obtain ⟨c, u, hc, hb⟩ := (H q (by simp)).head
      unfold ndJ noSignJ
      rw [dropBl_32, hd, hc]
      refine ⟨⟨fun d hd => by simp at hd; subst hd; decide, ?_⟩, ?_, ?_, ?_, ?_⟩ <;> (simp only [List.cons_append, List.head?_cons, ne_eq, Option.some.injEq]; exact begC_no hb (by decide))
    obtain ⟨t', f1, e1, hf1⟩ := Ag.of_jitem (H p (by simp)) hpost.1 hpost.2 hl
    obtain ⟨m, hm⟩ : ∃ m, (p.1 ++ (Lib.joinTail [32] ((q :: ps).map (·.1)) ++ post)).length = m + 1 ∧ (Lib.joinTail [32] ((q :: ps).map (·.1)) ++ post).length < m + 1 := by
      obtain ⟨c, u, hc, _⟩ := (H p (by simp)).head
      rw [hc]
      exact ⟨(u ++ (Lib.joinTail [32] ((q :: ps).map (·.1)) ++ post)).length, rfl, by simp; omega⟩
    obtain ⟨ts, f', e2, h3, h4⟩ := jitems_many hp (q :: ps) (fun x hx => H x (List.mem_cons_of_mem _ hx)) [t'] f1 (m + 1) hm.2 (by have := hl; rw [List.length_append] at this; omega)
    have hs : singleM 2 ([t'] ++ ts) = keptM (.mk 2 [] ([t'] ++ ts)) := by
      cases ts with
      | nil => simp at h3
      | cons a ts => rfl
    refine ⟨(keptM (.mk 2 [] ([t'] ++ ts))).1, f' || (keptM (.mk 2 [] ([t'] ++ ts))).2, ?_, fun h => ?_⟩
    · unfold jcatM
      rw [hm.1, jitemsM, hd, if_pos hb, e1]
      simp only [Bool.false_or, List.nil_append]
      rw [jitems_drop, e2]
      simp only [jfinM, hs]
    · simp at h
      obtain ⟨h5, h6⟩ := h4 h.1
      rw [kept_false (by simpa using h.2), hf1 h5, h6]
      rfl

theorem jsep_stop {one : Bs → Option Rd} {k : Nat} {l : List Tree} {o f : Bool} {r : Bs} (h : (dropBl r).head? ≠ some 124) : jsepM one (k + 1) l o f r = some (l, o, f, dropBl r) := by
  rw [jsepM]
  generalize dropBl r = q at *
  cases q with
  | nil => rfl
  | cons d q =>
    simp at h
    simp [h]

/-- What ends a whole pattern. -/
def jendP (r : Bs) : Prop := r = [] ∨ ∃ q, r = 41 :: q
theorem jendP.ends {r : Bs} (h : jendP r) : jends r := by
  rcases h with rfl | ⟨q, rfl⟩
  · exact Or.inl rfl
  · exact Or.inr ⟨41, q, rfl, Or.inr rfl⟩
theorem jendP.no {r : Bs} (h : jendP r) : (dropBl r).head? ≠ some 124 := by
  rw [h.ends.drop]
  rcases h with rfl | ⟨q, rfl⟩ <;> simp

theorem Ag.jpat_cat {n : Nat} {r : Bs} {t : Tree} {post : Bs} (h : Ag (jcatM (jpatN n) r) t post) (hp : jendP post) : Ag (jpatM (jpatN n) r) t post := by
  obtain ⟨t', f, e, hf⟩ := h
  refine ⟨t', f, ?_, hf⟩
  unfold jpatM
  rw [e]
  simp only
  rw [jsep_stop hp.no, hp.ends.drop]
  simp [jfinM, singleM]

theorem jsep_many {n : Nat} {post : Bs} (hp : jendP post) : ∀ (ps : List (Bs × Tree)),
    (∀ p ∈ ps, ∀ post', jends post' → (p.1 ++ post').length ≤ n → Ag (jcatM (jpatN n) (p.1 ++ post')) p.2 post') →
    ∀ (acc : List Tree) (f : Bool) (k : Nat), ps.length < k → (Lib.joinTail [124] (ps.map (·.1)) ++ post).length ≤ n →
    ∃ ts f', jsepM (jcatM (jpatN n)) k acc false f (Lib.joinTail [124] (ps.map (·.1)) ++ post) = some (acc ++ ts, false, f', post) ∧ ts.length = ps.length ∧ (f' = false → f = false ∧ ts = ps.map (·.2))
  | [], _, acc, f, k + 1, _, _ => ⟨[], f, by rw [show Lib.joinTail [124] (([] : List (Bs × Tree)).map (·.1)) ++ post = post by simp [Lib.joinTail], jsep_stop hp.no, hp.ends.drop]; simp, rfl, fun h => ⟨h, rfl⟩⟩
  | [], _, acc, f, 0, h, _ => by simp at h
  | p :: ps, H, acc, f, 0, h, _ => by simp at h
  | p :: ps, H, acc, f, k + 1, hk, hl => by
    have e0 : Lib.joinTail [124] ((p :: ps).map (·.1)) ++ post = 124 :: (p.1 ++ (Lib.joinTail [124] (ps.map (·.1)) ++ post)) := by simp [Lib.joinTail]
    rw [e0] at hl ⊢
    have hpost : jends (Lib.joinTail [124] (ps.map (·.1)) ++ post) := by
      cases ps with
      | nil => exact hp.ends
      | cons p2 ps2 => exact Or.inr ⟨124, p2.1 ++ (Lib.joinTail [124] (ps2.map (·.1)) ++ post), by simp [Lib.joinTail], Or.inl rfl⟩
    obtain ⟨t', f1, e1, hf1⟩ := H p (by simp) _ hpost (by simp at hl ⊢; omega)
    obtain ⟨ts, f', e2, h2, h3⟩ := jsep_many hp ps (fun q hq => H q (by simp [hq])) (acc ++ [t']) (f || f1) k (by simp at hk; omega) (by simp at hl ⊢; omega)
    refine ⟨t' :: ts, f', ?_, by simp [h2], fun h => ?_⟩
    · rw [jsepM, dropBl_no (by decide)]
      simp only [if_true, e1, Bool.or_false]
      rw [e2]
      simp
    · obtain ⟨h4, h5⟩ := h3 h
      simp at h4
      exact ⟨h4.1, by rw [hf1 h4.2, h5]; rfl⟩

theorem Ag.jpat_many {n : Nat} {post : Bs} (hp : jendP post) (ps : List (Bs × Tree)) (h2 : 2 ≤ ps.length)
    (H : ∀ p ∈ ps, ∀ post', jends post' → (p.1 ++ post').length ≤ n → Ag (jcatM (jpatN n) (p.1 ++ post')) p.2 post')
    (hl : (Lib.join (ps.map (·.1)) [124] ++ post).length ≤ n) : Ag (jpatM (jpatN n) (Lib.join (ps.map (·.1)) [124] ++ post)) (.mk 3 [] (ps.map (·.2))) post := by
  match ps, h2, H, hl with
  | p :: q :: ps, _, H, hl =>
    rw [List.map_cons, Lib.join_cons, List.append_assoc] at hl ⊢
    have hh : jends (Lib.joinTail [124] ((q :: ps).map (·.1)) ++ post) := Or.inr ⟨124, q.1 ++ (Lib.joinTail [124] (ps.map (·.1)) ++ post), by simp [Lib.joinTail], Or.inl rfl⟩
    obtain ⟨t', f1, e1, hf1⟩ := H p (by simp) (Lib.joinTail [124] ((q :: ps).map (·.1)) ++ post) hh hl
    have hlen : (q :: ps).length < (Lib.joinTail [124] ((q :: ps).map (·.1)) ++ post).length + 1 := by
      rw [List.length_append, Lib.joinTail_length]
      simp
      omega
    obtain ⟨ts, f', e2, h3, h4⟩ := jsep_many hp (q :: ps) (fun x hx => H x (List.mem_cons_of_mem _ hx)) [t'] f1 _ hlen (by rw [List.length_append] at hl; omega)
    have hs : singleM 3 ([t'] ++ ts) = keptM (.mk 3 [] ([t'] ++ ts)) := by
      cases ts with
      | nil => simp at h3
      | cons a ts => rfl
    refine ⟨(keptM (.mk 3 [] ([t'] ++ ts))).1, f' || (keptM (.mk 3 [] ([t'] ++ ts))).2, ?_, fun h => ?_⟩
    · unfold jpatM
      simp only [e1]
      rw [e2]
      simp only [jfinM, hs]
    · simp at h
      obtain ⟨h5, h6⟩ := h4 h.1
      rw [kept_false (by simpa using h.2), hf1 h5, h6]
      rfl

/-- In brackets. -/
theorem jitem_par {n : Nat} {x : Bs} {t : Tree} (h : ∀ post, (x ++ 41 :: post).length ≤ n → Ag (jpatM (jpatN n) (x ++ 41 :: post)) t (41 :: post)) : JItem (n + 1) (40 :: (x ++ [41])) t := by
  refine ⟨⟨40, x ++ [41], rfl, by decide⟩, fun post _ hl => ?_⟩
  have hl2 : (x ++ 41 :: post).length ≤ n := by simp at hl ⊢; omega
  obtain ⟨t', f, e, hf⟩ := h post hl2
  refine ⟨t', f, post.length + 1, by have := dropBl_le post; omega, ?_, hf⟩
  have e1 : jpatN (n + 1) (x ++ 41 :: post) = some ⟨t', false, f, 41 :: post⟩ := e
  have e2 : jatomM (jpatN (n + 1)) (40 :: (x ++ [41]) ++ post) = some ⟨t', false, f, post⟩ := by
    unfold jatomM
    rw [List.cons_append, dropBl_no (by decide)]
    simp [e1, jparM, dropBl_no]
  simp only [jitemM, e2, jsigns_drop]

/-- An atom that leaves just what stands behind it. -/
theorem JItem.of_atom {n : Nat} {x : Bs} {t : Tree} (hh : ∃ c q, x = c :: q ∧ begC c = true) (h : ∀ post, ndJ post → ∃ r, jatomM (jpatN n) (x ++ post) = some ⟨t, false, false, r⟩ ∧ dropBl r = dropBl post) : JItem n x t := by
  refine ⟨hh, fun post hp _ => ?_⟩
  obtain ⟨r, e, hr⟩ := h post hp
  refine ⟨t, false, r.length + 1, by rw [← hr]; have := dropBl_le r; omega, ?_, fun _ => rfl⟩
  unfold jitemM
  rw [e]
  simp only
  rw [← hr, jsigns_drop]

theorem digs_head {n : Int} : ∃ c q, dec n = c :: q ∧ isDig c = true := by
  have hne : dec n ≠ [] := dec_ne _
  have hdig : ∀ c ∈ dec n, isDig c = true := dec_digs _
  cases h : dec n with
  | nil => exact absurd h hne
  | cons c q => exact ⟨c, q, rfl, hdig c (by rw [h]; simp)⟩

theorem jatom_dig {pat : Bs → Option Rd} {c : UInt8} (h : isDig c = true) (r : Bs) : jatomM pat (c :: r) = jnumsM (c :: r) := by
  unfold jatomM
  rw [dropBl_no (dig_ne h (by decide))]
  simp only
  rw [if_neg (dig_ne h (by decide)), if_neg (dig_ne h (by decide)), if_neg (dig_ne h (by decide))]

theorem span_jitem {s : Int × Int} (h : 0 ≤ s.1 ∧ s.1 ≤ s.2 ∧ s.2 ≤ 4294967295) (n : Nat) : JItem n (spanX styJ s) (.mk 1 [s] []) := by
  obtain ⟨a, b⟩ := s
  obtain ⟨h0, h1, h2⟩ := h
  simp only at h0 h1 h2
  have es : spanX styJ (a, b) = if a = 0 ∧ b = 4294967295 then [46] else if a = b then dec a else dec a ++ 45 :: dec b := by
    show (if a = 0 ∧ b = 4294967295 then [46] else if a = b then dec a else [] ++ (dec a ++ 45 :: (dec b ++ []))) = _
    rw [List.append_nil, List.nil_append]
  rw [es]
  by_cases c1 : a = 0 ∧ b = 4294967295
  · obtain ⟨rfl, rfl⟩ := c1
    refine JItem.of_atom ⟨46, [], rfl, by decide⟩ fun post _ => ⟨post, ?_, rfl⟩
    unfold jatomM
    rw [if_pos ⟨rfl, rfl⟩, List.cons_append, dropBl_no (by decide)]
    rfl
  rw [if_neg c1]
  obtain ⟨c, q, hq, hc⟩ := digs_head (n := a)
  have hbc : begC c = true := by unfold begC; rw [hc]; rfl
  by_cases c2 : a = b
  · subst c2
    rw [if_pos rfl]
    refine JItem.of_atom ⟨c, q, hq, hbc⟩ fun post hp => ⟨dropBl post, ?_, dropBl_idem _⟩
    have e1 : numM (dec a ++ post) = some (a.toNat, post) := num_dec _ _ hp.1
    rw [hq] at e1 ⊢
    rw [List.cons_append] at e1 ⊢
    rw [jatom_dig hc]
    unfold jnumsM
    rw [e1]
    have h45 := hp.2
    simp only
    generalize dropBl post = u at *
    have e2 : numT a.toNat a.toNat = .mk 1 [(a, a)] [] := by simp [numT, wr_of h0 h2]
    have e3 : oneO a.toNat a.toNat = false := by simp [oneO]; omega
    rw [e2, e3]
    cases u with
    | nil => rfl
    | cons d u =>
      simp at h45
      simp [h45]
  · rw [if_neg c2]
    refine JItem.of_atom ⟨c, q ++ 45 :: dec b, by rw [hq]; rfl, hbc⟩ fun post hp => ⟨post, ?_, rfl⟩
    have e1 : numM (dec a ++ 45 :: (dec b ++ post)) = some (a.toNat, 45 :: (dec b ++ post)) := num_dec _ _ (fun c hc => by simp at hc; subst hc; decide)
    have e2 : numM (dec b ++ post) = some (b.toNat, post) := num_dec _ _ hp.1
    have e3 : dropBl (dec b ++ post) = dec b ++ post := by
      obtain ⟨d, u, hu, hd⟩ := digs_head (n := b)
      rw [hu]
      exact dropBl_no (dig_ne hd (by decide)) _
    have e4 : dec a ++ 45 :: dec b ++ post = dec a ++ 45 :: (dec b ++ post) := by simp
    rw [e4]
    rw [hq] at e1 ⊢
    rw [List.cons_append] at e1 ⊢
    rw [jatom_dig hc]
    unfold jnumsM
    rw [e1]
    simp only
    rw [dropBl_no (by decide)]
    simp only [if_true]
    rw [e3, e2]
    simp [numT, oneO, wr_of h0 (by omega : a ≤ 4294967295), wr_of (by omega : 0 ≤ b) h2]
    omega

theorem set_jitem {l : List (Int × Int)} (h : NF l) (n : Nat) : JItem n (setX styJ l) (readS l) := by
  match l, h with
  | [], _ =>
    have e : setX styJ [] = [33] := by simp [setX]
    rw [e]
    refine JItem.of_atom ⟨33, [], rfl, by decide⟩ fun post _ => ⟨post, ?_, rfl⟩
    unfold jatomM
    rw [List.cons_append, dropBl_no (by decide)]
    rfl
  | [s], h =>
    have := span_jitem (s := s) (h.1 s (by simp)) n
    have e : setX styJ [s] = spanX styJ s := by simp [setX, brX, Lib.join_one]
    rw [e]
    exact this
  | s :: s' :: l, h =>
    have e : setX styJ (s :: s' :: l) = 40 :: (Lib.join ((s :: s' :: l).map (spanX styJ)) [124] ++ [41]) := by simp [setX, brX]
    rw [e]
    cases n with
    | zero =>
      refine ⟨⟨40, _, rfl, by decide⟩, fun post _ hl => ?_⟩
      simp at hl
    | succ n =>
    refine jitem_par fun post hl => ?_
    have hps : ((s :: s' :: l).map fun s => (spanX styJ s, Tree.mk 1 [s] [])).map (·.1) = (s :: s' :: l).map (spanX styJ) := by simp
    have hts : ((s :: s' :: l).map fun s => (spanX styJ s, Tree.mk 1 [s] [])).map (·.2) = (s :: s' :: l).map fun s => Tree.mk 1 [s] [] := by simp
    have := Ag.jpat_many (n := n) (post := 41 :: post) (Or.inr ⟨post, rfl⟩) ((s :: s' :: l).map fun s => (spanX styJ s, Tree.mk 1 [s] [])) (by simp) (by
      intro p hp post' hpost' hlen
      obtain ⟨x, hx, rfl⟩ := List.mem_map.1 hp
      exact Ag.jcat_item (span_jitem (h.1 x hx) n) hpost' hlen) (by rw [hps]; exact hl)
    rw [hps, hts] at this
    exact this

/-! ### Patterns -/

/-- What is said of a pattern's text, at each of the three places. -/
structure SaysJ (n : Nat) (t : Tree) : Prop where
  item : JItem n (textT styJ t 2) (readT t)
  cat : ∀ post, jends post → (textT styJ t 1 ++ post).length ≤ n → Ag (jcatM (jpatN n) (textT styJ t 1 ++ post)) (readT t) post
  pat : ∀ post, jendP post → (textT styJ t 0 ++ post).length ≤ n → Ag (jpatM (jpatN n) (textT styJ t 0 ++ post)) (readT t) post

theorem SaysJ.same {n : Nat} {t : Tree} {x : Bs} (h0 : textT styJ t 0 = x) (h1 : textT styJ t 1 = x) (h2 : textT styJ t 2 = x) (h : JItem n x (readT t)) : SaysJ n t where
  item := by rw [h2]; exact h
  cat post hp hl := by rw [h1] at hl ⊢; exact Ag.jcat_item h hp hl
  pat post hp hl := by rw [h0] at hl ⊢; exact (Ag.jcat_item h hp.ends hl).jpat_cat hp

theorem jitem_star {n : Nat} {x : Bs} {t : Tree} (h : JItem n x t) : JItem n (x ++ [42]) (stT t) := by
  obtain ⟨c, q, hc, hb⟩ := h.head
  refine ⟨⟨c, q ++ [42], by rw [hc]; rfl, hb⟩, fun post _ hl => ?_⟩
  have hd : dropBl (42 :: post) = 42 :: post := dropBl_no (by decide) _
  obtain ⟨t', f, k, hk, e, hf⟩ := h.says (42 :: post) ⟨fun c hc => by simp at hc; subst hc; decide, by rw [hd]; simp⟩ (by simpa using hl)
  rw [hd] at hk e
  obtain ⟨k', rfl⟩ : ∃ k', k = k' + 1 := ⟨k - 1, by simp at hk; omega⟩
  refine ⟨(keptM (stT t')).1, f || (keptM (stT t')).2, k', by have := dropBl_le post; simp at hk; omega, ?_, fun hh => ?_⟩
  · rw [List.append_assoc]
    show jitemM (jpatN n) (x ++ 42 :: post) = _
    rw [e, jsignsM, hd, jsigns_drop]
    simp only [if_true]
  · simp at hh
    rw [kept_false hh.2, hf hh.1]

theorem saysJ_all (m : Nat) : ∀ (t : Tree), size t ≤ m → kindsT t = true → goodT t → ∀ n, SaysJ n t := by
  induction m with
  | zero => intro t h; have := size_pos t; omega
  | succ m ih =>
  intro t hm hk hg n
  obtain ⟨k, set, subs⟩ := t
  rw [size_mk] at hm
  rw [kindsT_mk] at hk
  simp only [Bool.and_eq_true] at hk
  obtain ⟨hg1, hg2⟩ := (goodT_mk _ _ _).1 hg
  have hsub : ∀ (t : Tree), t ∈ subs → ∀ n, SaysJ n t := by
    intro t ht n
    obtain ⟨i, hi⟩ := List.mem_iff_getElem?.1 ht
    exact ih t (by have := size_le_of_at hi; omega) (kindsT_of_at hk.2 hi) (hg2.at hi) n
  rcases okAlone_split hk.1 with ⟨rfl, _⟩ | ⟨rfl, _⟩ | ⟨rfl, _⟩ | ⟨rfl, _, h1⟩
  · -- a One
    refine SaysJ.same (x := setX styJ (nf set)) (by rw [textT_mk]; rfl) (by rw [textT_mk]; rfl) (by rw [textT_mk]; rfl) ?_
    rw [readT_mk, if_pos rfl]
    exact set_jitem (nf_ok hg1).1 n
  · -- a Cat
    match subs, hsub, hm with
    | [], _, _ =>
      have e0 : ∀ p, textT styJ (.mk 2 set []) p = brX (decide (p = 2)) [] := fun p => by rw [textT_mk]; simp [textsT_nil, Lib.join_nil]
      have er : readT (.mk 2 set []) = emT := by rw [readT_mk]; simp [readsT_nil, emT]
      refine ⟨?_, fun post hp hl => ?_, fun post hp hl => ?_⟩
      · rw [e0, er]
        cases n with
        | zero => exact ⟨⟨40, _, rfl, by decide⟩, fun post _ hl => by simp [brX] at hl⟩
        | succ n =>
        exact jitem_par (x := []) fun post hl => (Ag.jcat_none (Or.inr ⟨41, post, rfl, Or.inr rfl⟩)).jpat_cat (Or.inr ⟨post, rfl⟩)
      · rw [e0, er]; exact Ag.jcat_none hp
      · rw [e0, er]; exact (Ag.jcat_none hp.ends).jpat_cat hp
    | [t], hsub, _ =>
      have e0 : ∀ p, textT styJ (.mk 2 set [t]) p = textT styJ t p := fun p => by rw [textT_mk]; simp [textsT_cons]
      have er : readT (.mk 2 set [t]) = readT t := by rw [readT_mk]; simp [readsT_cons]
      have h := hsub t (by simp) n
      exact ⟨by rw [e0, er]; exact h.item, by rw [e0, er]; exact h.cat, by rw [e0, er]; exact h.pat⟩
    | a :: b :: ts, hsub, _ =>
      have hps : ((a :: b :: ts).map fun t => (textT styJ t 2, readT t)).map (·.1) = textsT styJ (a :: b :: ts) 2 := by rw [textsT_map]; simp
      have hts : ((a :: b :: ts).map fun t => (textT styJ t 2, readT t)).map (·.2) = readsT (a :: b :: ts) := by rw [readsT_map]; simp
      have e0 : ∀ p, textT styJ (.mk 2 set (a :: b :: ts)) p = brX (decide (p = 2)) (Lib.join (textsT styJ (a :: b :: ts) 2) [32]) := fun p => by rw [textT_mk]; simp [styJ]
      have er : readT (.mk 2 set (a :: b :: ts)) = .mk 2 [] (readsT (a :: b :: ts)) := by rw [readT_mk]; simp
      have hc : ∀ (n : Nat) (post : Bs), (∀ t ∈ a :: b :: ts, JItem n (textT styJ t 2) (readT t)) → jends post → (Lib.join (textsT styJ (a :: b :: ts) 2) [32] ++ post).length ≤ n → Ag (jcatM (jpatN n) (Lib.join (textsT styJ (a :: b :: ts) 2) [32] ++ post)) (.mk 2 [] (readsT (a :: b :: ts))) post := by
        intro n post hI hp hl
        have := Ag.jcat_many (n := n) hp ((a :: b :: ts).map fun t => (textT styJ t 2, readT t)) (by simp) (by
          intro p hp'
          obtain ⟨x, hx, rfl⟩ := List.mem_map.1 hp'
          exact hI x hx) (by rw [hps]; exact hl)
        rw [hps, hts] at this
        exact this
      have hc1 := fun n post => hc n post fun t ht => (hsub t ht n).item
      refine ⟨?_, fun post hp hl => ?_, fun post hp hl => ?_⟩
      · rw [e0, er]
        cases n with
        | zero => exact ⟨⟨40, _, rfl, by decide⟩, fun post _ hl => by simp [brX] at hl⟩
        | succ n => exact jitem_par fun post hl => (hc1 n (41 :: post) (Or.inr ⟨41, post, rfl, Or.inr rfl⟩) hl).jpat_cat (Or.inr ⟨post, rfl⟩)
      · rw [e0] at hl; rw [e0, er]; exact hc1 n post hp hl
      · rw [e0] at hl; rw [e0, er]; exact (hc1 n post hp.ends hl).jpat_cat hp
  · -- an Alt
    match subs, hsub, hm with
    | [], _, _ =>
      have e0 : ∀ p, textT styJ (.mk 3 set []) p = [33] := fun p => by rw [textT_mk]; simp
      refine SaysJ.same (e0 0) (e0 1) (e0 2) ?_
      rw [readT_mk]
      refine JItem.of_atom ⟨33, [], rfl, by decide⟩ fun post _ => ⟨post, ?_, rfl⟩
      unfold jatomM
      rw [List.cons_append, dropBl_no (by decide)]
      simp [readsT_nil, noT]
    | [t], hsub, _ =>
      have e0 : ∀ p, textT styJ (.mk 3 set [t]) p = textT styJ t p := fun p => by rw [textT_mk]; simp [textsT_cons]
      have er : readT (.mk 3 set [t]) = readT t := by rw [readT_mk]; simp [readsT_cons]
      have h := hsub t (by simp) n
      exact ⟨by rw [e0, er]; exact h.item, by rw [e0, er]; exact h.cat, by rw [e0, er]; exact h.pat⟩
    | a :: b :: ts, hsub, _ =>
      have hps : ((a :: b :: ts).map fun t => (textT styJ t 1, readT t)).map (·.1) = textsT styJ (a :: b :: ts) 1 := by rw [textsT_map]; simp
      have hts : ((a :: b :: ts).map fun t => (textT styJ t 1, readT t)).map (·.2) = readsT (a :: b :: ts) := by rw [readsT_map]; simp
      have e0 : ∀ p, textT styJ (.mk 3 set (a :: b :: ts)) p = brX (decide (p ≠ 0)) (Lib.join (textsT styJ (a :: b :: ts) 1) [124]) := fun p => by rw [textT_mk]; simp
      have er : readT (.mk 3 set (a :: b :: ts)) = .mk 3 [] (readsT (a :: b :: ts)) := by rw [readT_mk]; simp
      have hc : ∀ (n : Nat) (post : Bs), jendP post → (Lib.join (textsT styJ (a :: b :: ts) 1) [124] ++ post).length ≤ n → Ag (jpatM (jpatN n) (Lib.join (textsT styJ (a :: b :: ts) 1) [124] ++ post)) (.mk 3 [] (readsT (a :: b :: ts))) post := by
        intro n post hp hl
        have := Ag.jpat_many (n := n) hp ((a :: b :: ts).map fun t => (textT styJ t 1, readT t)) (by simp) (by
          intro p hp' post' hpost' hlen
          obtain ⟨x, hx, rfl⟩ := List.mem_map.1 hp'
          exact (hsub x hx n).cat post' hpost' hlen) (by rw [hps]; exact hl)
        rw [hps, hts] at this
        exact this
      have hi : JItem n (40 :: (Lib.join (textsT styJ (a :: b :: ts) 1) [124] ++ [41])) (.mk 3 [] (readsT (a :: b :: ts))) := by
        cases n with
        | zero =>
          refine ⟨⟨40, _, rfl, by decide⟩, fun post _ hl => ?_⟩
          simp at hl
        | succ n => exact jitem_par fun post hl => hc n (41 :: post) (Or.inr ⟨post, rfl⟩) hl
      refine ⟨?_, fun post hp hl => ?_, fun post hp hl => ?_⟩
      · rw [e0, er]; exact hi
      · rw [e0] at hl; rw [e0, er]; exact Ag.jcat_item hi hp hl
      · rw [e0] at hl; rw [e0, er]; exact hc n post hp hl
  · -- a Star
    obtain ⟨t, rfl⟩ := List.length_eq_one_iff.1 h1
    have e0 : ∀ p, textT styJ (.mk 4 set [t]) p = textT styJ t 2 ++ [42] := fun p => by rw [textT_mk]; simp [textsT_cons]
    have er : readT (.mk 4 set [t]) = stT (readT t) := by rw [readT_mk]; simp [readsT_cons]
    refine SaysJ.same (e0 0) (e0 1) (e0 2) ?_
    rw [er]
    exact jitem_star (hsub t (by simp) n).item

/-- What is printed is read as what it was, or is too full. -/
theorem back_jun {t : Tree} (hk : kindsT t = true) (hg : goodT t) : jparseM (textT styJ t 0) = (zeT, 6) ∨ jparseM (textT styJ t 0) = (readT t, 0) := by
  unfold jparseM
  split
  · exact Or.inl rfl
  obtain ⟨t', f, e, hf⟩ := (saysJ_all _ t (Nat.le_refl _) hk hg (textT styJ t 0).length).pat [] (Or.inl rfl) (by simp)
  rw [List.append_nil] at e
  have e1 : jpatN ((textT styJ t 0).length + 1) (textT styJ t 0) = some ⟨t', false, f, []⟩ := e
  rw [e1]
  cases f with
  | true => exact Or.inl rfl
  | false => right; simp [hf rfl]

end Go.Proofs.YtjjlkjfhhpogaaaGreatDoor
