/-
  What is printed is read as what it was, each set in its one form: mathematics. No program in sight.
  Whole texts: printed and read again, with and without the signs at the ends; which bytes a text that is read may have. Mathematics.
-/
import Derived.Test.YtjjlkjfhhpogaaaGreatDoorTx
namespace Go.Proofs.YtjjlkjfhhpogaaaGreatDoor
open Go.Proofs.YtjjlkjfhhpogaaaGreatDoorS1 (NF inS Good)

/-- It was read as this pattern, if nothing was too full. -/
def Ag (x : Option Rd) (t : Tree) (r : Bs) : Prop := ∃ t' f, x = some ⟨t', false, f, r⟩ ∧ (f = false → t' = t)

def ItemG (n : Nat) (x : Bs) (t : Tree) : Prop := ∀ post, nd post → (x ++ post).length ≤ n →
  ∃ t' f, itemM (altN n) (x ++ post) = some ⟨(signsM post t' f).1, false, (signsM post t' f).2.1, (signsM post t' f).2.2⟩ ∧ (f = false → t' = t)

def noSign (r : Bs) : Prop := r.head? ≠ some 42 ∧ r.head? ≠ some 43 ∧ r.head? ≠ some 63

theorem signs_stop {r : Bs} (h : noSign r) (t : Tree) (f : Bool) : signsM r t f = (t, f, r) := by
  obtain ⟨h1, h2, h3⟩ := h
  cases r with
  | nil => rw [signsM]
  | cons c r =>
    simp at h1 h2 h3
    rw [signsM, if_neg h1, if_neg h2, if_neg h3]

theorem ends_cases {r : Bs} (h : endsM r = true) : r = [] ∨ ∃ c q, r = c :: q ∧ (c = 124 ∨ c = 41 ∨ c = 36) := by
  cases r with
  | nil => exact Or.inl rfl
  | cons c q =>
    simp [endsM] at h
    exact Or.inr ⟨c, q, rfl, by rcases h with (h | h) | h <;> simp [h]⟩

theorem num_none {c : UInt8} (h : isDig c = false) (r : Bs) : numM (c :: r) = none := by
  unfold numM
  rw [if_pos]
  left
  simp [h]

theorem nd_ends {r : Bs} (h : endsM r = true) : nd r := by
  rcases ends_cases h with rfl | ⟨c, q, rfl, rfl | rfl | rfl⟩ <;> intro d hd <;> simp at hd <;> subst hd <;> decide
theorem noSign_ends {r : Bs} (h : endsM r = true) : noSign r := by
  rcases ends_cases h with rfl | ⟨c, q, rfl, rfl | rfl | rfl⟩ <;> simp [noSign]
theorem ends_no95 {r : Bs} (h : endsM r = true) : r.head? ≠ some 95 := by
  rcases ends_cases h with rfl | ⟨c, q, rfl, rfl | rfl | rfl⟩ <;> simp

theorem item_ends {alt : Bs → Option Rd} {r : Bs} (h : endsM r = true) : itemM alt r = none := by
  rcases ends_cases h with rfl | ⟨c, q, rfl, h'⟩
  · simp [itemM, atomM]
  · clear h
    have e : atomM alt (c :: q) = none := by
      have hd : isDig c = false := by rcases h' with rfl | rfl | rfl <;> decide
      rw [atomM, num_none hd]
      rcases h' with rfl | rfl | rfl <;> simp
    simp [itemM, e]

theorem Ag.of_item {n : Nat} {x : Bs} {t : Tree} (h : ItemG n x t) {post : Bs} (h1 : nd post) (h2 : noSign post) (h3 : (x ++ post).length ≤ n) : Ag (itemM (altN n) (x ++ post)) t post := by
  obtain ⟨t', f, e, hf⟩ := h post h1 h3
  rw [signs_stop h2] at e
  exact ⟨t', f, e, hf⟩

theorem sep_stop {one : Bs → Option Rd} {c : UInt8} {k : Nat} {l : List Tree} {o f : Bool} {r : Bs} (h : r.head? ≠ some c) : sepM one c (k + 1) l o f r = some (l, o, f, r) := by
  cases r with
  | nil => rw [sepM]
  | cons d r =>
    simp at h
    rw [sepM]
    simp [h]

/-- A list of one. -/
theorem Ag.list_one {one : Bs → Option Rd} {c : UInt8} {k : Int} {r : Bs} {t : Tree} {post : Bs} (h : Ag (one r) t post) (hp : post.head? ≠ some c) : Ag (listM one c k r) t post := by
  obtain ⟨t', f, e, hf⟩ := h
  refine ⟨t', f, ?_, hf⟩
  simp [listM, e, sep_stop hp, singleM]

theorem Ag.cat_item {n : Nat} {x : Bs} {t : Tree} (h : ItemG n x t) {post : Bs} (hp : endsM post = true) (h3 : (x ++ post).length ≤ n) : Ag (catM (altN n) (x ++ post)) t post := by
  have ha := Ag.of_item h (nd_ends hp) (noSign_ends hp) h3
  have hne : endsM (x ++ post) ≠ true := by
    intro hc
    obtain ⟨t', f, e, _⟩ := ha
    rw [item_ends hc] at e
    cases e
  unfold catM
  rw [if_neg hne]
  exact ha.list_one (ends_no95 hp)

theorem Ag.alt_cat {n : Nat} {r : Bs} {t : Tree} {post : Bs} (h : Ag (catM (altN n) r) t post) (hp : post.head? ≠ some 124) : Ag (altM (altN n) r) t post := h.list_one hp

/-- In brackets. -/
theorem item_par {n : Nat} {x : Bs} {t : Tree} (h : ∀ post, (x ++ 41 :: post).length ≤ n → Ag (altM (altN n) (x ++ 41 :: post)) t (41 :: post)) : ItemG (n + 1) (40 :: (x ++ [41])) t := by
  intro post _ hl
  have hl2 : (x ++ 41 :: post).length ≤ n := by simp at hl ⊢; omega
  obtain ⟨t', f, e, hf⟩ := h post hl2
  refine ⟨t', f, ?_, hf⟩
  have e1 : altN (n + 1) (x ++ 41 :: post) = some ⟨t', false, f, 41 :: post⟩ := e
  have e2 : atomM (altN (n + 1)) (40 :: (x ++ [41]) ++ post) = some ⟨t', false, f, post⟩ := by
    simp [atomM, e1, parM]
  simp only [itemM, e2]

theorem head_join {c : UInt8} {xs : List Bs} {post : Bs} (h : xs ≠ []) : (Lib.joinTail [c] xs ++ post).head? = some c := by
  cases xs with
  | nil => exact absurd rfl h
  | cons x xs => simp [Lib.joinTail]

/-- Each further part of a list. -/
theorem sep_many {one : Bs → Option Rd} {c : UInt8} {n : Nat} {post : Bs} (hc : post.head? ≠ some c) : ∀ (ps : List (Bs × Tree)),
    (∀ p ∈ ps, ∀ post', (post' = post ∨ post'.head? = some c) → (p.1 ++ post').length ≤ n → Ag (one (p.1 ++ post')) p.2 post') →
    ∀ (acc : List Tree) (f : Bool) (k : Nat), ps.length < k → (Lib.joinTail [c] (ps.map (·.1)) ++ post).length ≤ n →
    ∃ ts f', sepM one c k acc false f (Lib.joinTail [c] (ps.map (·.1)) ++ post) = some (acc ++ ts, false, f', post) ∧ ts.length = ps.length ∧ (f' = false → f = false ∧ ts = ps.map (·.2))
  | [], _, acc, f, k + 1, _, _ => ⟨[], f, by simp [Lib.joinTail, sep_stop hc], rfl, fun h => ⟨h, rfl⟩⟩
  | [], _, acc, f, 0, h, _ => by simp at h
  | p :: ps, H, acc, f, 0, h, _ => by simp at h
  | p :: ps, H, acc, f, k + 1, hk, hl => by
    have e0 : Lib.joinTail [c] ((p :: ps).map (·.1)) ++ post = c :: (p.1 ++ (Lib.joinTail [c] (ps.map (·.1)) ++ post)) := by simp [Lib.joinTail]
    rw [e0] at hl ⊢
    have hpost : (Lib.joinTail [c] (ps.map (·.1)) ++ post) = post ∨ (Lib.joinTail [c] (ps.map (·.1)) ++ post).head? = some c := by
      by_cases h0 : ps = []
      · subst h0; left; simp [Lib.joinTail]
      · right; exact head_join (by simpa using h0)
    obtain ⟨t', f1, e1, hf1⟩ := H p (by simp) _ hpost (by simp at hl ⊢; omega)
    obtain ⟨ts, f', e2, h2, h3⟩ := sep_many hc ps (fun q hq => H q (by simp [hq])) (acc ++ [t']) (f || f1) k (by simp at hk; omega) (by simp at hl ⊢; omega)
    refine ⟨t' :: ts, f', ?_, by simp [h2], fun h => ?_⟩
    · rw [sepM]
      simp only [if_true, e1, Bool.or_false]
      rw [e2]
      simp
    · obtain ⟨h4, h5⟩ := h3 h
      simp at h4
      exact ⟨h4.1, by rw [hf1 h4.2, h5]; rfl⟩

theorem kept_false {t : Tree} (h : (keptM t).2 = false) : (keptM t).1 = t := by
  unfold keptM at h ⊢
  split at h
  · rename_i c; rw [if_pos c]
  · cases h

/-- A list of two or more. -/
theorem Ag.list_many {one : Bs → Option Rd} {c : UInt8} {n : Nat} {k : Int} {post : Bs} (hc : post.head? ≠ some c) (ps : List (Bs × Tree)) (h2 : 2 ≤ ps.length)
    (H : ∀ p ∈ ps, ∀ post', (post' = post ∨ post'.head? = some c) → (p.1 ++ post').length ≤ n → Ag (one (p.1 ++ post')) p.2 post')
    (hl : (Lib.join (ps.map (·.1)) [c] ++ post).length ≤ n) : Ag (listM one c k (Lib.join (ps.map (·.1)) [c] ++ post)) (.mk k [] (ps.map (·.2))) post := by
  match ps, h2, H, hl with
  | p :: q :: ps, _, H, hl =>
    rw [List.map_cons, Lib.join_cons, List.append_assoc] at hl ⊢
    have hh : (Lib.joinTail [c] ((q :: ps).map (·.1)) ++ post).head? = some c := head_join (by simp)
    obtain ⟨t', f1, e1, hf1⟩ := H p (by simp) (Lib.joinTail [c] ((q :: ps).map (·.1)) ++ post) (Or.inr hh) hl
    have hlen : (q :: ps).length < (Lib.joinTail [c] ((q :: ps).map (·.1)) ++ post).length + 1 := by
      rw [List.length_append, Lib.joinTail_length]
      simp
      omega
    obtain ⟨ts, f', e2, h3, h4⟩ := sep_many hc (q :: ps) (fun x hx => H x (by simp [List.mem_cons.1 hx |> fun h => h.elim (fun h => Or.inl h) (fun h => Or.inr h)] <;> simp_all)) [t'] f1 _ hlen (by rw [List.length_append] at hl; omega)
    have hs : singleM k ([t'] ++ ts) = keptM (.mk k [] ([t'] ++ ts)) := by
      cases ts with
      | nil => simp at h3
      | cons a ts => rfl
    refine ⟨(keptM (.mk k [] ([t'] ++ ts))).1, f' || (keptM (.mk k [] ([t'] ++ ts))).2, ?_, fun h => ?_⟩
    · unfold listM
      simp only [e1]
      rw [e2]
      simp only [hs]
    · simp at h
      obtain ⟨h5, h6⟩ := h4 h.1
      rw [kept_false (by simpa using h.2), hf1 h5, h6]
      rfl

/-! ### Sets -/

theorem dig_ne {c : UInt8} (h : isDig c = true) {d : UInt8} (hd : isDig d = false) : c ≠ d := by
  rintro rfl
  rw [h] at hd
  cases hd

theorem wr_of {n : Int} (h0 : 0 ≤ n) (h1 : n ≤ 4294967295) : wr n.toNat = n := by
  unfold wr
  rw [if_neg (by omega)]
  omega

theorem span_item {s : Int × Int} (h : 0 ≤ s.1 ∧ s.1 ≤ s.2 ∧ s.2 ≤ 4294967295) (n : Nat) : ItemG n (spanX styI s) (.mk 1 [s] []) := by
  intro post hp _
  obtain ⟨a, b⟩ := s
  obtain ⟨h0, h1, h2⟩ := h
  simp only at h0 h1 h2
  have es : spanX styI (a, b) = if a = 0 ∧ b = 4294967295 then [46] else if a = b then dec a else 91 :: (dec a ++ 45 :: (dec b ++ [93])) := rfl
  rw [es]
  by_cases c1 : a = 0 ∧ b = 4294967295
  · obtain ⟨rfl, rfl⟩ := c1
    exact ⟨allT, false, by simp [itemM, atomM], fun _ => rfl⟩
  rw [if_neg c1]
  by_cases c2 : a = b
  · subst c2
    rw [if_pos rfl]
    refine ⟨.mk 1 [(a, a)] [], false, ?_, fun _ => rfl⟩
    have e1 : numM (dec a ++ post) = some (a.toNat, post) := num_dec _ _ hp
    have hne : dec a ≠ [] := dec_ne _
    have hdig : ∀ c ∈ dec a, isDig c = true := dec_digs _
    have e2 : atomM (altN n) (dec a ++ post) = some ⟨.mk 1 [(a, a)] [], false, false, post⟩ := by
      generalize dec a = x at *
      cases x with
      | nil => exact absurd rfl hne
      | cons c q =>
        have hc := hdig c (by simp)
        rw [List.cons_append] at e1 ⊢
        rw [atomM, e1, if_neg (dig_ne hc (by decide)), if_neg (dig_ne hc (by decide)), if_neg (dig_ne hc (by decide)), if_neg (dig_ne hc (by decide))]
        simp [numT, oneO, wr_of h0 h2]
        omega
    simp only [itemM, e2]
  · rw [if_neg c2]
    refine ⟨.mk 1 [(a, b)] [], false, ?_, fun _ => rfl⟩
    have e1 : numM (dec a ++ 45 :: (dec b ++ 93 :: post)) = some (a.toNat, 45 :: (dec b ++ 93 :: post)) := num_dec _ _ (fun c hc => by simp at hc; subst hc; decide)
    have e2 : numM (dec b ++ 93 :: post) = some (b.toNat, 93 :: post) := num_dec _ _ (fun c hc => by simp at hc; subst hc; decide)
    have e3 : atomM (altN n) (91 :: (dec a ++ 45 :: (dec b ++ [93])) ++ post) = some ⟨.mk 1 [(a, b)] [], false, false, post⟩ := by
      have e0 : 91 :: (dec a ++ 45 :: (dec b ++ [93])) ++ post = 91 :: (dec a ++ 45 :: (dec b ++ 93 :: post)) := by simp
      rw [e0, atomM]
      simp only [spanM, e1, e2]
      simp [numT, oneO, wr_of h0 (by omega : a ≤ 4294967295), wr_of (by omega : 0 ≤ b) h2]
      omega
    simp only [itemM, e3]

theorem set_item {l : List (Int × Int)} (h : NF l) (n : Nat) : ItemG n (setX styI l) (readS l) := by
  match l, h with
  | [], _ =>
    intro post _ _
    exact ⟨noT, false, by simp [setX, itemM, atomM], fun _ => rfl⟩
  | [s], h =>
    have := span_item (s := s) (h.1 s (by simp)) n
    have e : setX styI [s] = spanX styI s := by simp [setX, brX, Lib.join_one]
    rw [e]
    exact this
  | s :: s' :: l, h =>
    have e : setX styI (s :: s' :: l) = 40 :: (Lib.join ((s :: s' :: l).map (spanX styI)) [124] ++ [41]) := by simp [setX, brX]
    rw [e]
    cases n with
    | zero => intro post _ hl; simp at hl
    | succ n =>
    refine item_par fun post hl => ?_
    have hps : ((s :: s' :: l).map fun s => (spanX styI s, Tree.mk 1 [s] [])).map (·.1) = (s :: s' :: l).map (spanX styI) := by simp
    have hts : ((s :: s' :: l).map fun s => (spanX styI s, Tree.mk 1 [s] [])).map (·.2) = (s :: s' :: l).map fun s => Tree.mk 1 [s] [] := by simp
    have := Ag.list_many (one := catM (altN n)) (c := 124) (n := n) (k := 3) (post := 41 :: post) (by simp) ((s :: s' :: l).map fun s => (spanX styI s, Tree.mk 1 [s] [])) (by simp) (by
      intro p hp post' hpost' hlen
      obtain ⟨x, hx, rfl⟩ := List.mem_map.1 hp
      refine Ag.cat_item (span_item (h.1 x hx) n) ?_ hlen
      rcases hpost' with rfl | hh
      · rfl
      · cases post' with
        | nil => simp at hh
        | cons d q => simp at hh; subst hh; rfl) (by rw [hps]; exact hl)
    rw [hps, hts] at this
    exact this

/-! ### Patterns -/

theorem nd_alt {r : Bs} (h : r.head? = some 41 ∨ r.head? = some 36 ∨ r = []) : endsM r = true ∧ r.head? ≠ some 124 := by
  cases r with
  | nil => simp [endsM]
  | cons c q => simp [endsM] at h ⊢; rcases h with rfl | rfl <;> simp

theorem okAlone_split {k : Int} {S N : Nat} (h : okAlone k S N = true) : (k = 1 ∧ N = 0) ∨ (k = 2 ∧ S = 0) ∨ (k = 3 ∧ S = 0) ∨ (k = 4 ∧ S = 0 ∧ N = 1) := by
  unfold okAlone at h
  split at h
  · simp at h; omega
  · split at h
    · simp at h; omega
    · split at h
      · simp at h; omega
      · cases h

/-- What is said of a pattern's text, at each of the three places. -/
structure Says (n : Nat) (t : Tree) : Prop where
  item : ItemG n (textT styI t 2) (readT t)
  cat : ∀ post, endsM post = true → (textT styI t 1 ++ post).length ≤ n → Ag (catM (altN n) (textT styI t 1 ++ post)) (readT t) post
  alt : ∀ post, endsM post = true → post.head? ≠ some 124 → (textT styI t 0 ++ post).length ≤ n → Ag (altM (altN n) (textT styI t 0 ++ post)) (readT t) post

/-- The same text at each place. -/
theorem Says.same {n : Nat} {t : Tree} {x : Bs} (h0 : textT styI t 0 = x) (h1 : textT styI t 1 = x) (h2 : textT styI t 2 = x) (h : ItemG n x (readT t)) : Says n t where
  item := by rw [h2]; exact h
  cat post hp hl := by rw [h1] at hl ⊢; exact Ag.cat_item h hp hl
  alt post hp hq hl := by rw [h0] at hl ⊢; exact (Ag.cat_item h hp hl).alt_cat hq

theorem item_star {n : Nat} {x : Bs} {t : Tree} (h : ItemG n x t) : ItemG n (x ++ [42]) (stT t) := by
  intro post _ hl
  obtain ⟨t', f, e, hf⟩ := h (42 :: post) (fun c hc => by simp at hc; subst hc; decide) (by simpa using hl)
  refine ⟨(keptM (stT t')).1, f || (keptM (stT t')).2, ?_, fun hh => ?_⟩
  · rw [List.append_assoc]
    show itemM (altN n) (x ++ 42 :: post) = _
    rw [e, signsM, if_pos rfl]
  · simp at hh
    rw [kept_false hh.2, hf hh.1]

theorem textsT_len (ts : List Tree) (p : Nat) : (textsT styI ts p).length = ts.length := by rw [textsT_map]; simp
theorem readsT_len (ts : List Tree) : (readsT ts).length = ts.length := by rw [readsT_map]; simp

theorem says_all (m : Nat) : ∀ (t : Tree), size t ≤ m → kindsT t = true → goodT t → ∀ n, Says n t := by
  induction m with
  | zero => intro t h; have := size_pos t; omega
  | succ m ih =>
  intro t hm hk hg n
  obtain ⟨k, set, subs⟩ := t
  rw [size_mk] at hm
  rw [kindsT_mk] at hk
  simp only [Bool.and_eq_true] at hk
  obtain ⟨hg1, hg2⟩ := (goodT_mk _ _ _).1 hg
  have hsub : ∀ (t : Tree), t ∈ subs → ∀ n, Says n t := by
    intro t ht n
    obtain ⟨i, hi⟩ := List.mem_iff_getElem?.1 ht
    exact ih t (by have := size_le_of_at hi; omega) (kindsT_of_at hk.2 hi) (hg2.at hi) n
  rcases okAlone_split hk.1 with ⟨rfl, _⟩ | ⟨rfl, _⟩ | ⟨rfl, _⟩ | ⟨rfl, _, h1⟩
  · -- a One
    refine Says.same (x := setX styI (nf set)) (by rw [textT_mk]; rfl) (by rw [textT_mk]; rfl) (by rw [textT_mk]; rfl) ?_
    rw [readT_mk, if_pos rfl]
    exact set_item (nf_ok hg1).1 n
  · -- a Cat
    match subs, hsub, hm with
    | [], _, _ =>
      have e0 : ∀ p, textT styI (.mk 2 set []) p = brX (decide (p = 2)) [] := fun p => by rw [textT_mk]; simp [textsT_nil, Lib.join_nil]
      have er : readT (.mk 2 set []) = emT := by rw [readT_mk]; simp [readsT_nil, emT]
      have hc : ∀ (n : Nat) (post : Bs), endsM post = true → Ag (catM (altN n) post) emT post := fun n post hp => ⟨emT, false, by simp [catM, hp], fun _ => rfl⟩
      refine ⟨?_, fun post hp hl => ?_, fun post hp hq hl => ?_⟩
      · rw [e0, er]
        cases n with
        | zero => intro post _ hl; simp [brX] at hl
        | succ n => exact item_par (x := []) fun post hl => (hc n (41 :: post) rfl).alt_cat (by simp)
      · rw [e0, er]; exact hc n post hp
      · rw [e0, er]; exact (hc n post hp).alt_cat hq
    | [t], hsub, _ =>
      have e0 : ∀ p, textT styI (.mk 2 set [t]) p = textT styI t p := fun p => by rw [textT_mk]; simp [textsT_cons]
      have er : readT (.mk 2 set [t]) = readT t := by rw [readT_mk]; simp [readsT_cons]
      have h := hsub t (by simp) n
      exact ⟨by rw [e0, er]; exact h.item, by rw [e0, er]; exact h.cat, by rw [e0, er]; exact h.alt⟩
    | a :: b :: ts, hsub, _ =>
      have hps : ((a :: b :: ts).map fun t => (textT styI t 2, readT t)).map (·.1) = textsT styI (a :: b :: ts) 2 := by rw [textsT_map]; simp
      have hts : ((a :: b :: ts).map fun t => (textT styI t 2, readT t)).map (·.2) = readsT (a :: b :: ts) := by rw [readsT_map]; simp
      have e0 : ∀ p, textT styI (.mk 2 set (a :: b :: ts)) p = brX (decide (p = 2)) (Lib.join (textsT styI (a :: b :: ts) 2) [95]) := fun p => by rw [textT_mk]; simp [styI]
      have er : readT (.mk 2 set (a :: b :: ts)) = .mk 2 [] (readsT (a :: b :: ts)) := by rw [readT_mk]; simp
      have hc : ∀ (n : Nat) (post : Bs), endsM post = true → (Lib.join (textsT styI (a :: b :: ts) 2) [95] ++ post).length ≤ n → Ag (catM (altN n) (Lib.join (textsT styI (a :: b :: ts) 2) [95] ++ post)) (.mk 2 [] (readsT (a :: b :: ts))) post := by
        intro n post hp hl
        have := Ag.list_many (one := itemM (altN n)) (c := 95) (n := n) (k := 2) (post := post) (ends_no95 hp) ((a :: b :: ts).map fun t => (textT styI t 2, readT t)) (by simp) (by
          intro p hp' post' hpost' hlen
          obtain ⟨x, hx, rfl⟩ := List.mem_map.1 hp'
          rcases hpost' with rfl | hh
          · exact Ag.of_item (hsub x hx n).item (nd_ends hp) (noSign_ends hp) hlen
          · refine Ag.of_item (hsub x hx n).item ?_ ?_ hlen
            · intro d hd; rw [hh] at hd; simp at hd; subst hd; decide
            · simp [noSign, hh]) (by rw [hps]; exact hl)
        rw [hps, hts] at this
        have hne : endsM (Lib.join (textsT styI (a :: b :: ts) 2) [95] ++ post) ≠ true := by
          intro hc
          obtain ⟨t', f, e, _⟩ := this
          unfold listM at e
          rw [item_ends hc] at e
          cases e
        unfold catM
        rw [if_neg hne]
        exact this
      refine ⟨?_, fun post hp hl => ?_, fun post hp hq hl => ?_⟩
      · rw [e0, er]
        cases n with
        | zero => intro post _ hl; simp [brX] at hl
        | succ n => exact item_par fun post hl => (hc n (41 :: post) rfl hl).alt_cat (by simp)
      · rw [e0] at hl; rw [e0, er]; exact hc n post hp hl
      · rw [e0] at hl; rw [e0, er]; exact (hc n post hp hl).alt_cat hq
  · -- an Alt
    match subs, hsub, hm with
    | [], _, _ =>
      have e0 : ∀ p, textT styI (.mk 3 set []) p = [33] := fun p => by rw [textT_mk]; simp
      refine Says.same (e0 0) (e0 1) (e0 2) ?_
      rw [readT_mk]
      intro post _ _
      exact ⟨noT, false, by simp [itemM, atomM], fun _ => by simp [readsT_nil, noT]⟩
    | [t], hsub, _ =>
      have e0 : ∀ p, textT styI (.mk 3 set [t]) p = textT styI t p := fun p => by rw [textT_mk]; simp [textsT_cons]
      have er : readT (.mk 3 set [t]) = readT t := by rw [readT_mk]; simp [readsT_cons]
      have h := hsub t (by simp) n
      exact ⟨by rw [e0, er]; exact h.item, by rw [e0, er]; exact h.cat, by rw [e0, er]; exact h.alt⟩
    | a :: b :: ts, hsub, _ =>
      have hps : ((a :: b :: ts).map fun t => (textT styI t 1, readT t)).map (·.1) = textsT styI (a :: b :: ts) 1 := by rw [textsT_map]; simp
      have hts : ((a :: b :: ts).map fun t => (textT styI t 1, readT t)).map (·.2) = readsT (a :: b :: ts) := by rw [readsT_map]; simp
      have e0 : ∀ p, textT styI (.mk 3 set (a :: b :: ts)) p = brX (decide (p ≠ 0)) (Lib.join (textsT styI (a :: b :: ts) 1) [124]) := fun p => by rw [textT_mk]; simp
      have er : readT (.mk 3 set (a :: b :: ts)) = .mk 3 [] (readsT (a :: b :: ts)) := by rw [readT_mk]; simp
      have hc : ∀ (n : Nat) (post : Bs), endsM post = true → post.head? ≠ some 124 → (Lib.join (textsT styI (a :: b :: ts) 1) [124] ++ post).length ≤ n → Ag (altM (altN n) (Lib.join (textsT styI (a :: b :: ts) 1) [124] ++ post)) (.mk 3 [] (readsT (a :: b :: ts))) post := by
        intro n post hp hq hl
        have := Ag.list_many (one := catM (altN n)) (c := 124) (n := n) (k := 3) (post := post) hq ((a :: b :: ts).map fun t => (textT styI t 1, readT t)) (by simp) (by
          intro p hp' post' hpost' hlen
          obtain ⟨x, hx, rfl⟩ := List.mem_map.1 hp'
          refine (hsub x hx n).cat post' ?_ hlen
          rcases hpost' with rfl | hh
          · exact hp
          · cases post' with
            | nil => simp at hh
            | cons d q => simp at hh; subst hh; rfl) (by rw [hps]; exact hl)
        rw [hps, hts] at this
        exact this
      have hi : ItemG n (40 :: (Lib.join (textsT styI (a :: b :: ts) 1) [124] ++ [41])) (.mk 3 [] (readsT (a :: b :: ts))) := by
        cases n with
        | zero => intro post _ hl; simp at hl
        | succ n => exact item_par fun post hl => hc n (41 :: post) rfl (by simp) hl
      refine ⟨?_, fun post hp hl => ?_, fun post hp hq hl => ?_⟩
      · rw [e0, er]; exact hi
      · rw [e0] at hl; rw [e0, er]; exact Ag.cat_item hi hp hl
      · rw [e0] at hl; rw [e0, er]; exact hc n post hp hq hl
  · -- a Star
    obtain ⟨t, rfl⟩ := List.length_eq_one_iff.1 h1
    have e0 : ∀ p, textT styI (.mk 4 set [t]) p = textT styI t 2 ++ [42] := fun p => by rw [textT_mk]; simp [textsT_cons]
    have er : readT (.mk 4 set [t]) = stT (readT t) := by rw [readT_mk]; simp [readsT_cons]
    refine Says.same (e0 0) (e0 1) (e0 2) ?_
    rw [er]
    exact item_star (hsub t (by simp) n).item

/-! ### What is read takes the same paths -/

theorem takesOne (set : List (Int × Int)) (subs : List Tree) (s : List Int) : takes (.mk 1 set subs) s ↔ ∃ n, s = [n] ∧ inSet set n = true := by
  rw [takes_mk]; simp
theorem takesCat' (set : List (Int × Int)) (subs : List Tree) (s : List Int) : takes (.mk 2 set subs) s ↔ takesCat subs s := by
  rw [takes_mk]; simp
theorem takesAlt' (set : List (Int × Int)) (subs : List Tree) (s : List Int) : takes (.mk 3 set subs) s ↔ takesAlt subs s := by
  rw [takes_mk]; simp
theorem takesStar (set : List (Int × Int)) (t : Tree) (s : List Int) : takes (.mk 4 set [t]) s ↔ StarL (takes t) s := by
  have e : takesAlt [t] = takes t := by funext s; exact propext (takesAlt_one t s)
  rw [takes_mk, e]; simp

theorem takes_readS (l : List (Int × Int)) (s : List Int) : takes (readS l) s ↔ ∃ n, s = [n] ∧ inSet l n = true := by
  match l with
  | [] => simp [readS, noT, takesAlt', takesAlt_nil, inSet]
  | [a] => simp only [readS, takesOne]
  | a :: b :: l =>
    show takes (.mk 3 [] ((a :: b :: l).map fun s => .mk 1 [s] [])) s ↔ _
    generalize a :: b :: l = m
    rw [takesAlt', takesAlt_iff]
    constructor
    · rintro ⟨i, t, h1, h2⟩
      rw [List.getElem?_map] at h1
      cases hx : m[i]? with
      | none => rw [hx] at h1; simp at h1
      | some x =>
        rw [hx] at h1
        simp at h1
        subst h1
        obtain ⟨n, h3, h4⟩ := (takesOne _ _ _).1 h2
        simp [inSet] at h4
        refine ⟨n, h3, ?_⟩
        simp only [inSet, List.any_eq_true]
        exact ⟨x, List.mem_of_getElem? hx, by simp; exact h4⟩
    · rintro ⟨n, h3, h4⟩
      simp only [inSet, List.any_eq_true] at h4
      obtain ⟨x, hx, h5⟩ := h4
      obtain ⟨i, hi⟩ := List.mem_iff_getElem?.1 hx
      exact ⟨i, .mk 1 [x] [], by rw [List.getElem?_map, hi]; rfl, (takesOne _ _ _).2 ⟨n, h3, by simpa [inSet] using h5⟩⟩

theorem takesL_read {ts : List Tree} (h : ∀ t ∈ ts, ∀ s, takes (readT t) s ↔ takes t s) : (∀ s, takesCat (readsT ts) s ↔ takesCat ts s) ∧ (∀ s, takesAlt (readsT ts) s ↔ takesAlt ts s) := by
  induction ts with
  | nil => rw [readsT_nil]; exact ⟨fun _ => Iff.rfl, fun _ => Iff.rfl⟩
  | cons t ts ih =>
    obtain ⟨h1, h2⟩ := ih fun u hu => h u (by simp [hu])
    have h0 := h t (by simp)
    rw [readsT_cons]
    refine ⟨fun s => ?_, fun s => ?_⟩
    · rw [takesCat_cons, takesCat_cons]
      constructor
      · rintro ⟨a, b, e, h3, h4⟩; exact ⟨a, b, e, (h0 a).1 h3, (h1 b).1 h4⟩
      · rintro ⟨a, b, e, h3, h4⟩; exact ⟨a, b, e, (h0 a).2 h3, (h1 b).2 h4⟩
    · rw [takesAlt_cons, takesAlt_cons, h0 s, h2 s]

theorem takes_read (m : Nat) : ∀ (t : Tree), size t ≤ m → kindsT t = true → goodT t → ∀ s, takes (readT t) s ↔ takes t s := by
  induction m with
  | zero => intro t h; have := size_pos t; omega
  | succ m ih =>
  intro t hm hk hg s
  obtain ⟨k, set, subs⟩ := t
  rw [size_mk] at hm
  rw [kindsT_mk] at hk
  simp only [Bool.and_eq_true] at hk
  obtain ⟨hg1, hg2⟩ := (goodT_mk _ _ _).1 hg
  have hsub : ∀ (t : Tree), t ∈ subs → ∀ s, takes (readT t) s ↔ takes t s := by
    intro t ht s
    obtain ⟨i, hi⟩ := List.mem_iff_getElem?.1 ht
    exact ih t (by have := size_le_of_at hi; omega) (kindsT_of_at hk.2 hi) (hg2.at hi) s
  obtain ⟨hC, hA⟩ := takesL_read hsub
  rcases okAlone_split hk.1 with ⟨rfl, _⟩ | ⟨rfl, _⟩ | ⟨rfl, _⟩ | ⟨rfl, _, h1⟩
  · rw [readT_mk, if_pos rfl, takes_readS, takesOne]
    have := (nf_ok hg1).2
    constructor
    · rintro ⟨n, e, h⟩; exact ⟨n, e, (this n).symm.trans h⟩
    · rintro ⟨n, e, h⟩; exact ⟨n, e, (this n).trans h⟩
  · rw [readT_mk, if_neg (by decide), if_neg (by decide), takesCat']
    split
    · rename_i h1
      obtain ⟨t, rfl⟩ := List.length_eq_one_iff.1 h1
      rw [← hC, readsT_cons, readsT_nil, takesCat_cons]
      constructor
      · intro h; exact ⟨s, [], by simp, h, (takesCat_nil _).2 rfl⟩
      · rintro ⟨a, b, rfl, h, h2⟩
        rw [takesCat_nil] at h2
        subst h2
        simpa using h
    · rw [takesCat', hC]
  · rw [readT_mk, if_neg (by decide), if_neg (by decide), takesAlt']
    split
    · rename_i h1
      obtain ⟨t, rfl⟩ := List.length_eq_one_iff.1 h1
      rw [← hA, readsT_cons, readsT_nil, takesAlt_one]
      rfl
    · rw [takesAlt', hA]
  · obtain ⟨t, rfl⟩ := List.length_eq_one_iff.1 h1
    rw [readT_mk, if_neg (by decide), if_pos rfl, takesStar]
    have e : takes (readT t) = takes t := by funext s; exact propext (hsub t (by simp) s)
    rw [readsT_cons]
    show takes (.mk 4 [] [readT t]) s ↔ _
    rw [takesStar, e]

end Go.Proofs.YtjjlkjfhhpogaaaGreatDoor

namespace Go.Proofs.YtjjlkjfhhpogaaaGreatDoor
open Go.Proofs.YtjjlkjfhhpogaaaGreatDoorS1 (NF inS Good)

/-- The text of a whole pattern. -/
noncomputable def wholeX (t : Tree) : Bs := 94 :: (textT styI t 0 ++ [36])

theorem alt_94 (alt : Bs → Option Rd) (r : Bs) : altM alt (94 :: r) = none := by
  have e1 : numM (94 :: r) = none := num_none (by decide) r
  have e2 : atomM alt (94 :: r) = none := by simp [atomM, e1]
  have e3 : itemM alt (94 :: r) = none := by simp [itemM, e2]
  have e4 : catM alt (94 :: r) = none := by simp [catM, endsM, listM, e3]
  simp [altM, listM, e4]

theorem text_head {t : Tree} (hk : kindsT t = true) (hg : goodT t) : headIs 94 (textT styI t 0) = false := by
  obtain ⟨t', f, e, _⟩ := (says_all _ t (Nat.le_refl _) hk hg (textT styI t 0).length).alt [] rfl (by simp) (by simp)
  rw [List.append_nil] at e
  cases h : textT styI t 0 with
  | nil => rfl
  | cons c q =>
    by_cases hc : c = 94
    · subst hc
      rw [h, alt_94] at e
      cases e
    · simp [headIs, hc]

/-- What is printed is read as what it was, or is too full. -/
theorem back_whole {t : Tree} (hk : kindsT t = true) (hg : goodT t) : parseM (wholeX t) = (zeT, 6) ∨ parseM (wholeX t) = (readT t, 0) := by
  unfold parseM
  split
  · exact Or.inl rfl
  obtain ⟨t', f, e, hf⟩ := (says_all _ t (Nat.le_refl _) hk hg (wholeX t).length).alt [36] rfl (by simp) (by simp [wholeX])
  have e1 : altN ((wholeX t).length + 1) (tailIf (headIs 94 (wholeX t)) (wholeX t)) = some ⟨t', false, f, [36]⟩ := e
  have e2 : patM (wholeX t) = some (t', false, f) := by
    unfold patM
    rw [e1]
    simp [headIs, tailIf, wholeM, wholeX]
  rw [e2]
  cases f with
  | true => exact Or.inl rfl
  | false => right; simp [hf rfl]

/-- Without the signs at the ends. -/
theorem back_some {t : Tree} (hk : kindsT t = true) (hg : goodT t) : parseM (textT styI t 0) = (zeT, 6) ∨ parseM (textT styI t 0) = (.mk 2 [] [stT allT, readT t, stT allT], 0) := by
  unfold parseM
  split
  · exact Or.inl rfl
  obtain ⟨t', f, e, hf⟩ := (says_all _ t (Nat.le_refl _) hk hg (textT styI t 0).length).alt [] rfl (by simp) (by simp)
  rw [List.append_nil] at e
  have e1 : altN ((textT styI t 0).length + 1) (textT styI t 0) = some ⟨t', false, f, []⟩ := e
  have e2 : patM (textT styI t 0) = some ((keptM (.mk 2 [] [stT allT, t', stT allT])).1, false, f || (keptM (.mk 2 [] [stT allT, t', stT allT])).2) := by
    unfold patM
    rw [text_head hk hg]
    simp only [tailIf]
    rw [if_neg (by decide), e1]
    simp [headIs, wholeM, wholeL]
  rw [e2]
  cases hq : (f || (keptM (.mk 2 [] [stT allT, t', stT allT])).2) with
  | true => exact Or.inl rfl
  | false =>
    simp at hq
    right
    rw [kept_false hq.2, hf hq.1]
    rfl

theorem takes_all (s : List Int) : takes allT s ↔ ∃ n, s = [n] ∧ 0 ≤ n ∧ n ≤ 4294967295 := by
  unfold allT
  rw [takesOne]
  simp [inSet]
theorem takes_stAll (s : List Int) (h : ∀ n ∈ s, 0 ≤ n ∧ n ≤ 4294967295) : takes (stT allT) s := by
  unfold stT
  rw [takesStar]
  induction s with
  | nil => exact .nil
  | cons a s ih => exact StarL.cons (a := [a]) ((takes_all _).2 ⟨a, rfl, h a (by simp)⟩) (ih fun n hn => h n (by simp [hn]))

theorem mem_seg {s : List Int} {i k : Nat} {n : Int} (h : n ∈ seg s i k) : n ∈ s := by
  unfold seg at h
  exact List.mem_of_mem_drop (List.mem_of_mem_take h)

/-- Something ahead, and behind. -/
theorem takes_some (t : Tree) (s : List Int) (h : ∀ n ∈ s, 0 ≤ n ∧ n ≤ 4294967295) : takes (.mk 2 [] [stT allT, t, stT allT]) s ↔ ∃ i k : Nat, i ≤ k ∧ k ≤ s.length ∧ takes t (seg s i k) := by
  rw [takesCat', takesCat_cons]
  constructor
  · rintro ⟨a, b, rfl, _, h2⟩
    rw [takesCat_cons] at h2
    obtain ⟨c, d, rfl, h3, _⟩ := h2
    refine ⟨a.length, a.length + c.length, by omega, by simp, ?_⟩
    have : seg (a ++ (c ++ d)) a.length (a.length + c.length) = c := by simp [seg]
    rw [this]; exact h3
  · rintro ⟨i, k, h1, h2, h3⟩
    refine ⟨seg s 0 i, seg s i k ++ seg s k s.length, ?_, takes_stAll _ ?_, ?_⟩
    · rw [seg_append s h1 h2, seg_append s (Nat.zero_le _) (by omega), seg_all]
    · intro n hn
      exact h n (mem_seg hn)
    · rw [takesCat_cons]
      refine ⟨_, _, rfl, h3, ?_⟩
      rw [takesCat_cons]
      exact ⟨seg s k s.length, [], by simp, takes_stAll _ (fun n hn => h n (mem_seg hn)), (takesCat_nil _).2 rfl⟩

/-! ### Which bytes there may be -/

def okB (c : UInt8) : Bool := isDig c || decide (c ∈ ([91, 93, 45, 46, 33, 40, 41, 124, 95, 42, 43, 63, 94, 36] : List UInt8))

def Eats (r r' : Bs) : Prop := ∃ u, r = u ++ r' ∧ ∀ c ∈ u, okB c = true
theorem Eats.refl (r : Bs) : Eats r r := ⟨[], rfl, by simp⟩
theorem Eats.trans {a b c : Bs} (h : Eats a b) (k : Eats b c) : Eats a c := by
  obtain ⟨u, rfl, hu⟩ := h
  obtain ⟨v, rfl, hv⟩ := k
  exact ⟨u ++ v, by simp, fun c hc => by rcases List.mem_append.1 hc with hc | hc; exact hu c hc; exact hv c hc⟩
theorem Eats.cons {c : UInt8} {r r' : Bs} (hc : okB c = true) (h : Eats r r') : Eats (c :: r) r' := by
  obtain ⟨u, rfl, hu⟩ := h
  exact ⟨c :: u, rfl, fun d hd => by rcases List.mem_cons.1 hd with rfl | hd; exact hc; exact hu d hd⟩

theorem eats_num {r : Bs} {n : Nat} {r' : Bs} (h : numM r = some (n, r')) : Eats r r' := by
  unfold numM at h
  split at h
  · cases h
  · rename_i hn
    clear hn
    simp at h
    obtain ⟨hv, rfl⟩ := h
    clear hv
    refine ⟨r.takeWhile isDig, (List.takeWhile_append_dropWhile).symm, fun c hc => ?_⟩
    have : isDig c = true := by
      revert hc
      induction r with
      | nil => simp
      | cons a r ih =>
        rw [List.takeWhile_cons]
        split
        · rename_i ha
          intro hc
          rcases List.mem_cons.1 hc with rfl | hc
          · exact ha
          · exact ih hc
        · simp
    simp [okB, this]

theorem eats_signs : ∀ (r : Bs) (t : Tree) (f : Bool), Eats r (signsM r t f).2.2
  | [], t, f => by rw [signsM]; exact Eats.refl _
  | c :: r, t, f => by
    rw [signsM]
    split
    · rename_i h; subst h; exact Eats.cons (by decide) (eats_signs r _ _)
    · split
      · rename_i h; subst h; exact Eats.cons (by decide) (eats_signs r _ _)
      · split
        · rename_i h; subst h; exact Eats.cons (by decide) (eats_signs r _ _)
        · exact Eats.refl _

theorem eats_span {r : Bs} {x : Rd} (h : spanM r = some x) : Eats r x.r := by
  unfold spanM at h
  split at h
  · rename_i lo r1 e1
    split at h
    · rename_i hi r2 e2
      simp at h
      subst h
      exact (eats_num e1).trans (Eats.cons (by decide) ((eats_num e2).trans (Eats.cons (by decide) (Eats.refl _))))
    · cases h
  · cases h

theorem eats_atom {alt : Bs → Option Rd} (ha : ∀ r x, alt r = some x → Eats r x.r) : ∀ {r : Bs} {x : Rd}, atomM alt r = some x → Eats r x.r
  | [], x, h => by cases h
  | c :: r, x, h => by
    rw [atomM] at h
    split at h
    · rename_i hc; subst hc; simp at h; subst h; exact Eats.cons (by decide) (Eats.refl _)
    split at h
    · rename_i hc; subst hc; simp at h; subst h; exact Eats.cons (by decide) (Eats.refl _)
    split at h
    · rename_i hc
      subst hc
      unfold parM at h
      split at h
      · rename_i t o f r' e
        simp at h
        subst h
        exact Eats.cons (by decide) ((ha _ _ e).trans (Eats.cons (by decide) (Eats.refl _)))
      · cases h
    split at h
    · rename_i hc; subst hc; exact Eats.cons (by decide) (eats_span h)
    split at h
    · rename_i n r' e
      simp at h
      subst h
      exact eats_num e
    · cases h

theorem eats_item {alt : Bs → Option Rd} (ha : ∀ r x, alt r = some x → Eats r x.r) {r : Bs} {x : Rd} (h : itemM alt r = some x) : Eats r x.r := by
  unfold itemM at h
  split at h
  · rename_i y e
    simp at h
    subst h
    exact (eats_atom ha e).trans (eats_signs _ _ _)
  · cases h

theorem eats_sep {one : Bs → Option Rd} (ho : ∀ r x, one r = some x → Eats r x.r) {c : UInt8} (hc : okB c = true) : ∀ (k : Nat) (l : List Tree) (o f : Bool) (r : Bs) (l' : List Tree) (o' f' : Bool) (r' : Bs), sepM one c k l o f r = some (l', o', f', r') → Eats r r'
  | 0, l, o, f, r, l', o', f', r', h => by rw [sepM] at h; simp at h; obtain ⟨_, _, _, rfl⟩ := h; exact Eats.refl _
  | k + 1, l, o, f, [], l', o', f', r', h => by rw [sepM] at h; simp at h; obtain ⟨_, _, _, rfl⟩ := h; exact Eats.refl _
  | k + 1, l, o, f, d :: r, l', o', f', r', h => by
    rw [sepM] at h
    split at h
    · rename_i hd
      subst hd
      split at h
      · rename_i x e
        exact Eats.cons hc ((ho _ _ e).trans (eats_sep ho hc k _ _ _ _ _ _ _ _ h))
      · cases h
    · simp at h; obtain ⟨_, _, _, rfl⟩ := h; exact Eats.refl _

theorem eats_list {one : Bs → Option Rd} (ho : ∀ r x, one r = some x → Eats r x.r) {c : UInt8} (hc : okB c = true) {k : Int} {r : Bs} {x : Rd} (h : listM one c k r = some x) : Eats r x.r := by
  unfold listM at h
  split at h
  · cases h
  · rename_i y e
    split at h
    · cases h
    · rename_i l o f r' e2
      simp at h
      subst h
      exact (ho _ _ e).trans (eats_sep ho hc _ _ _ _ _ _ _ _ _ e2)

theorem eats_alt : ∀ (n : Nat) (r : Bs) (x : Rd), altN n r = some x → Eats r x.r
  | 0, r, x, h => by cases h
  | n + 1, r, x, h => by
    refine eats_list (one := catM (altN n)) (fun r x h => ?_) (c := 124) (by decide) h
    unfold catM at h
    split at h
    · simp at h; subst h; exact Eats.refl _
    · exact eats_list (fun r x h => eats_item (eats_alt n) h) (by decide) h

/-- A text with another byte isn't of the grammar. -/
theorem pat_bytes {s : Bs} {q : Tree × Bool × Bool} (h : patM s = some q) : ∀ c ∈ s, okB c = true := by
  unfold patM at h
  split at h
  · cases h
  · rename_i x e
    split at h
    · rename_i hr
      have h1 : ∀ (b : UInt8) (r : Bs), okB b = true → Eats r (tailIf (headIs b r) r) := by
        intro b r hb
        cases r with
        | nil => simp [tailIf, headIs]; exact Eats.refl _
        | cons c r =>
          by_cases hc : c = b
          · subst hc; simp [tailIf, headIs]; exact Eats.cons hb (Eats.refl _)
          · simp [tailIf, headIs, hc]; exact Eats.refl _
      have h2 := ((h1 94 s (by decide)).trans (eats_alt _ _ _ e)).trans (h1 36 x.r (by decide))
      rw [hr] at h2
      obtain ⟨u, hu, h3⟩ := h2
      rw [List.append_nil] at hu
      rw [hu]
      exact h3
    · cases h

theorem parse_bytes {s : Bs} {c : UInt8} (hc : c ∈ s) (hb : okB c = false) : (parseM s).2 = 4 ∨ (2000 < s.length ∧ (parseM s).2 = 6) := by
  unfold parseM
  split
  · rename_i h; exact Or.inr ⟨h, rfl⟩
  · left
    cases h : patM s with
    | none => rfl
    | some q =>
      have := pat_bytes h c hc
      rw [hb] at this
      cases this

end Go.Proofs.YtjjlkjfhhpogaaaGreatDoor
