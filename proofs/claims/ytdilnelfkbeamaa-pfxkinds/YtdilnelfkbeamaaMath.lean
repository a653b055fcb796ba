/-
  Plain mathematics of routes: no program in sight.
-/
namespace Go.Proofs.Ytdilnelfkbeamaa

/-- A route. -/
structure Rt where
  addr : Int
  len : Int
  path : List Int
  comms : List Int
  pref : Int
  med : Int
  origin : Int
  hop : Int

/-- A number of 32 bits. -/
def Num (c : Int) : Prop := 0 ≤ c ∧ c ≤ 4294967295

/-- A number of 64 bits with a sign. -/
def Num64 (c : Int) : Prop := -9223372036854775808 ≤ c ∧ c ≤ 9223372036854775807

/-- Numbers of 32 bits. -/
def Good (l : List Int) : Prop := ∀ x ∈ l, 0 ≤ x ∧ x ≤ 4294967295

theorem Good.at {l : List Int} (h : Good l) {k : Nat} {x : Int} (hx : l[k]? = some x) : 0 ≤ x ∧ x ≤ 4294967295 := h x (List.mem_of_getElem? hx)

/-- A route of numbers that fit. -/
structure Ok (x : Rt) : Prop where
  addr : Num x.addr
  len : Num64 x.len
  path : Good x.path
  comms : Good x.comms
  pref : Num x.pref
  med : Num x.med
  origin : Num64 x.origin
  hop : Num x.hop

theorem bool_eq {a b : Bool} (h : a = true ↔ b = true) : a = b := by
  cases a <;> cases b <;> simp_all

/-- Which of two numbers comes first. -/
def cmpV (x y : Int) : Int := if x < y then -1 else if y < x then 1 else 0

/-- Which of two lists comes first. -/
def cmpL : List Int → List Int → Int
  | [], [] => 0
  | [], _ :: _ => -1
  | _ :: _, [] => 1
  | a :: l, b :: m => if a = b then cmpL l m else cmpV a b

theorem cmpV_self (x : Int) : cmpV x x = 0 := by simp [cmpV]
theorem cmpV_neg (x y : Int) : cmpV y x = -cmpV x y := by
  unfold cmpV
  split <;> split <;> (try split) <;> omega
theorem cmpV_zero {x y : Int} (h : cmpV x y = 0) : x = y := by
  unfold cmpV at h
  split at h
  · omega
  · split at h <;> omega
theorem cmpV_range (x y : Int) : -1 ≤ cmpV x y ∧ cmpV x y ≤ 1 := by
  unfold cmpV
  split <;> (try split) <;> omega
theorem cmpV_le {x y z : Int} (h : cmpV x y ≤ 0) (k : cmpV y z ≤ 0) : cmpV x z ≤ 0 := by
  unfold cmpV at *
  split at h <;> split at k <;> split <;> (try split) <;> (try split at h) <;> (try split at k) <;> omega

theorem cmpL_self (l : List Int) : cmpL l l = 0 := by
  induction l with
  | nil => rfl
  | cons a l ih => simp [cmpL, ih]
theorem cmpL_neg : ∀ (l m : List Int), cmpL m l = -cmpL l m
  | [], [] => rfl
  | [], _ :: _ => rfl
  | _ :: _, [] => rfl
  | a :: l, b :: m => by
    unfold cmpL
    by_cases e : a = b
    · subst e; simp [cmpL_neg l m]
    · rw [if_neg e, if_neg (fun h => e h.symm)]; exact cmpV_neg a b
theorem cmpL_zero : ∀ {l m : List Int}, cmpL l m = 0 → l = m
  | [], [], _ => rfl
  | [], _ :: _, h => by simp [cmpL] at h
  | _ :: _, [], h => by simp [cmpL] at h
  | a :: l, b :: m, h => by
    unfold cmpL at h
    by_cases e : a = b
    · subst e; rw [if_pos rfl] at h; rw [cmpL_zero h]
    · rw [if_neg e] at h; exact absurd (cmpV_zero h) e
theorem cmpL_range : ∀ (l m : List Int), -1 ≤ cmpL l m ∧ cmpL l m ≤ 1
  | [], [] => by simp [cmpL]
  | [], _ :: _ => by simp [cmpL]
  | _ :: _, [] => by simp [cmpL]
  | a :: l, b :: m => by
    unfold cmpL
    by_cases e : a = b
    · rw [if_pos e]; exact cmpL_range l m
    · rw [if_neg e]; exact cmpV_range a b
theorem cmpV_lt {x y : Int} : cmpV x y ≤ 0 ↔ x ≤ y := by
  unfold cmpV
  split
  · omega
  · split <;> omega
theorem cmpL_le : ∀ {l m n : List Int}, cmpL l m ≤ 0 → cmpL m n ≤ 0 → cmpL l n ≤ 0
  | [], [], _, _, k => k
  | [], _ :: _, [], _, _ => by simp [cmpL]
  | [], _ :: _, _ :: _, _, _ => by simp [cmpL]
  | _ :: _, [], _, h, _ => by simp [cmpL] at h
  | _ :: _, _ :: _, [], _, k => by simp [cmpL] at k
  | a :: l, b :: m, c :: n, h, k => by
    unfold cmpL at *
    by_cases e : a = b
    · subst e
      rw [if_pos rfl] at h
      by_cases f : a = c
      · subst f
        rw [if_pos rfl] at *
        exact cmpL_le h k
      · rw [if_neg f] at *; exact k
    · rw [if_neg e] at h
      by_cases f : b = c
      · subst f
        rw [if_neg e]; exact h
      · rw [if_neg f] at k
        have h1 := cmpV_lt.1 h
        have h2 := cmpV_lt.1 k
        rw [if_neg (by omega)]
        exact cmpV_lt.2 (by omega)

/-- The first that isn't 0. -/
def firstNZ : List Int → Int
  | [] => 0
  | a :: l => if a = 0 then firstNZ l else a

/-- Which of two routes comes first. -/
def cmps (x y : Rt) : List Int := [cmpV x.addr y.addr, cmpV x.len y.len, cmpL x.path y.path, cmpL x.comms y.comms, cmpV x.pref y.pref, cmpV x.med y.med, cmpV x.origin y.origin, cmpV x.hop y.hop]
def cmpR (x y : Rt) : Int := firstNZ (cmps x y)

theorem firstNZ_neg (l : List Int) : firstNZ (l.map fun x => -x) = -firstNZ l := by
  induction l with
  | nil => rfl
  | cons a l ih =>
    simp only [List.map_cons, firstNZ]
    by_cases e : a = 0
    · subst e; simp [ih]
    · rw [if_neg e, if_neg (by omega)]

theorem firstNZ_range : ∀ (l : List Int), (∀ x ∈ l, -1 ≤ x ∧ x ≤ 1) → -1 ≤ firstNZ l ∧ firstNZ l ≤ 1
  | [], _ => by simp [firstNZ]
  | a :: l, h => by
    unfold firstNZ
    split
    · exact firstNZ_range l (fun x hx => h x (List.mem_cons_of_mem _ hx))
    · exact h a List.mem_cons_self

theorem cmpR_self (x : Rt) : cmpR x x = 0 := by
  simp [cmpR, cmps, firstNZ, cmpV_self, cmpL_self]
theorem cmpR_neg (x y : Rt) : cmpR y x = -cmpR x y := by
  unfold cmpR
  rw [← firstNZ_neg]
  congr 1
  simp only [cmps, List.map_cons, List.map_nil]
  rw [cmpV_neg x.addr, cmpV_neg x.len, cmpL_neg x.path, cmpL_neg x.comms, cmpV_neg x.pref, cmpV_neg x.med, cmpV_neg x.origin, cmpV_neg x.hop]
theorem cmpR_range (x y : Rt) : -1 ≤ cmpR x y ∧ cmpR x y ≤ 1 := by
  refine firstNZ_range _ fun z hz => ?_
  simp only [cmps, List.mem_cons, List.not_mem_nil, or_false] at hz
  rcases hz with rfl | rfl | rfl | rfl | rfl | rfl | rfl | rfl
  all_goals first | exact cmpV_range _ _ | exact cmpL_range _ _

/-- One step of an order by several marks. -/
theorem step_le {a b c r s t : Int} (h : (if a = 0 then r else a) ≤ 0) (k : (if b = 0 then s else b) ≤ 0) (hc : a ≤ 0 → b ≤ 0 → c ≤ 0) (hab : a = 0 → b = 0 → c = 0) (hl : a = 0 → c = b) (hr : b = 0 → c = a) (ht : r ≤ 0 → s ≤ 0 → t ≤ 0) (hz : c = 0 → a ≤ 0 → b ≤ 0 → a = 0 ∧ b = 0) : (if c = 0 then t else c) ≤ 0 := by
  by_cases e : a = 0
  · by_cases f : b = 0
    · rw [if_pos e] at h
      rw [if_pos f] at k
      rw [if_pos (hab e f)]
      exact ht h k
    · rw [if_neg f] at k
      rw [if_neg (by have := hl e; omega)]
      have := hl e
      omega
  · rw [if_neg e] at h
    by_cases f : b = 0
    · have := hr f
      rw [if_neg (by omega)]
      omega
    · rw [if_neg f] at k
      have h1 := hc h k
      rw [if_neg (fun h0 => e (hz h0 h k).1)]
      exact h1

theorem cmpV_l {x y z : Int} (h : cmpV x y = 0) : cmpV x z = cmpV y z := by rw [cmpV_zero h]
theorem cmpV_r {x y z : Int} (h : cmpV y z = 0) : cmpV x z = cmpV x y := by rw [cmpV_zero h]
theorem cmpL_l {x y z : List Int} (h : cmpL x y = 0) : cmpL x z = cmpL y z := by rw [cmpL_zero h]
theorem cmpL_r {x y z : List Int} (h : cmpL y z = 0) : cmpL x z = cmpL x y := by rw [cmpL_zero h]
theorem cmpV_z {x y z : Int} (h : cmpV x z = 0) (h1 : cmpV x y ≤ 0) (h2 : cmpV y z ≤ 0) : cmpV x y = 0 ∧ cmpV y z = 0 := by
  have e := cmpV_zero h
  subst e
  have := cmpV_neg x y
  omega
theorem cmpL_z {x y z : List Int} (h : cmpL x z = 0) (h1 : cmpL x y ≤ 0) (h2 : cmpL y z ≤ 0) : cmpL x y = 0 ∧ cmpL y z = 0 := by
  have e := cmpL_zero h
  subst e
  have := cmpL_neg x y
  omega

theorem cmpR_le {x y z : Rt} (h : cmpR x y ≤ 0) (k : cmpR y z ≤ 0) : cmpR x z ≤ 0 := by
  have sV : ∀ {a b c r s t : Int}, (if cmpV a b = 0 then r else cmpV a b) ≤ 0 → (if cmpV b c = 0 then s else cmpV b c) ≤ 0 → (r ≤ 0 → s ≤ 0 → t ≤ 0) → (if cmpV a c = 0 then t else cmpV a c) ≤ 0 := fun h k ht =>
    step_le h k cmpV_le (fun h1 h2 => by rw [cmpV_l h1]; exact h2) cmpV_l cmpV_r ht cmpV_z
  have sL : ∀ {a b c : List Int} {r s t : Int}, (if cmpL a b = 0 then r else cmpL a b) ≤ 0 → (if cmpL b c = 0 then s else cmpL b c) ≤ 0 → (r ≤ 0 → s ≤ 0 → t ≤ 0) → (if cmpL a c = 0 then t else cmpL a c) ≤ 0 := fun h k ht =>
    step_le h k cmpL_le (fun h1 h2 => by rw [cmpL_l h1]; exact h2) cmpL_l cmpL_r ht cmpL_z
  unfold cmpR cmps at *
  simp only [firstNZ] at *
  exact sV h k fun h k => sV h k fun h k => sL h k fun h k => sL h k fun h k => sV h k fun h k => sV h k fun h k => sV h k fun h k => sV h k fun h _ => h

/-- A length between 0 and 32. -/
def clampL (n : Int) : Int := max 0 (min n 32)

/-- How many addresses have a length. -/
def szN (k : Nat) : Int := (2 ^ k : Nat)
def sz (n : Int) : Int := szN (32 - clampL n).toNat

/-- The address with the bits behind its length 0. -/
def maskA (a n : Int) : Int := a / sz n * sz n

theorem clampL_range (n : Int) : 0 ≤ clampL n ∧ clampL n ≤ 32 := by unfold clampL; omega
theorem clampL_clampL (n : Int) : clampL (clampL n) = clampL n := by unfold clampL; omega
theorem szN_pos (k : Nat) : 1 ≤ szN k := by
  have := Nat.two_pow_pos k
  unfold szN
  omega
theorem sz_pos (n : Int) : 1 ≤ sz n := szN_pos _
theorem sz_clampL (n : Int) : sz (clampL n) = sz n := by unfold sz; rw [clampL_clampL]
theorem maskA_range {a n : Int} (h : Num a) : Num (maskA a n) := by
  have hp := sz_pos n
  have h1 := Int.ediv_mul_le a (b := sz n) (by omega)
  have h2 : 0 ≤ a / sz n * sz n := Int.mul_nonneg (Int.ediv_nonneg h.1 (by omega)) (by omega)
  have := h.2
  unfold maskA Num
  omega
theorem maskA_maskA (a n : Int) : maskA (maskA a n) (clampL n) = maskA a n := by
  unfold maskA
  rw [sz_clampL, Int.mul_ediv_cancel _ (by have := sz_pos n; omega)]

/-- Is a prefix right? -/
def rightP (a n : Int) : Bool := decide (maskA a n = a ∧ clampL n = n)

/-- Does a list rise? -/
def rises : List Int → Bool
  | [] => true
  | [_] => true
  | a :: b :: l => decide (a < b) && rises (b :: l)

/-- Rising, each once. -/
def Rising (l : List Int) : Prop := l.Pairwise (· < ·)

theorem rises_iff : ∀ (l : List Int), rises l = true ↔ Rising l
  | [] => by simp [rises, Rising]
  | [_] => by simp [rises, Rising]
  | a :: b :: l => by
    unfold rises
    rw [Bool.and_eq_true, rises_iff (b :: l), decide_eq_true_iff]
    unfold Rising
    constructor
    · rintro ⟨h, k⟩
      refine List.pairwise_cons.2 ⟨fun x hx => ?_, k⟩
      rcases List.mem_cons.1 hx with rfl | hx
      · exact h
      · have := (List.pairwise_cons.1 k).1 x hx; omega
    · intro h
      have := List.pairwise_cons.1 h
      exact ⟨this.1 b List.mem_cons_self, this.2⟩

/-- May a route be? -/
def validR (x : Rt) : Bool := rightP x.addr x.len && (decide (x.path.length ≤ 255) && !x.path.contains 0) && (decide (x.comms.length ≤ 255) && rises x.comms) && (decide (0 ≤ x.origin) && decide (x.origin ≤ 2))

/-- r is the rising list of what l has. -/
def IsSet (l r : List Int) : Prop := Rising r ∧ ∀ x, x ∈ r ↔ x ∈ l

theorem rising_unique : ∀ {l m : List Int}, Rising l → Rising m → (∀ x, x ∈ l ↔ x ∈ m) → l = m
  | [], [], _, _, _ => rfl
  | [], b :: m, _, _, h => absurd ((h b).2 List.mem_cons_self) (by simp)
  | a :: l, [], _, _, h => absurd ((h a).1 List.mem_cons_self) (by simp)
  | a :: l, b :: m, hl, hm, h => by
    have h1 := List.pairwise_cons.1 hl
    have h2 := List.pairwise_cons.1 hm
    have e : a = b := by
      rcases List.mem_cons.1 ((h a).1 List.mem_cons_self) with e | e
      · exact e
      · rcases List.mem_cons.1 ((h b).2 List.mem_cons_self) with f | f
        · exact f.symm
        · have := h1.1 b f; have := h2.1 a e; omega
    subst e
    rw [rising_unique h1.2 h2.2 fun x => ⟨fun hx => ?_, fun hx => ?_⟩]
    · rcases List.mem_cons.1 ((h x).1 (List.mem_cons_of_mem _ hx)) with e | e
      · subst e; have := h1.1 x hx; omega
      · exact e
    · rcases List.mem_cons.1 ((h x).2 (List.mem_cons_of_mem _ hx)) with e | e
      · subst e; have := h2.1 x hx; omega
      · exact e

theorem IsSet.unique {l r s : List Int} (h : IsSet l r) (k : IsSet l s) : r = s := rising_unique h.1 k.1 fun x => (h.2 x).trans (k.2 x).symm
theorem IsSet.own {l : List Int} (h : Rising l) : IsSet l l := ⟨h, fun _ => Iff.rfl⟩
theorem IsSet.nil : IsSet [] [] := ⟨by simp [Rising], fun _ => Iff.rfl⟩
theorem IsSet.good {l r : List Int} (h : IsSet l r) (k : Good l) : Good r := fun x hx => k x ((h.2 x).1 hx)

/-- The one form with these communities. -/
def canonW (x : Rt) (r : List Int) : Rt := { x with addr := maskA x.addr x.len, len := clampL x.len, comms := r }

theorem canonW_ok {x : Rt} {r : List Int} (h : Ok x) (hr : Good r) : Ok (canonW x r) :=
  ⟨maskA_range h.addr, by have := clampL_range x.len; unfold canonW Num64; simp only; omega, h.path, hr, h.pref, h.med, h.origin, h.hop⟩

theorem canonW_canonW {x : Rt} {r s : List Int} (h : IsSet x.comms r) (k : IsSet r s) : canonW (canonW x r) s = canonW x r := by
  have : s = r := k.unique (IsSet.own h.1)
  subst this
  unfold canonW
  simp only
  rw [maskA_maskA, clampL_clampL]

theorem canonW_valid {x : Rt} {r : List Int} (h : IsSet x.comms r) (v : validR x = true) : canonW x r = x := by
  unfold validR at v
  simp only [Bool.and_eq_true] at v
  obtain ⟨⟨⟨v1, _⟩, _, v3⟩, _⟩ := v
  have e := h.unique (IsSet.own ((rises_iff _).1 v3))
  subst e
  have := of_decide_eq_true v1
  unfold canonW
  rw [this.1, this.2]

theorem canonW_mayBe {x : Rt} {r : List Int} (h : IsSet x.comms r) : validR { canonW x r with origin := 1, path := [] } = decide (r.length ≤ 255) := by
  have h1 : rises r = true := (rises_iff _).2 h.1
  have h2 : rightP (maskA x.addr x.len) (clampL x.len) = true := decide_eq_true ⟨maskA_maskA _ _, clampL_clampL _⟩
  apply bool_eq
  simp [validR, canonW, h1, h2]
  exact ⟨fun h => of_decide_eq_true h, fun h => decide_eq_true h⟩

end Go.Proofs.Ytdilnelfkbeamaa
