/-
  Plain mathematics of ranges of prefixes: no program in sight.
-/
import Derived.Test.YtdilnelfkbeamaaMath
namespace Go.Proofs.Ytdilnelfkbeamaa

/-- A range. -/
structure Rg where
  addr : Int
  len : Int
  ge : Int
  le : Int

/-- A prefix. -/
structure Pf where
  addr : Int
  len : Int

/-- An entry of a list. -/
structure En where
  deny : Bool
  rg : Rg

structure OkP (p : Pf) : Prop where
  addr : Num p.addr
  len : Num64 p.len

structure OkR (x : Rg) : Prop where
  addr : Num x.addr
  len : Num64 x.len
  ge : Num64 x.ge
  le : Num64 x.le

/-- May a range be? -/
def rightR (x : Rg) : Bool := rightP x.addr x.len && (decide (x.len ≤ x.ge) && (decide (x.ge ≤ x.le) && decide (x.le ≤ 32)))

/-- Are prefixes of so many bits in a range? -/
def hasLen (x : Rg) (n : Int) : Bool := rightR x && (decide (x.ge ≤ n) && decide (n ≤ x.le))

/-- Is a prefix in a range? -/
def inR (x : Rg) (p : Pf) : Bool := hasLen x p.len && (rightP p.addr p.len && decide (maskA p.addr x.len = x.addr))

/-- Does a list take a prefix? -/
def matchL : List En → Pf → Bool
  | [], _ => false
  | e :: l, p => if inR e.rg p then !e.deny else matchL l p

/-- What two ranges would have in common. -/
def meetX (a b : Rg) : Rg := { addr := if a.len < b.len then b.addr else a.addr, len := if a.len < b.len then b.len else a.len, ge := max (max a.ge b.ge) (if a.len < b.len then b.len else a.len), le := min a.le b.le }

/-- Have they anything in common? -/
def meetOk (a b : Rg) : Bool := inR a ⟨(meetX a b).addr, (meetX a b).ge⟩ && inR b ⟨(meetX a b).addr, (meetX a b).ge⟩

/-- The address of the first n bits, the last of them turned. -/
def turnA (a n : Int) : Int := (if a / sz n % 2 = 1 then a / sz n - 1 else a / sz n + 1) * sz n

/-- A range, if it is not empty. -/
def piece (a n ge le : Int) : List Rg := if ge ≤ le then [⟨a, n, ge, le⟩] else []

/-- The ranges beside a base. -/
def beside (a l0 ge le : Int) (k : Nat) : List Rg := (List.range k).map fun i : Nat => ⟨turnA a (l0 + 1 + (i : Int)), l0 + 1 + (i : Int), ge, le⟩

/-- What is in a range and not in another one. -/
def minusM (a m : Rg) : List Rg := piece a.addr a.len a.ge (m.ge - 1) ++ beside m.addr a.len m.ge m.le (m.len - a.len).toNat ++ piece a.addr a.len (m.le + 1) a.le
def minusR (a b : Rg) : List Rg := if rightR a then (if meetOk a b then minusM a (meetX a b) else [a]) else []

theorem szN_add (j k : Nat) : szN (j + k) = szN j * szN k := by
  unfold szN
  rw [Nat.pow_add]
  simp

theorem sz_mul {n k : Int} (h : clampL n ≤ clampL k) : ∃ t, 1 ≤ t ∧ sz n = sz k * t := by
  refine ⟨szN (clampL k - clampL n).toNat, szN_pos _, ?_⟩
  unfold sz
  rw [← szN_add]
  congr 1
  have := clampL_range n
  have := clampL_range k
  omega

theorem clampL_mono {n k : Int} (h : n ≤ k) : clampL n ≤ clampL k := by unfold clampL; omega
theorem clampL_of {n : Int} (h0 : 0 ≤ n) (h : n ≤ 32) : clampL n = n := by unfold clampL; omega

theorem sz_zero : sz 0 = 4294967296 := by decide +kernel
theorem sz_le (n : Int) : sz n ≤ 4294967296 := by
  have h := clampL_range n
  unfold sz szN
  have : (2 : Nat) ^ (32 - clampL n).toNat ≤ 2 ^ 32 := Nat.pow_le_pow_right (by omega) (by omega)
  omega

/-- Fewer bits of fewer bits. -/
theorem maskA_fewer (a : Int) {n k : Int} (h : n ≤ k) : maskA (maskA a k) n = maskA a n := by
  obtain ⟨t, ht, e⟩ := sz_mul (clampL_mono h)
  have hk := sz_pos k
  unfold maskA
  rw [e, Int.mul_comm (a / sz k) (sz k), Int.mul_ediv_mul_of_pos _ _ (by omega), Int.ediv_ediv_of_nonneg (by omega)]

/-- More bits of fewer bits. -/
theorem maskA_more (a : Int) {n k : Int} (h : n ≤ k) : maskA (maskA a n) k = maskA a n := by
  obtain ⟨t, ht, e⟩ := sz_mul (clampL_mono h)
  have hk := sz_pos k
  unfold maskA
  rw [e, ← Int.mul_assoc, Int.mul_comm (a / (sz k * t)) (sz k), Int.mul_assoc, Int.mul_ediv_cancel_left _ (by omega)]
  rw [Int.mul_comm]

theorem maskA_le (a n : Int) : maskA a n ≤ a := Int.ediv_mul_le a (by have := sz_pos n; omega)
theorem maskA_lt (a n : Int) : a < maskA a n + sz n := by
  have hk := sz_pos n
  have := Int.lt_ediv_add_one_mul_self a (show 0 < sz n by omega)
  unfold maskA
  rw [Int.add_mul, Int.one_mul] at this
  exact this
theorem maskA_mono {a b : Int} (h : a ≤ b) (n : Int) : maskA a n ≤ maskA b n := by
  have hk := sz_pos n
  unfold maskA
  exact Int.mul_le_mul_of_nonneg_right (Int.ediv_le_ediv (by omega) h) (by omega)

theorem rightP_iff {a n : Int} : rightP a n = true ↔ maskA a n = a ∧ clampL n = n := by unfold rightP; simp
theorem rightP_len {a n : Int} (h : rightP a n = true) : 0 ≤ n ∧ n ≤ 32 := by
  have := (rightP_iff.1 h).2
  have := clampL_range n
  omega
theorem rightP_more {a n k : Int} (h : rightP a n = true) (hk : n ≤ k) (h32 : k ≤ 32) : rightP a k = true := by
  have h0 := rightP_len h
  have h1 := (rightP_iff.1 h).1
  refine rightP_iff.2 ⟨?_, clampL_of (by omega) h32⟩
  have := maskA_more a hk
  rw [h1] at this
  exact this
theorem rightP_mask (a : Int) {n : Int} (h0 : 0 ≤ n) (h : n ≤ 32) : rightP (maskA a n) n = true := rightP_iff.2 ⟨maskA_more a (Int.le_refl _), clampL_of h0 h⟩

theorem rightR_iff {x : Rg} : rightR x = true ↔ rightP x.addr x.len = true ∧ x.len ≤ x.ge ∧ x.ge ≤ x.le ∧ x.le ≤ 32 := by unfold rightR; simp
theorem hasLen_iff {x : Rg} {n : Int} : hasLen x n = true ↔ rightR x = true ∧ x.ge ≤ n ∧ n ≤ x.le := by unfold hasLen; simp
theorem inR_iff {x : Rg} {p : Pf} : inR x p = true ↔ rightR x = true ∧ x.ge ≤ p.len ∧ p.len ≤ x.le ∧ rightP p.addr p.len = true ∧ maskA p.addr x.len = x.addr := by unfold inR hasLen; simp [and_assoc]

/-- The document's words for 'nothing in common'. -/
theorem meetOk_iff {a b : Rg} : meetOk a b = true ↔ rightR a = true ∧ rightR b = true ∧ maskA (meetX a b).addr a.len = a.addr ∧ maskA (meetX a b).addr b.len = b.addr ∧ (meetX a b).ge ≤ (meetX a b).le := by
  unfold meetOk
  rw [Bool.and_eq_true, inR_iff, inR_iff]
  constructor
  · rintro ⟨⟨ra, ga, la, _, ma⟩, rb, gb, lb, _, mb⟩
    refine ⟨ra, rb, ma, mb, ?_⟩
    simp only [meetX] at *
    omega
  · rintro ⟨ra, rb, ma, mb, hl⟩
    obtain ⟨pa, a1, a2, a3⟩ := rightR_iff.1 ra
    obtain ⟨pb, b1, b2, b3⟩ := rightR_iff.1 rb
    have hp : rightP (meetX a b).addr (meetX a b).ge = true := by
      by_cases h : a.len < b.len
      · have : rightP b.addr (meetX a b).ge = true := rightP_more pb (by simp only [meetX]; omega) (by simp only [meetX] at *; omega)
        simpa [meetX, h] using this
      · have : rightP a.addr (meetX a b).ge = true := rightP_more pa (by simp only [meetX]; omega) (by simp only [meetX] at *; omega)
        simpa [meetX, h] using this
    refine ⟨⟨ra, ?_, ?_, hp, ma⟩, rb, ?_, ?_, hp, mb⟩ <;> (simp only [meetX] at *; omega)

/-- What is in both makes them meet. -/
theorem meetOk_of_in {a b : Rg} {p : Pf} (ha : inR a p = true) (hb : inR b p = true) : meetOk a b = true := by
  obtain ⟨ra, a1, a2, rp, ma⟩ := inR_iff.1 ha
  obtain ⟨rb, b1, b2, _, mb⟩ := inR_iff.1 hb
  obtain ⟨pa, a3, a4, a5⟩ := rightR_iff.1 ra
  obtain ⟨pb, b3, b4, b5⟩ := rightR_iff.1 rb
  refine meetOk_iff.2 ⟨ra, rb, ?_, ?_, ?_⟩
  · simp only [meetX]
    split
    · rw [← mb, maskA_fewer _ (by omega)]; exact ma
    · rw [← ma]; exact maskA_more _ (Int.le_refl _)
  · simp only [meetX]
    split
    · rw [← mb]; exact maskA_more _ (Int.le_refl _)
    · rw [← ma, maskA_fewer _ (by omega)]; exact mb
  · simp only [meetX]
    split <;> omega

/-- What is in both is in Meet, and the other way round. -/
theorem in_meetX {a b : Rg} (p : Pf) (h : meetOk a b = true) : inR (meetX a b) p = (inR a p && inR b p) := by
  obtain ⟨ra, rb, ma, mb, hl⟩ := meetOk_iff.1 h
  obtain ⟨pa, a3, a4, a5⟩ := rightR_iff.1 ra
  obtain ⟨pb, b3, b4, b5⟩ := rightR_iff.1 rb
  have rm : rightR (meetX a b) = true := by
    refine rightR_iff.2 ⟨?_, ?_, hl, ?_⟩
    · simp only [meetX]
      split <;> assumption
    · simp only [meetX]; omega
    · simp only [meetX]; omega
  apply bool_eq
  rw [Bool.and_eq_true, inR_iff, inR_iff, inR_iff]
  constructor
  · rintro ⟨_, g, l, rp, m⟩
    refine ⟨⟨ra, ?_, ?_, rp, ?_⟩, rb, ?_, ?_, rp, ?_⟩
    · simp only [meetX] at *; omega
    · simp only [meetX] at *; omega
    · rw [← maskA_fewer p.addr (show a.len ≤ (meetX a b).len by simp only [meetX]; split <;> omega), m]; exact ma
    · simp only [meetX] at *; omega
    · simp only [meetX] at *; omega
    · rw [← maskA_fewer p.addr (show b.len ≤ (meetX a b).len by simp only [meetX]; split <;> omega), m]; exact mb
  · rintro ⟨⟨_, g1, l1, rp, m1⟩, _, g2, l2, _, m2⟩
    refine ⟨rm, ?_, ?_, rp, ?_⟩
    · simp only [meetX]; split <;> omega
    · simp only [meetX]; omega
    · simp only [meetX]; split <;> assumption

theorem sz_half {n : Int} (h1 : 1 ≤ n) (h2 : n ≤ 32) : sz (n - 1) = 2 * sz n := by
  have e : (32 - clampL (n - 1)).toNat = (32 - clampL n).toNat + 1 := by unfold clampL; omega
  unfold sz
  rw [e, szN_add]
  show szN _ * szN 1 = _
  have : szN 1 = 2 := rfl
  rw [this, Int.mul_comm]

/-- The turned one is what goes along up to the last bit. -/
theorem turn_iff {P a n : Int} (h1 : 1 ≤ n) (h2 : n ≤ 32) : maskA P n = turnA a n ↔ maskA P (n - 1) = maskA a (n - 1) ∧ maskA P n ≠ maskA a n := by
  have hs := sz_pos n
  have hne : sz n ≠ 0 := by omega
  have c : ∀ x y : Int, x * sz n = y * sz n ↔ x = y := fun x y => ⟨fun h => Int.eq_of_mul_eq_mul_right hne h, fun h => by rw [h]⟩
  have c2 : ∀ x y : Int, x * (2 * sz n) = y * (2 * sz n) ↔ x = y := fun x y => ⟨fun h => Int.eq_of_mul_eq_mul_right (by omega) h, fun h => by rw [h]⟩
  unfold maskA turnA
  rw [sz_half h1 h2, c, c2, Ne, c, Int.mul_comm 2 (sz n), ← Int.ediv_ediv_of_nonneg (by omega), ← Int.ediv_ediv_of_nonneg (by omega)]
  generalize P / sz n = Q
  generalize a / sz n = A
  split <;> omega

theorem turnA_right {a n : Int} (h0 : 0 ≤ n) (h2 : n ≤ 32) : rightP (turnA a n) n = true := by
  refine rightP_iff.2 ⟨?_, clampL_of h0 h2⟩
  unfold turnA maskA
  rw [Int.mul_ediv_cancel _ (by have := sz_pos n; omega)]

theorem turnA_range {a n : Int} (ha : Num a) (h1 : 1 ≤ n) (h2 : n ≤ 32) : Num (turnA a n) := by
  obtain ⟨t, ht, e⟩ := sz_mul (n := n - 1) (k := n) (clampL_mono (by omega))
  have h := (turn_iff (P := turnA a n) (a := a) h1 h2).1 (rightP_iff.1 (turnA_right (by omega) h2)).1
  have hr := maskA_range (n := n - 1) ha
  have l1 := maskA_le (turnA a n) (n - 1)
  have l2 := maskA_lt (turnA a n) (n - 1)
  rw [h.1] at l1 l2
  have m0 : maskA a 0 = 0 := by unfold maskA; rw [sz_zero]; have := ha.1; have := ha.2; omega
  have f := maskA_fewer (turnA a n) (show (0:Int) ≤ n - 1 by omega)
  rw [h.1, maskA_fewer a (show (0:Int) ≤ n - 1 by omega), m0] at f
  have l3 := maskA_lt (turnA a n) 0
  rw [← f, sz_zero] at l3
  unfold Num at *
  omega

/-- How many of some ranges have a prefix. -/
def cnt (p : Pf) (l : List Rg) : Nat := l.countP fun x => inR x p
theorem cnt_append (p : Pf) (l m : List Rg) : cnt p (l ++ m) = cnt p l + cnt p m := List.countP_append

theorem cnt_piece {p : Pf} {a n ge le : Int} (hr : rightP a n = true) (h : n ≤ ge) (hle : le ≤ 32) : cnt p (piece a n ge le) = if ge ≤ p.len ∧ p.len ≤ le ∧ rightP p.addr p.len = true ∧ maskA p.addr n = a then 1 else 0 := by
  unfold piece
  split
  · have e : inR ⟨a, n, ge, le⟩ p = decide (ge ≤ p.len ∧ p.len ≤ le ∧ rightP p.addr p.len = true ∧ maskA p.addr n = a) := by
      apply bool_eq
      rw [inR_iff, decide_eq_true_iff]
      exact ⟨fun h => h.2, fun k => ⟨rightR_iff.2 ⟨hr, h, by assumption, hle⟩, k⟩⟩
    simp only [cnt, List.countP_cons, List.countP_nil, e, decide_eq_true_iff, Nat.zero_add]
  · rw [if_neg (by omega)]
    rfl

theorem cnt_beside {p : Pf} {a l0 ge le : Int} (k : Nat) (h0 : 0 ≤ l0) (hk : l0 + k ≤ ge) (hgl : ge ≤ le) (hle : le ≤ 32) :
    cnt p (beside a l0 ge le k) = if ge ≤ p.len ∧ p.len ≤ le ∧ rightP p.addr p.len = true ∧ maskA p.addr l0 = maskA a l0 ∧ maskA p.addr (l0 + k) ≠ maskA a (l0 + k) then 1 else 0 := by
  induction k with
  | zero =>
    rw [if_neg (by rintro ⟨_, _, _, h, h'⟩; rw [show l0 + ((0 : Nat) : Int) = l0 by omega] at h'; exact h' h)]
    rfl
  | succ k ih =>
    have e : beside a l0 ge le (k + 1) = beside a l0 ge le k ++ [⟨turnA a (l0 + 1 + k), l0 + 1 + k, ge, le⟩] := by
      unfold beside
      rw [List.range_succ, List.map_append]
      rfl
    have e1 : l0 + ((k + 1 : Nat) : Int) = l0 + 1 + k := by omega
    have e2 : l0 + 1 + (k : Int) - 1 = l0 + k := by omega
    have hin : inR ⟨turnA a (l0 + 1 + k), l0 + 1 + k, ge, le⟩ p = decide (ge ≤ p.len ∧ p.len ≤ le ∧ rightP p.addr p.len = true ∧ maskA p.addr (l0 + k) = maskA a (l0 + k) ∧ maskA p.addr (l0 + 1 + k) ≠ maskA a (l0 + 1 + k)) := by
      have ht := turn_iff (P := p.addr) (a := a) (n := l0 + 1 + k) (by omega) (by omega)
      rw [e2] at ht
      apply bool_eq
      rw [inR_iff, decide_eq_true_iff]
      constructor
      · rintro ⟨_, g, l, rp, m⟩
        exact ⟨g, l, rp, ht.1 m⟩
      · rintro ⟨g, l, rp, m⟩
        refine ⟨rightR_iff.2 ⟨turnA_right (by omega) (by omega), by simp only; omega, hgl, hle⟩, g, l, rp, ht.2 m⟩
    have d1 : maskA p.addr (l0 + 1 + k) = maskA a (l0 + 1 + k) → maskA p.addr (l0 + k) = maskA a (l0 + k) := fun h => by
      rw [← maskA_fewer p.addr (show l0 + (k : Int) ≤ l0 + 1 + k by omega), h, maskA_fewer _ (by omega)]
    have d2 : maskA p.addr (l0 + k) = maskA a (l0 + k) → maskA p.addr l0 = maskA a l0 := fun h => by
      rw [← maskA_fewer p.addr (show l0 ≤ l0 + (k : Int) by omega), h, maskA_fewer _ (by omega)]
    rw [e, cnt_append, ih (by omega), e1]
    simp only [cnt, List.countP_cons, List.countP_nil, hin, decide_eq_true_iff, Nat.zero_add]
    by_cases hA : ge ≤ p.len ∧ p.len ≤ le ∧ rightP p.addr p.len = true
    · obtain ⟨hA, hB, hC⟩ := hA
      by_cases h2 : maskA p.addr (l0 + 1 + k) = maskA a (l0 + 1 + k)
      · simp [hA, hB, hC, h2, d1 h2]
      · by_cases h1 : maskA p.addr (l0 + k) = maskA a (l0 + k)
        · simp [hA, hB, hC, h2, h1, d2 h1]
        · simp [hA, hB, hC, h2, h1]
    · rw [if_neg (fun h => hA ⟨h.1, h.2.1, h.2.2.1⟩), if_neg (fun h => hA ⟨h.1, h.2.1, h.2.2.1⟩), if_neg (fun h => hA ⟨h.1, h.2.1, h.2.2.1⟩)]

/-- Minus leaves what is in the first alone, each prefix in one range. -/
theorem cnt_minus (a b : Rg) (p : Pf) : cnt p (minusR a b) = if inR a p = true ∧ inR b p = false then 1 else 0 := by
  unfold minusR
  by_cases ra : rightR a = true
  case neg =>
    rw [if_neg ra, if_neg (fun h => ra (inR_iff.1 h.1).1)]
    rfl
  rw [if_pos ra]
  by_cases hm : meetOk a b = true
  case neg =>
    rw [if_neg hm]
    have : inR a p = true → inR b p = false := fun h => by
      cases hb : inR b p
      · rfl
      · exact absurd (meetOk_of_in h hb) hm
    simp only [cnt, List.countP_cons, List.countP_nil, Nat.zero_add]
    by_cases h : inR a p = true
    · rw [if_pos h, if_pos ⟨h, this h⟩]
    · rw [if_neg h, if_neg (fun k => h k.1)]
  rw [if_pos hm]
  obtain ⟨_, rb, ma, mb, hl⟩ := meetOk_iff.1 hm
  obtain ⟨pa, a3, a4, a5⟩ := rightR_iff.1 ra
  obtain ⟨pb, b3, b4, b5⟩ := rightR_iff.1 rb
  have la := rightP_len pa
  have lb := rightP_len pb
  obtain ⟨m, hmx⟩ : ∃ m, m = meetX a b := ⟨_, rfl⟩
  rw [← hmx] at ma mb hl ⊢
  have hlen : m.len = if a.len < b.len then b.len else a.len := by rw [hmx]; rfl
  have hge : m.ge = max (max a.ge b.ge) m.len := by rw [hmx]; rfl
  have hle : m.le = min a.le b.le := by rw [hmx]; rfl
  have haddr : m.addr = if a.len < b.len then b.addr else a.addr := by rw [hmx]; rfl
  have hlm : a.len ≤ m.len := by rw [hlen]; split <;> omega
  have hk : a.len + ((m.len - a.len).toNat : Int) = m.len := by omega
  unfold minusM
  rw [cnt_append, cnt_append, cnt_piece pa (by omega) (by omega), cnt_piece pa (by omega) (by omega), cnt_beside _ la.1 (by omega) hl (by omega), hk, ma]
  have hin : inR a p = true ∧ inR b p = false ↔ (a.ge ≤ p.len ∧ p.len ≤ a.le ∧ rightP p.addr p.len = true ∧ maskA p.addr a.len = a.addr) ∧ ¬ (b.ge ≤ p.len ∧ p.len ≤ b.le ∧ rightP p.addr p.len = true ∧ maskA p.addr b.len = b.addr) := by
    rw [← Bool.not_eq_true, inR_iff, inR_iff]
    simp [ra, rb]
  simp only [hin]
  have mm : maskA m.addr m.len = m.addr := by
    rw [haddr, hlen]
    split
    · exact (rightP_iff.1 pb).1
    · exact (rightP_iff.1 pa).1
  have hbm : maskA p.addr a.len = a.addr → (maskA p.addr b.len = b.addr ↔ maskA p.addr m.len = maskA m.addr m.len) := fun h => by
    rw [mm, haddr, hlen]
    by_cases hab : a.len < b.len
    · rw [if_pos hab, if_pos hab]
    · rw [if_neg hab, if_neg hab]
      refine ⟨fun _ => h, fun _ => ?_⟩
      rw [← maskA_fewer p.addr (show b.len ≤ a.len by omega), h, ← mb, haddr, if_neg hab]
  by_cases hrp : rightP p.addr p.len = true
  case neg => simp [hrp]
  by_cases hma : maskA p.addr a.len = a.addr
  case neg => simp [hma]
  have hbm := hbm hma
  simp only [hrp, hma, true_and, and_true]
  have hblen : b.len ≤ m.len := by rw [hlen]; split <;> omega
  by_cases hmm : maskA p.addr m.len = maskA m.addr m.len
  · have := hbm.2 hmm
    simp only [this, hmm, and_true, ne_eq, not_true, and_false, if_false]
    have hml : m.len ≤ m.ge := by omega
    split <;> split <;> split <;> omega
  · have : ¬ maskA p.addr b.len = b.addr := fun h => hmm (hbm.1 h)
    simp only [this, hmm, ne_eq, not_false_eq_true, and_true, and_false]
    split <;> split <;> split <;> split <;> omega

end Go.Proofs.Ytdilnelfkbeamaa
