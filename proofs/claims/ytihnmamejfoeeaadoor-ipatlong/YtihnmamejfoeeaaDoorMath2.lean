/-
  Sets of places: four words of 64 bits. Plain mathematics, and how the model reckons with such words.
-/
import Derived.Test.YtihnmamejfoeeaaDoorMath
import Derived.Laws.BitsAllLaws
namespace Go.Proofs.YtihnmamejfoeeaaDoor

/-- A word, as a number. -/
def u (x : BitVec 64) : Int := (x.toNat : Int)
theorem u_inj {x y : BitVec 64} (h : u x = u y) : x = y := BitVec.eq_of_toNat_eq (by unfold u at h; omega)
theorem u_zero : u 0 = 0 := rfl
theorem u_range (x : BitVec 64) : 0 ≤ u x ∧ u x < 18446744073709551616 := by unfold u; have := x.isLt; omega

theorem u_or (x y : BitVec 64) : bits .or .u64 (u x) (u y) = u (x ||| y) := by
  unfold u; rw [u64_or_nat _ _ (by have := x.isLt; omega) (by have := y.isLt; omega), BitVec.toNat_or]
theorem u_and (x y : BitVec 64) : bits .and .u64 (u x) (u y) = u (x &&& y) := by
  unfold u; rw [u64_and_nat _ _ (by have := x.isLt; omega) (by have := y.isLt; omega), BitVec.toNat_and]
theorem u_andNot (x y : BitVec 64) : bits .andNot .u64 (u x) (u y) = u (x &&& ~~~y) := by
  unfold u; rw [u64_andNot_nat _ _ (by have := x.isLt; omega) (by have := y.isLt; omega), BitVec.toNat_and, BitVec.toNat_not]
theorem u_shl (x : BitVec 64) (n : Nat) : IntKind.u64.wrap (u x * 2 ^ n) = u (x <<< n) := by
  unfold u
  rw [IntKind.wrap_u64, BitVec.toNat_shiftLeft, Nat.shiftLeft_eq]
  have : ((x.toNat : Int) * 2 ^ n) = ((x.toNat * 2 ^ n : Nat) : Int) := by simp
  rw [this]
  omega
theorem u_shr (x : BitVec 64) (n : Nat) : u x / 2 ^ n = u (x >>> n) := by
  unfold u
  rw [BitVec.toNat_ushiftRight, Nat.shiftRight_eq_div_pow]
  simp
theorem u_sub1 (x : BitVec 64) (h : x ≠ 0) : IntKind.u64.wrap (u x - 1) = u (x - 1) := by
  unfold u
  have h0 : x.toNat ≠ 0 := fun e => h (BitVec.eq_of_toNat_eq (by simpa using e))
  have := x.isLt
  rw [IntKind.wrap_u64, BitVec.toNat_sub]
  simp
  omega
theorem u_neg (x : BitVec 64) : IntKind.u64.wrap (-(u x)) = u (-x) := by
  unfold u
  have := x.isLt
  rw [IntKind.wrap_u64, BitVec.toNat_neg]
  omega
theorem u_mul (x y : BitVec 64) : IntKind.u64.wrap (u x * u y) = u (x * y) := by
  unfold u
  rw [IntKind.wrap_u64, BitVec.toNat_mul]
  have : ((x.toNat : Int) * (y.toNat : Int)) = ((x.toNat * y.toNat : Nat) : Int) := by simp
  rw [this]
  omega
theorem u_one_shl (n : Nat) : IntKind.u64.wrap (1 * 2 ^ n) = u ((1 : BitVec 64) <<< n) := u_shl 1 n

/-- The lowest bit of a word, and the word without it. -/
theorem lowest (x : BitVec 64) (h : x ≠ 0) : ∃ k, k < 64 ∧ x.getLsbD k = true ∧ x &&& -x = (1 : BitVec 64) <<< k ∧ ∀ j, (x &&& (x - 1)).getLsbD j = (x.getLsbD j && decide (j ≠ k)) := by
  have h0 : x.toNat ≠ 0 := fun e => h (BitVec.eq_of_toNat_eq (by simpa using e))
  have ex : ∀ n : Nat, n ≠ 0 → ∃ k m, n = 2 ^ k * (2 * m + 1) := by
    intro n
    induction n using Nat.strongRecOn with
    | ind n ih =>
      intro hn
      by_cases e : n % 2 = 0
      · obtain ⟨k, m, hkm⟩ := ih (n / 2) (by omega) (by omega)
        refine ⟨k + 1, m, ?_⟩
        have : n = 2 * (n / 2) := by omega
        rw [this, hkm, Nat.pow_succ, Nat.mul_comm (2 ^ k) 2, Nat.mul_assoc]
      · exact ⟨0, n / 2, by omega⟩
  obtain ⟨k, m, hkm⟩ := ex x.toNat h0
  have hx := x.isLt
  have hk : k < 64 := by
    rcases Nat.lt_or_ge k 64 with h | h
    · exact h
    · exfalso
      have h1 := Nat.pow_le_pow_right (show 0 < 2 by omega) h
      have h2 : 2 ^ k * 1 ≤ 2 ^ k * (2 * m + 1) := Nat.mul_le_mul_left _ (by omega)
      omega
  have hp := Nat.two_pow_pos k
  have hx1 : (x - 1).toNat = 2 ^ k * (2 * m) + (2 ^ k - 1) := by
    have e : (x - 1).toNat = x.toNat - 1 := by
      rw [BitVec.toNat_sub]
      simp
      omega
    rw [e, hkm, Nat.mul_add]
    omega
  have bx : ∀ j, x.getLsbD j = (if j < k then false else if j = k then true else (2 * m).testBit (j - k)) := by
    intro j
    rw [← BitVec.testBit_toNat, hkm, Nat.testBit_two_pow_mul]
    by_cases c : j < k
    · rw [if_pos c]; simp; omega
    · rw [if_neg c]
      by_cases d : j = k
      · rw [if_pos d]; subst d; simp
      · rw [if_neg d]
        have : j - k = (j - k - 1) + 1 := by omega
        rw [this, Nat.testBit_succ, Nat.testBit_succ]
        have e1 : (2 * m + 1) / 2 = m := by omega
        have e2 : 2 * m / 2 = m := by omega
        rw [e1, e2]
        simp
        omega
  have by1 : ∀ j, (x - 1).getLsbD j = (if j < k then true else if j = k then false else (2 * m).testBit (j - k)) := by
    intro j
    rw [← BitVec.testBit_toNat, hx1, Nat.testBit_two_pow_mul_add _ (by omega)]
    by_cases c : j < k
    · rw [if_pos c, if_pos c, Nat.testBit_two_pow_sub_one]; simp [c]
    · rw [if_neg c, if_neg c]
      by_cases d : j = k
      · rw [if_pos d]; subst d; simp
      · rw [if_neg d]
  have hneg : -x = ~~~(x - 1) := by
    apply BitVec.eq_of_toNat_eq
    rw [BitVec.toNat_neg, BitVec.toNat_not, BitVec.toNat_sub]
    simp
    omega
  refine ⟨k, hk, by rw [bx]; simp, ?_, ?_⟩
  · apply BitVec.eq_of_getLsbD_eq
    intro j hj
    rw [BitVec.getLsbD_and, hneg, BitVec.getLsbD_not, bx, by1, BitVec.getLsbD_shiftLeft]
    by_cases c : j < k
    · simp [c]
    · by_cases d : j = k
      · subst d; simp [hj]
      · have : j - k ≠ 0 := by omega
        simp only [c, d, if_false]
        have e : (1#64).getLsbD (j - k) = false := by
          rw [BitVec.getLsbD_one]
          simp
          omega
        simp [e]
        intro h _
        exact h
  · intro j
    rw [BitVec.getLsbD_and, bx, by1]
    by_cases c : j < k
    · simp [c]
    · by_cases d : j = k
      · subst d; simp
      · simp [c, d]

theorem less_and (x : BitVec 64) (h : x ≠ 0) : (x &&& (x - 1)).toNat < x.toNat := by
  have h0 : x.toNat ≠ 0 := fun e => h (BitVec.eq_of_toNat_eq (by simpa using e))
  have e : (x - 1).toNat = x.toNat - 1 := by
    have := x.isLt
    rw [BitVec.toNat_sub]
    simp
    omega
  rw [BitVec.toNat_and, e]
  have := @Nat.and_le_right x.toNat (x.toNat - 1)
  omega

/-- The table of the lowest bits. -/
def tab64 : List Int := [0, 1, 56, 2, 57, 49, 28, 3, 61, 58, 42, 50, 38, 29, 17, 4, 62, 47, 59, 36, 45, 43, 51, 22, 53, 39, 33, 30, 24, 18, 12, 5, 63, 55, 48, 27, 60, 41, 37, 16, 46, 35, 44, 21, 52, 32, 23, 11, 54, 26, 40, 15, 34, 20, 31, 10, 25, 14, 19, 9, 13, 8, 7, 6]
theorem tab64_at : ∀ k : Fin 64, tab64[(((1 : BitVec 64) <<< k.val * 285870213051353865) >>> 58).toNat]? = some (k.val : Int) ∧ (((1 : BitVec 64) <<< k.val * 285870213051353865) >>> 58).toNat < 64 := by decide +kernel

/-- Four words. -/
structure Pl where
  a : BitVec 64
  b : BitVec 64
  c : BitVec 64
  d : BitVec 64

def Pl.word (p : Pl) : Nat → BitVec 64
  | 0 => p.a
  | 1 => p.b
  | 2 => p.c
  | 3 => p.d
  | _ => 0

/-- Is a place in the set? -/
def Pl.has (p : Pl) (n : Nat) : Bool := (p.word (n / 64)).getLsbD (n % 64)

def Pl.zero : Pl := ⟨0, 0, 0, 0⟩
def Pl.or (p q : Pl) : Pl := ⟨p.a ||| q.a, p.b ||| q.b, p.c ||| q.c, p.d ||| q.d⟩
def Pl.and (p q : Pl) : Pl := ⟨p.a &&& q.a, p.b &&& q.b, p.c &&& q.c, p.d &&& q.d⟩
def Pl.sub (p q : Pl) : Pl := ⟨p.a &&& ~~~q.a, p.b &&& ~~~q.b, p.c &&& ~~~q.c, p.d &&& ~~~q.d⟩
def Pl.onw (p : Pl) : Pl := ⟨p.a <<< 1, p.b <<< 1 ||| p.a >>> 63, p.c <<< 1 ||| p.b >>> 63, p.d <<< 1 ||| p.c >>> 63⟩
def Pl.put (p : Pl) (i : Nat) (x : BitVec 64) : Pl := ⟨if i = 0 then x else p.a, if i = 1 then x else p.b, if i = 2 then x else p.c, if i = 3 then x else p.d⟩
def Pl.at (n : Nat) : Pl := Pl.zero.put (n / 64) ((1 : BitVec 64) <<< (n % 64))

theorem Pl.has_big (p : Pl) {n : Nat} (h : 256 ≤ n) : p.has n = false := by
  unfold Pl.has
  have : ∃ m, n / 64 = m + 4 := ⟨n / 64 - 4, by omega⟩
  obtain ⟨m, hm⟩ := this
  rw [hm]
  simp [Pl.word]
theorem div_cases {n : Nat} (h : n < 256) : n / 64 = 0 ∨ n / 64 = 1 ∨ n / 64 = 2 ∨ n / 64 = 3 := by omega

theorem Pl.has_zero (n : Nat) : Pl.zero.has n = false := by
  unfold Pl.has Pl.zero Pl.word
  split <;> simp
theorem Pl.has_or (p q : Pl) (n : Nat) : (p.or q).has n = (p.has n || q.has n) := by
  unfold Pl.has Pl.or Pl.word
  split <;> simp
theorem Pl.has_and (p q : Pl) (n : Nat) : (p.and q).has n = (p.has n && q.has n) := by
  unfold Pl.has Pl.and Pl.word
  split <;> simp
theorem Pl.has_sub (p q : Pl) (n : Nat) : (p.sub q).has n = (p.has n && !q.has n) := by
  have hm : n % 64 < 64 := Nat.mod_lt _ (by omega)
  unfold Pl.has Pl.sub Pl.word
  split <;> simp [hm]
theorem Pl.has_at {m : Nat} (hm : m < 256) (n : Nat) : (Pl.at m).has n = decide (n = m) := by
  by_cases hn : n < 256
  · have hm1 : m % 64 < 64 := Nat.mod_lt _ (by omega)
    have hn1 : n % 64 < 64 := Nat.mod_lt _ (by omega)
    have key : ((1 : BitVec 64) <<< (m % 64)).getLsbD (n % 64) = decide (n % 64 = m % 64) := by
      rw [BitVec.getLsbD_shiftLeft]
      by_cases e : n % 64 = m % 64
      · simp [e, hm1]
      · have : (1#64).getLsbD (n % 64 - m % 64) = decide (n % 64 - m % 64 = 0) := by rw [BitVec.getLsbD_one]; simp
        simp only [BitVec.ofNat_eq_ofNat, this, hn1, decide_true, Bool.true_and, e, decide_false, Bool.and_eq_false_imp, Bool.not_eq_true', decide_eq_false_iff_not]
        omega
    have h1 : n = 64 * (n / 64) + n % 64 := by omega
    have h2 : m = 64 * (m / 64) + m % 64 := by omega
    have h3 : decide (n = m) = (decide (n / 64 = m / 64) && decide (n % 64 = m % 64)) := by
      by_cases a : n / 64 = m / 64
      · by_cases b : n % 64 = m % 64
        · have : n = m := by omega
          simp [this]
        · have : ¬ n = m := fun e => b (by rw [e])
          simp [this, b]
      · have : ¬ n = m := fun e => a (by rw [e])
        simp [this, a]
    rw [h3, ← key]
    unfold Pl.has Pl.at Pl.put Pl.zero
    rcases div_cases hn with e | e | e | e <;> rcases div_cases hm with f | f | f | f <;> simp [e, f, Pl.word]
  · rw [Pl.has_big _ (by omega)]
    simp
    omega
theorem Pl.has_onw_zero (p : Pl) : p.onw.has 0 = false := by
  unfold Pl.has Pl.onw Pl.word
  simp
theorem Pl.has_onw (p : Pl) {n : Nat} (h : n < 255) : p.onw.has (n + 1) = p.has n := by
  by_cases c : n % 64 = 63
  · have h1 : (n + 1) / 64 = n / 64 + 1 := by omega
    have h2 : (n + 1) % 64 = 0 := by omega
    unfold Pl.has
    rw [h1, h2, c]
    have : n / 64 = 0 ∨ n / 64 = 1 ∨ n / 64 = 2 := by omega
    unfold Pl.onw
    rcases this with e | e | e <;> simp [e, Pl.word]
  · have h1 : (n + 1) / 64 = n / 64 := by omega
    have h2 : (n + 1) % 64 = n % 64 + 1 := by omega
    have h3 : n % 64 + 1 < 64 := by have := Nat.mod_lt n (show 0 < 64 by omega); omega
    unfold Pl.has
    rw [h1, h2]
    unfold Pl.onw
    have big : ∀ x : BitVec 64, x.getLsbD (63 + (n % 64 + 1)) = false := fun x => BitVec.getLsbD_of_ge _ _ (by omega)
    rcases div_cases (show n < 256 by omega) with e | e | e | e <;> simp [e, Pl.word, h3, big] <;> rfl

theorem Pl.ext_has {p q : Pl} (h : ∀ n, n < 256 → p.has n = q.has n) : p = q := by
  have w : ∀ i, i < 4 → p.word i = q.word i := by
    intro i hi
    apply BitVec.eq_of_getLsbD_eq
    intro j hj
    have := h (64 * i + j) (by omega)
    unfold Pl.has at this
    have e1 : (64 * i + j) / 64 = i := by omega
    have e2 : (64 * i + j) % 64 = j := by omega
    rw [e1, e2] at this
    exact this
  obtain ⟨a, b, c, d⟩ := p
  obtain ⟨a', b', c', d'⟩ := q
  have h0 := w 0 (by omega)
  have h1 := w 1 (by omega)
  have h2 := w 2 (by omega)
  have h3 := w 3 (by omega)
  simp only [Pl.word] at h0 h1 h2 h3
  subst h0 h1 h2 h3
  rfl

theorem Pl.eq_zero {p : Pl} (h : p ≠ .zero) : ∃ n, n < 256 ∧ p.has n = true := by
  apply Classical.byContradiction
  intro c
  apply h
  apply Pl.ext_has
  intro n hn
  rw [Pl.has_zero]
  cases e : p.has n
  · rfl
  · exact absurd ⟨n, hn, e⟩ c

/-- How many places are not in the set. -/
def Pl.left (p : Pl) : Nat := (List.range 256).countP fun n => !p.has n

theorem countP_lt {α : Type} (l : List α) (f g : α → Bool) (h : ∀ x ∈ l, f x = true → g x = true) {y : α} (hy : y ∈ l) (h1 : g y = true) (h2 : f y = false) : l.countP f < l.countP g := by
  induction l with
  | nil => simp at hy
  | cons a l ih =>
    have hle : l.countP f ≤ l.countP g := List.countP_mono_left fun x hx => h x (List.mem_cons_of_mem _ hx)
    rw [List.countP_cons, List.countP_cons]
    rcases List.mem_cons.1 hy with rfl | hy
    · simp [h1, h2]
      omega
    · have := ih (fun x hx => h x (List.mem_cons_of_mem _ hx)) hy
      have ha := h a (List.mem_cons_self ..)
      by_cases c : f a = true
      · simp [c, ha c]; exact this
      · simp [c]; omega

theorem Pl.left_lt {p q : Pl} (hq : q ≠ .zero) (hd : ∀ n, q.has n = true → p.has n = false) : (p.or q).left < p.left := by
  obtain ⟨n, hn, h⟩ := Pl.eq_zero hq
  refine countP_lt _ _ _ (fun x _ hx => ?_) (List.mem_range.2 hn) (by rw [hd n h]; rfl) (by rw [Pl.has_or, h]; simp)
  rw [Pl.has_or] at hx
  simp at hx
  simp [hx.1]

end Go.Proofs.YtihnmamejfoeeaaDoor
