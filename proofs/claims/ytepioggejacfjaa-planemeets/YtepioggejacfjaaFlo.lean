/-
  Whole numbers as floats: what nearest, read, order, sum and the way back to integers are at them. Plain mathematics over Ieee.
-/
import Ieee.Arith
namespace Go.Proofs.Ytepioggejacfjaa
open Ieee

theorem log2_shift (n E : Nat) (hn : n ≠ 0) : (n * 2 ^ E).log2 = n.log2 + E := by
  induction E with
  | zero => simp
  | succ k ih =>
    have h : n * 2 ^ (k + 1) = 2 * (n * 2 ^ k) := by rw [Nat.pow_succ]; simp [Nat.mul_comm, Nat.mul_left_comm]
    have h0 : n * 2 ^ k ≠ 0 := Nat.mul_ne_zero hn (by have := Nat.two_pow_pos k; omega)
    rw [h, Nat.log2_two_mul h0, ih]; omega

/-- Nothing is dropped: a number cut at a place below which it has nothing. -/
theorem cut_exact (way : Toward) (neg : Bool) (q d : Nat) (hq : q ≠ 0) : way.cut neg (q * 2 ^ d) d = q := by
  have h1 : min d ((q * 2 ^ d).log2 + 2) = d := by rw [log2_shift q d hq]; omega
  have h2 : 0 < 2 ^ d := Nat.two_pow_pos d
  have h3 : q * 2 ^ d / 2 ^ d = q := Nat.mul_div_cancel _ h2
  have h4 : q * 2 ^ d % 2 ^ d = 0 := Nat.mul_mod_left _ _
  unfold Toward.cut
  simp only [h1, Nat.shiftLeft_eq, Nat.one_mul, h3, h4]
  have h5 : (2 ^ d == 2 * 0) = false := by simp
  cases way <;> simp [h5]

theorem cut_zero (way : Toward) (neg : Bool) (d : Nat) : way.cut neg 0 d = 0 := by
  unfold Toward.cut
  cases way <;> simp [Nat.shiftLeft_eq]

/-- The word of a whole number. -/
def wordOf (n : Nat) : Nat := (1022 + n.log2) * 2 ^ 52 + n * 2 ^ (52 - n.log2)

theorem log2_lt53 {n : Nat} (hn : n ≠ 0) (h : n < 2 ^ 53) : n.log2 ≤ 52 := by
  have := (Nat.log2_lt (k := 53) hn).2 h
  omega

theorem mant_lo {n : Nat} (hn : n ≠ 0) (h : n < 2 ^ 53) : 2 ^ 52 ≤ n * 2 ^ (52 - n.log2) ∧ n * 2 ^ (52 - n.log2) < 2 ^ 53 := by
  have hL := log2_lt53 hn h
  have h1 := Nat.log2_self_le hn
  have h2 := Nat.lt_log2_self (n := n)
  have e1 : 2 ^ 52 = 2 ^ n.log2 * 2 ^ (52 - n.log2) := by rw [← Nat.pow_add]; congr 1; omega
  have e2 : 2 ^ 53 = 2 ^ (n.log2 + 1) * 2 ^ (52 - n.log2) := by rw [← Nat.pow_add]; congr 1; omega
  rw [e1, e2]
  exact ⟨Nat.mul_le_mul_right _ h1, Nat.mul_lt_mul_of_pos_right h2 (Nat.two_pow_pos _)⟩

theorem double_least : double.leastPlace = -1074 := by decide
theorem double_binade : double.binade = 2 ^ 52 := rfl
theorem double_inf : double.infRung = 2047 * 2 ^ 52 := by decide
theorem double_sign : double.signWeight = 2 ^ 63 := rfl
theorem double_frac : double.fractionBits = 52 := rfl

theorem nearest_whole {n : Nat} (E : Nat) (hn : n ≠ 0) (h : n < 2 ^ 53) : double.nearest false (n * 2 ^ E) (-(E : Int)) = wordOf n := by
  have hL := log2_lt53 hn h
  have hm := mant_lo hn h
  have h0 : n * 2 ^ E ≠ 0 := Nat.mul_ne_zero hn (by have := Nat.two_pow_pos E; omega)
  unfold Format.nearest
  rw [if_neg h0]
  simp only [double_least, double_frac, log2_shift n E hn]
  have hlast : max (-(E : Int) + ((n.log2 + E : Nat) : Int) - ((52 : Nat) : Int)) (-1074) = (n.log2 : Int) - 52 := by omega
  rw [hlast]
  have hkept : Toward.even.cut false ((n * 2 ^ E) <<< (-(E : Int) - ((n.log2 : Int) - 52)).toNat) (((n.log2 : Int) - 52) - -(E : Int)).toNat = n * 2 ^ (52 - n.log2) := by
    rw [Nat.shiftLeft_eq]
    by_cases hc : E ≤ 52 - n.log2
    · have a1 : (-(E : Int) - ((n.log2 : Int) - 52)).toNat = 52 - n.log2 - E := by omega
      have a2 : (((n.log2 : Int) - 52) - -(E : Int)).toNat = 0 := by omega
      rw [a1, a2, Nat.mul_assoc, ← Nat.pow_add, show E + (52 - n.log2 - E) = 52 - n.log2 from by omega]
      have := cut_exact .even false (n * 2 ^ (52 - n.log2)) 0 (by omega)
      simpa using this
    · have a1 : (-(E : Int) - ((n.log2 : Int) - 52)).toNat = 0 := by omega
      have a2 : (((n.log2 : Int) - 52) - -(E : Int)).toNat = E - (52 - n.log2) := by omega
      rw [a1, a2]
      have e : n * 2 ^ E * 2 ^ 0 = n * 2 ^ (52 - n.log2) * 2 ^ (E - (52 - n.log2)) := by
        rw [Nat.pow_zero, Nat.mul_one, Nat.mul_assoc, ← Nat.pow_add]; congr 2; omega
      rw [e]
      exact cut_exact .even false (n * 2 ^ (52 - n.log2)) _ (by omega)
  rw [hkept]
  have hp : (((n.log2 : Int) - 52) - -1074).toNat = 1022 + n.log2 := by omega
  rw [hp, double_binade, double_inf]
  have hmin : (1022 + n.log2) * 2 ^ 52 + n * 2 ^ (52 - n.log2) ≤ 2047 * 2 ^ 52 := by omega
  rw [Nat.min_eq_left hmin]
  rfl

/-- A word that stands for a whole number. -/
def Rep (w n : Nat) : Prop := ∃ e : Nat, double.read w = .number false (n * 2 ^ e) (-(e : Int))

theorem rep_word {n : Nat} (hn : n ≠ 0) (h : n < 2 ^ 53) : Rep (wordOf n) n := by
  have hL := log2_lt53 hn h
  obtain ⟨m1, m2⟩ := mant_lo hn h
  refine ⟨52 - n.log2, ?_⟩
  unfold wordOf Format.read
  generalize hM : n * 2 ^ (52 - n.log2) = M at *
  simp only [double_binade, double_inf, double_sign, double_least]
  generalize n.log2 = L at *
  have w1 : ((1022 + L) * 2 ^ 52 + M) / 2 ^ 63 % 2 = 0 := by omega
  have w2 : ((1022 + L) * 2 ^ 52 + M) % 2 ^ 63 = (1022 + L) * 2 ^ 52 + M := by omega
  rw [w1, w2, if_neg (by omega), if_pos (by omega)]
  have w3 : 2 ^ 52 + ((1022 + L) * 2 ^ 52 + M) % 2 ^ 52 = M := by omega
  have w4 : ((1022 + L) * 2 ^ 52 + M) / 2 ^ 52 - 1 = 1022 + L := by omega
  rw [w3, w4]
  have w5 : (-1074 : Int) + ((1022 + L : Nat) : Int) = -((52 - L : Nat) : Int) := by omega
  rw [w5]
  rfl

theorem rep_zero : Rep 0 0 := ⟨1074, by decide +kernel⟩

/-- The word of a whole number, nought too. -/
def flN (n : Nat) : Nat := double.nearest false n 0

theorem rep_flN {n : Nat} (h : n < 2 ^ 53) : Rep (flN n) n := by
  by_cases hn : n = 0
  · subst hn; exact rep_zero
  · have := nearest_whole 0 hn h
    unfold flN
    simp at this
    rw [this]
    exact rep_word hn h

theorem order_rep {a b m n : Nat} (ha : Rep a m) (hb : Rep b n) : double.order a b = some (compare (m : Int) (n : Int)) := by
  obtain ⟨e, he⟩ := ha
  obtain ⟨f, hf⟩ := hb
  unfold Format.order
  rw [he, hf]
  simp only [Datum.order]
  have key : ∀ (x g E : Nat), g ≤ E → signed false (x * 2 ^ g) (-(g : Int) - -(E : Int)).toNat = ((x * 2 ^ E : Nat) : Int) := fun x g E hg => by
    unfold signed
    have h1 : (-(g : Int) - -(E : Int)).toNat = E - g := by omega
    rw [h1, Nat.shiftLeft_eq, Nat.mul_assoc, ← Nat.pow_add, show g + (E - g) = E from by omega]
    simp
  have hmin : min (-(e : Int)) (-(f : Int)) = -((max e f : Nat) : Int) := by omega
  rw [hmin, key m e _ (Nat.le_max_left _ _), key n f _ (Nat.le_max_right _ _)]
  have hpos : 0 < 2 ^ max e f := Nat.two_pow_pos _
  generalize 2 ^ max e f = P at *
  have c1 : ((m * P : Nat) : Int) < ((n * P : Nat) : Int) ↔ (m : Int) < n := by
    constructor
    · intro h; have : m * P < n * P := by omega
      have := Nat.lt_of_mul_lt_mul_right this; omega
    · intro h; have : m * P < n * P := Nat.mul_lt_mul_of_pos_right (by omega) hpos
      omega
  have c2 : ((m * P : Nat) : Int) = ((n * P : Nat) : Int) ↔ (m : Int) = n := by
    constructor
    · intro h; have : m * P = n * P := by omega
      have := Nat.eq_of_mul_eq_mul_right hpos this; omega
    · intro h; have : m = n := by omega
      rw [this]
  congr 1
  show compareOfLessAndEq _ _ = compareOfLessAndEq _ _
  unfold compareOfLessAndEq
  simp only [c1, c2]

theorem add_rep {a b m n : Nat} (ha : Rep a m) (hb : Rep b n) (h0 : m + n ≠ 0) (h : m + n < 2 ^ 53) : double.add a b = some (flN (m + n)) := by
  obtain ⟨e, he⟩ := ha
  obtain ⟨f, hf⟩ := hb
  unfold Format.add
  rw [he, hf]
  simp only [Datum.sum]
  have key : ∀ (x g E : Nat), g ≤ E → signed false (x * 2 ^ g) (-(g : Int) - -(E : Int)).toNat = ((x * 2 ^ E : Nat) : Int) := fun x g E hg => by
    unfold signed
    have h1 : (-(g : Int) - -(E : Int)).toNat = E - g := by omega
    rw [h1, Nat.shiftLeft_eq, Nat.mul_assoc, ← Nat.pow_add, show g + (E - g) = E from by omega]
    simp
  have hmin : min (-(e : Int)) (-(f : Int)) = -((max e f : Nat) : Int) := by omega
  rw [hmin, key m e _ (Nat.le_max_left _ _), key n f _ (Nat.le_max_right _ _)]
  have hpos : 0 < 2 ^ max e f := Nat.two_pow_pos _
  have hsum : ((m * 2 ^ max e f : Nat) : Int) + ((n * 2 ^ max e f : Nat) : Int) = (((m + n) * 2 ^ max e f : Nat) : Int) := by rw [Nat.add_mul]; omega
  rw [hsum]
  have hne : (m + n) * 2 ^ max e f ≠ 0 := Nat.mul_ne_zero h0 (by omega)
  have hi : ¬ ((((m + n) * 2 ^ max e f : Nat) : Int) = 0) := by omega
  have hl : decide ((((m + n) * 2 ^ max e f : Nat) : Int) < 0) = false := decide_eq_false (Int.not_lt.2 (Int.natCast_nonneg _))
  rw [if_neg hi, hl, Int.natAbs_natCast]
  simp only [Option.map_some, Format.write]
  rw [nearest_whole _ h0 h]
  have := nearest_whole 0 h0 h
  unfold flN
  simp at this
  rw [this]

theorem toInt_rep {a m : Nat} (ha : Rep a m) : (double.read a).toInt .zero = some (m : Int) := by
  obtain ⟨e, he⟩ := ha
  rw [he]
  simp only [Datum.toInt, Datum.integral]
  have h1 : (-(e : Int)).toNat = 0 := by omega
  have h2 : (- -(e : Int)).toNat = e := by omega
  rw [h1, h2, Nat.shiftLeft_eq, Nat.pow_zero, Nat.mul_one]
  have h3 : Toward.zero.cut false (m * 2 ^ e) e = m := by
    by_cases hm : m = 0
    · subst hm; rw [Nat.zero_mul]; exact cut_zero _ _ _
    · exact cut_exact _ _ _ _ hm
  rw [h3]
  unfold signed
  simp

theorem neg_rep {a m : Nat} (ha : Rep a m) : (double.read a).neg = false := by
  obtain ⟨e, he⟩ := ha
  rw [he]
  rfl

end Go.Proofs.Ytepioggejacfjaa
