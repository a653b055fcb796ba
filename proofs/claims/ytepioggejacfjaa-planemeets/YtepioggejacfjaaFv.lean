/-
  Whole numbers as the program's floats: comparing, adding, turning back, the greater and the lesser.
-/
import Derived.Test.YtepioggejacfjaaFlo
import Derived.Test.YtepioggejacfjaaRows
import Derived.WalkKit
import Derived.WalkSpells
import Derived.WalkLawsBesides
namespace Go.Proofs.Ytepioggejacfjaa
open Go.RowKit

/-- A float is stored as an integer is. -/
@[go_sem] theorem run_store_float (P : Program) (w : World) (a : Addr) (m : Mode) (k : FloatKind) (b : Nat) : (store a (.float k b) m).run P w = stored P w a (.float k b) m := run_store P w a _ m rfl

def veil1 : Nat → Nat := fun n => 0 * n
def veil2 : Nat → Nat := fun _ => 0
theorem veil12 : veil1 = veil2 := funext Nat.zero_mul

/-- The bits of a whole number's float, behind a veil: no reckoning looks into it; 'fl_def' does. -/
def fl : Int → Nat := (@Eq.rec (Nat → Nat) veil1 (fun g _ => {p : (Int → Nat) × (Nat → Nat) // p.2 = g}) ⟨(fun n => floatOfInt .f64 n, veil1), rfl⟩ veil2 veil12).1.1

theorem fl_def (n : Int) : fl n = floatOfInt .f64 n := by
  have key : ∀ (g : Nat → Nat) (h : veil1 = g), (@Eq.rec (Nat → Nat) veil1 (fun g _ => {p : (Int → Nat) × (Nat → Nat) // p.2 = g}) ⟨(fun n => floatOfInt .f64 n, veil1), rfl⟩ g h).1.1 n = floatOfInt .f64 n := fun g h => by subst h; rfl
  exact key veil2 veil12

theorem fl_nat (n : Nat) : fl n = flN n := by
  rw [fl_def]
  unfold floatOfInt FloatKind.nearest FloatKind.encode flN
  have h : decide ((n : Int) < 0) = false := by simp
  rw [h, Int.natAbs_natCast]
  rfl

theorem rep_fl {n : Int} (h0 : 0 ≤ n) (h1 : n ≤ 65536) : Rep (fl n) n.toNat := by
  obtain ⟨k, rfl⟩ := Int.eq_ofNat_of_zero_le h0
  have := rep_flN (n := k) (by omega)
  rw [← fl_nat] at this
  simpa using this

theorem ord_fl {a b : Int} (a0 : 0 ≤ a) (a1 : a ≤ 65536) (b0 : 0 ≤ b) (b1 : b ≤ 65536) : FloatKind.f64.format.order (fl a) (fl b) = some (compare a b) := by
  have := order_rep (rep_fl a0 a1) (rep_fl b0 b1)
  rw [Int.toNat_of_nonneg a0, Int.toNat_of_nonneg b0] at this
  exact this

theorem cmp_lt (a b : Int) : (some (compare a b) == some Ordering.lt) = decide (a < b) := by
  show (some (compareOfLessAndEq a b) == _) = _
  unfold compareOfLessAndEq
  by_cases h : a < b
  · simp [h]
  · by_cases e : a = b <;> simp [h, e]

theorem cmp_gt (a b : Int) : (some (compare a b) == some Ordering.gt) = decide (b < a) := by
  show (some (compareOfLessAndEq a b) == _) = _
  unfold compareOfLessAndEq
  by_cases h : a < b
  · have : ¬ b < a := by omega
    simp [h, this]
  · by_cases e : a = b
    · subst e; simp
    · have : b < a := by omega
      simp [h, e, this]

theorem cmp_eq (a b : Int) : (some (compare a b) == some Ordering.eq) = decide (a = b) := by
  show (some (compareOfLessAndEq a b) == _) = _
  unfold compareOfLessAndEq
  by_cases h : a < b
  · have : ¬ a = b := by omega
    simp [h, this]
  · by_cases e : a = b <;> simp [h, e]

theorem fl_lt {a b : Int} (a0 : 0 ≤ a) (a1 : a ≤ 65536) (b0 : 0 ≤ b) (b1 : b ≤ 65536) : (FloatKind.f64.format.order (fl a) (fl b) == some .lt) = decide (a < b) := by
  rw [ord_fl a0 a1 b0 b1, cmp_lt]
theorem fl_gt {a b : Int} (a0 : 0 ≤ a) (a1 : a ≤ 65536) (b0 : 0 ≤ b) (b1 : b ≤ 65536) : (FloatKind.f64.format.order (fl a) (fl b) == some .gt) = decide (b < a) := by
  rw [ord_fl a0 a1 b0 b1, cmp_gt]
theorem fl_eq {a b : Int} (a0 : 0 ≤ a) (a1 : a ≤ 65536) (b0 : 0 ≤ b) (b1 : b ≤ 65536) : (FloatKind.f64.format.order (fl a) (fl b) == some .eq) = decide (a = b) := by
  rw [ord_fl a0 a1 b0 b1, cmp_eq]
theorem fl_ne {a b : Int} (a0 : 0 ≤ a) (a1 : a ≤ 65536) (b0 : 0 ≤ b) (b1 : b ≤ 65536) : (FloatKind.f64.format.order (fl a) (fl b) != some .eq) = !decide (a = b) := by
  show (!(FloatKind.f64.format.order (fl a) (fl b) == some .eq)) = _
  rw [fl_eq a0 a1 b0 b1]
theorem fl_le {a b : Int} (a0 : 0 ≤ a) (a1 : a ≤ 65536) (b0 : 0 ≤ b) (b1 : b ≤ 65536) : (FloatKind.f64.format.order (fl a) (fl b) == some .lt || FloatKind.f64.format.order (fl a) (fl b) == some .eq) = decide (a ≤ b) := by
  rw [fl_lt a0 a1 b0 b1, fl_eq a0 a1 b0 b1]
  by_cases h : a < b
  · have : a ≤ b := by omega
    simp [h, this]
  · by_cases e : a = b
    · subst e; simp
    · have : ¬ a ≤ b := by omega
      simp [h, e, this]

theorem fl_zero : fl 0 = 0 := by rw [fl_def]; decide +kernel
theorem fl_one : fl 1 = 4607182418800017408 := by rw [fl_def]; decide +kernel
theorem fl_last : fl 65535 = 4679239875398991872 := by rw [fl_def]; decide +kernel

theorem fl_add1 {a : Int} (a0 : 0 ≤ a) (a1 : a ≤ 65535) : floatBits .add .f64 (fl a) 4607182418800017408 = some (fl (a + 1)) := by
  rw [← fl_one]
  have := add_rep (rep_fl a0 (by omega)) (rep_fl (n := 1) (by omega) (by omega)) (by omega) (by omega)
  have e : a.toNat + (1 : Int).toNat = (a + 1).toNat := by omega
  rw [e, ← fl_nat, Int.toNat_of_nonneg (by omega)] at this
  exact this

theorem fl_int {a : Int} (a0 : 0 ≤ a) (a1 : a ≤ 65536) : floatToIntVal .f64 (fl a) .u32 = some a := by
  unfold floatToIntVal
  have h : (FloatKind.f64.decode (fl a)).toInt .zero = some a := by
    have := toInt_rep (rep_fl a0 a1)
    rw [Int.toNat_of_nonneg a0] at this
    exact this
  rw [h]
  have hm : IntKind.u32.min = 0 := by decide
  have hx : IntKind.u32.max = 4294967295 := by decide
  simp only
  rw [hm, hx, if_pos ⟨by omega, by omega⟩]

section
variable {P : Program} (w : World)
theorem run_max_fl (ts : Array TypeId) (t : TypeId) {a b : Int} (a0 : 0 ≤ a) (a1 : a ≤ 65536) (b0 : 0 ≤ b) (b1 : b ≤ 65536) :
    (Builtin.max_ ts t #[.float .f64 (fl a), .float .f64 (fl b)]).run P w = .ok (.float .f64 (fl (max a b))) w := by
  have hn : (FloatKind.f64.decode (fl a)).neg = false := neg_rep (rep_fl a0 a1)
  simp only [Builtin.max_, List.foldlM_cons, List.foldlM_nil, Builtin.max2, ord_fl a0 a1 b0 b1]
  have hc : compare a b = compareOfLessAndEq a b := rfl
  rw [hc]
  unfold compareOfLessAndEq
  by_cases h : a < b
  · rw [show max a b = b from by omega]; simp [h]
  · by_cases e : a = b
    · subst e; simp [hn]
    · rw [show max a b = a from by omega]; simp [h, e]
theorem run_min_fl (ts : Array TypeId) (t : TypeId) {a b : Int} (a0 : 0 ≤ a) (a1 : a ≤ 65536) (b0 : 0 ≤ b) (b1 : b ≤ 65536) :
    (Builtin.min_ ts t #[.float .f64 (fl a), .float .f64 (fl b)]).run P w = .ok (.float .f64 (fl (min a b))) w := by
  have hn : (FloatKind.f64.decode (fl a)).neg = false := neg_rep (rep_fl a0 a1)
  simp only [Builtin.min_, List.foldlM_cons, List.foldlM_nil, Builtin.min2, ord_fl a0 a1 b0 b1]
  have hc : compare a b = compareOfLessAndEq a b := rfl
  rw [hc]
  unfold compareOfLessAndEq
  by_cases h : a < b
  · rw [show min a b = a from by omega]; simp [h]
  · by_cases e : a = b
    · subst e; simp [hn]
    · rw [show min a b = b from by omega]; simp [h, e]
end

end Go.Proofs.Ytepioggejacfjaa
