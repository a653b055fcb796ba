/-
  The numbers that are sorted: whole numbers up to 65536 as floats; cmp.Less at them.
-/
import Derived.Test.YtepioggejacfjaaFv
import Derived.Sort.LotA
namespace Go.Proofs.Ytepioggejacfjaa
open Go.RowKit


/-- Its bits. -/
def bitsF (x : Fin 65537) : Nat := fl ((x.val : Nat) : Int)

/-- As a value. -/
abbrev fv (x : Fin 65537) : Value := .float .f64 (bitsF x)

/-- Which comes first. -/
def ltF (x y : Fin 65537) : Bool := decide (x < y)

theorem swo_ltF : Go.Sort.SWO ltF where
  irrefl x := by simp [ltF]
  trans x y z h1 h2 := by simp only [ltF, decide_eq_true_eq] at *; omega
  ntrans x y z h1 h2 := by simp only [ltF, decide_eq_false_iff_not] at *; omega

theorem bitsF_lt (x y : Fin 65537) : (FloatKind.f64.format.order (bitsF x) (bitsF y) == some .lt) = ltF x y := by
  unfold bitsF
  rw [fl_lt (by omega) (by omega) (by omega) (by omega)]
  unfold ltF
  apply decide_eq_decide.2
  constructor <;> (intro h; omega)

theorem bitsF_eq (x y : Fin 65537) : (FloatKind.f64.format.order (bitsF x) (bitsF y) == some .eq) = (x == y) := by
  unfold bitsF
  rw [fl_eq (by omega) (by omega) (by omega) (by omega)]
  by_cases e : x = y
  · subst e; simp
  · have h1 : ¬ ((x.val : Int) = (y.val : Int)) := by intro h; exact e (Fin.ext (by omega))
    have h2 : (x == y) = false := by simp [e]
    rw [h2]
    exact decide_eq_false h1

theorem bitsF_ne (x y : Fin 65537) : (FloatKind.f64.format.order (bitsF x) (bitsF y) != some .eq) = (x != y) := by
  show (!(FloatKind.f64.format.order (bitsF x) (bitsF y) == some .eq)) = !(x == y)
  rw [bitsF_eq]

set_option maxHeartbeats 400000 in
theorem isNaN_any (x : Fin 65537) (w : World) :
    Calls Try.prog 56 #[.float .f64 (bitsF x)] w fun e w' => e = .returned (.bool false) ∧ w' = w := by
  have h : (FloatKind.f64.format.order (bitsF x) (bitsF x) != some .eq) = false := by rw [bitsF_ne]; simp
  go_enter Try.func56, Try.ntmps56
  go_wp2
  go_ret
  exact ⟨rfl, rfl⟩

set_option maxHeartbeats 400000 in
theorem less_any (x y : Fin 65537) (w : World) :
    Calls Try.prog 46 #[.float .f64 (bitsF x), .float .f64 (bitsF y)] w fun e w' => e = .returned (.bool (ltF x y)) ∧ w' = w := by
  have h := bitsF_lt x y
  have h1 := fun W => isNaN_any x W
  generalize ltF x y = r at *
  go_enter Try.func46, Try.ntmps46
  go_wp2_with (go_at_call 56; refine (h1 _).mono ?_; rintro e w1 ⟨rfl, rfl⟩)
  go_ret
  exact ⟨rfl, rfl⟩
end Go.Proofs.Ytepioggejacfjaa
