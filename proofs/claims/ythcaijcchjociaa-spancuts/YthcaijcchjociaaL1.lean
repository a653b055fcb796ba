/-
  The walk of the law SpanNorms.
-/
import Derived.Test.YthcaijcchjociaaAlive
import Derived.Test.YthcaijcchjociaaCat
import Derived.Test.YthcaijcchjociaaSet
namespace Go.Proofs.Ythcaijcchjociaa
open Go.RowKit

/-- One step more: nothing below has turned. -/
theorem bstep {w a b : World} (h : Below w.heap.size w a) (k : Below a.heap.size a b) : Below w.heap.size w b := h.trans (k.mono h.size)

set_option maxHeartbeats 2000000 in
theorem law_norms (v : Value) (l : List Sp) (n : Int) (w : World) (hg : Good l) (hv : Row2 w v l) :
    Calls Try.prog 3 #[v, .int .u32 n] w fun e w' => e = .returned (.bool true) ∧ Below w.heap.size w w' := by
  have HV : Hid (Row2 w v l) := hv
  have HG : Hid (Good l) := hg
  obtain ⟨ao, cap, rfl, _⟩ := hv
  clear hg
  go_enter Try.func3, Try.ntmps3
  go_wp2_with fail
  refine (alive_any w).mono ?_
  rintro e w1 ⟨rfl, B1⟩
  by_cases hlen : 100 < l.length
  · have e1 : decide (100 < (l.length : Int)) = true := by simp; omega
    have hgr := great_any ao l.length cap w1
    rw [e1] at hgr
    clear e1
    go_wp2_with (go_at_call 9; refine hgr.mono ?_; rintro e w2 ⟨rfl, rfl⟩)
    go_ret
    exact ⟨rfl, B1⟩
  · have e1 : decide (100 < (l.length : Int)) = false := by simp; omega
    have hgr := great_any ao l.length cap w1
    rw [e1] at hgr
    have hcp := copy_any _ l w1 (by omega) (HV.out.kept B1 (Nat.le_refl _))
    clear e1
    go_wp2_with fail
    refine hgr.mono ?_
    rintro e w2 ⟨rfl, rfl⟩
    go_wp2_with fail
    refine hcp.mono ?_
    rintro e w3 ⟨u3, rfl, r3, B3'⟩
    have B3 := bstep B1 B3'
    have hnm := norm_any u3 l w3 (by omega) HG.out r3
    clear hgr hcp B3'
    go_wp2_with fail
    refine hnm.mono ?_
    rintro e w4 ⟨u4, m, rfl, hnf, hmem, hml, r4, B4'⟩
    have B4 := bstep B3 B4'
    have r3 := r3.kept B4' (Nat.le_refl _)
    have hrn := rnorm_any _ l w4 (by omega) HG.out (HV.out.kept B4 (Nat.le_refl _))
    clear hnm B4'
    go_wp2_with fail
    refine hrn.mono ?_
    rintro e w5 ⟨u5, o, rfl, hnfo, hmemo, _, r5, B5'⟩
    have eo : m = o := hnf.unique hnfo fun k h0 h1 => by rw [hmem, hmemo k h0 h1]
    subst eo
    have B5 := bstep B4 B5'
    have r3 := r3.kept B5' (Nat.le_refl _)
    have r4 := r4.kept B5' (Nat.le_refl _)
    have hsm := same_any u4 u5 m m w5 (by omega) r4 r5
    rw [decide_eq_true rfl] at hsm
    clear hrn B5'
    go_wp2_with fail
    refine hsm.mono ?_
    rintro e w6 ⟨rfl, B6'⟩
    have B6 := bstep B5 B6'
    have r3 := r3.kept B6' (Nat.le_refl _)
    have r4 := r4.kept B6' (Nat.le_refl _)
    have hi1 := in_any u3 l n w6 (by omega) r3
    clear hsm B6' r5
    go_wp2_with fail
    refine hi1.mono ?_
    rintro e w7 ⟨rfl, B7'⟩
    have B7 := bstep B6 B7'
    have r3 := r3.kept B7' (Nat.le_refl _)
    have r4 := r4.kept B7' (Nat.le_refl _)
    have hi2 := rin_any _ l n w7 (by omega) (HV.out.kept B7 (Nat.le_refl _))
    clear hi1 B7'
    have HMM : Hid (∀ n, inS m n = inS l n) := hmem
    clear hmem hmemo
    generalize hq : inS l n = q at *
    have HQ : Hid (inS l n = q) := hq
    clear hq
    have eqq : (q == q) = true := by simp
    go_wp2_with fail
    refine hi2.mono ?_
    rintro e w8 ⟨rfl, B8'⟩
    have B8 := bstep B7 B8'
    have r3 := r3.kept B8' (Nat.le_refl _)
    have r4 := r4.kept B8' (Nat.le_refl _)
    have hi3 := in_any u4 m n w8 (by omega) r4
    rw [HMM.out n, HQ.out] at hi3
    clear hi2 B8'
    go_wp2_with fail
    refine hi3.mono ?_
    rintro e w9 ⟨rfl, B9'⟩
    have B9 := bstep B8 B9'
    have r3 := r3.kept B9' (Nat.le_refl _)
    have hi4 := rin_any _ l n w9 (by omega) (HV.out.kept B9 (Nat.le_refl _))
    rw [HQ.out] at hi4
    clear hi3 B9' r4
    go_wp2_with fail
    refine hi4.mono ?_
    rintro e w10 ⟨rfl, B10'⟩
    have B10 := bstep B9 B10'
    have r3 := r3.kept B10' (Nat.le_refl _)
    have hs2 := same_any u3 _ l l w10 (by omega) r3 (HV.out.kept B10 (Nat.le_refl _))
    rw [decide_eq_true rfl] at hs2
    clear hi4 B10'
    go_wp2_with fail
    refine hs2.mono ?_
    rintro e w11 ⟨rfl, B11'⟩
    have B11 := bstep B10 B11'
    clear hs2 B11'
    go_wp2_with fail
    go_ret
    exact ⟨rfl, B11⟩
end Go.Proofs.Ythcaijcchjociaa
