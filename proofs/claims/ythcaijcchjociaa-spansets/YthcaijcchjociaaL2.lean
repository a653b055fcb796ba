/-
  The walk of the law SpanSets.
-/
import Derived.Test.YthcaijcchjociaaL1
import Derived.Test.YthcaijcchjociaaMeet
import Derived.Test.YthcaijcchjociaaUnion
namespace Go.Proofs.Ythcaijcchjociaa
open Go.RowKit

set_option maxHeartbeats 4000000 in
theorem law_sets (va vb : Value) (a b : List Sp) (w : World) (hga : Good a) (hgb : Good b) (hva : Row2 w va a) (hvb : Row2 w vb b) :
    Calls Try.prog 4 #[va, vb] w fun e w' => e = .returned (.bool true) ∧ Below w.heap.size w w' := by
  have HA : Hid (Row2 w va a) := hva
  have HB : Hid (Row2 w vb b) := hvb
  have HGA : Hid (Good a) := hga
  have HGB : Hid (Good b) := hgb
  obtain ⟨aoa, capa, rfl, _⟩ := hva
  obtain ⟨aob, capb, rfl, _⟩ := hvb
  clear hga hgb
  go_enter Try.func4, Try.ntmps4
  go_wp2_with fail
  refine (alive_any w).mono ?_
  rintro e w1 ⟨rfl, B1⟩
  by_cases hla : 100 < a.length
  · have e1 : decide (100 < (a.length : Int)) = true := by simp; omega
    have hgr := great_any aoa a.length capa w1
    rw [e1] at hgr
    clear e1
    go_wp2_with fail
    refine hgr.mono ?_
    rintro e w2 ⟨rfl, rfl⟩
    go_wp2_with fail
    go_ret
    exact ⟨rfl, B1⟩
  by_cases hlb : 100 < b.length
  · have e1 : decide (100 < (a.length : Int)) = false := by simp; omega
    have e2 : decide (100 < (b.length : Int)) = true := by simp; omega
    have hgr := great_any aoa a.length capa w1
    rw [e1] at hgr
    have hgr2 := great_any aob b.length capb w1
    rw [e2] at hgr2
    clear e1 e2
    go_wp2_with fail
    refine hgr.mono ?_
    rintro e w2 ⟨rfl, rfl⟩
    go_wp2_with fail
    refine hgr2.mono ?_
    rintro e w2 ⟨rfl, rfl⟩
    go_wp2_with fail
    go_ret
    exact ⟨rfl, B1⟩
  · have e1 : decide (100 < (a.length : Int)) = false := by simp; omega
    have e2 : decide (100 < (b.length : Int)) = false := by simp; omega
    have hgr := great_any aoa a.length capa w1
    rw [e1] at hgr
    have hgr2 := great_any aob b.length capb w1
    rw [e2] at hgr2
    clear e1 e2
    go_wp2_with fail
    refine hgr.mono ?_
    rintro e _ ⟨rfl, rfl⟩
    go_wp2_with fail
    refine hgr2.mono ?_
    rintro e w1 ⟨rfl, rfl⟩
    clear hgr hgr2
    have hc2 := copy_any _ a w1 (by omega) (HA.out.kept B1 (Nat.le_refl _))
    go_wp2_with fail
    refine hc2.mono ?_
    rintro e w2 ⟨p, rfl, rp, N2⟩
    have B2 := bstep B1 N2
    clear hc2 N2 
    have hc3 := copy_any _ b w2 (by omega) (HB.out.kept B2 (Nat.le_refl _))
    go_wp2_with fail
    refine hc3.mono ?_
    rintro e w3 ⟨q, rfl, rq, N3⟩
    have B3 := bstep B2 N3
    have rp := rp.kept N3 (Nat.le_refl _)
    clear hc3 N3 
    have hc4 := union_any p q a b w3 (by omega) HGA.out HGB.out rp rq
    go_wp2_with fail
    refine hc4.mono ?_
    rintro e w4 ⟨u1, m1, rfl, n1, i1, l1, s1, N4⟩
    have B4 := bstep B3 N4
    have rp := rp.kept N4 (Nat.le_refl _)
    have rq := rq.kept N4 (Nat.le_refl _)
    clear hc4 N4 
    have hc5 := set_any 1 (Or.inl rfl) _ _ a b w4 (by omega) (by omega) HGA.out HGB.out (HA.out.kept B4 (Nat.le_refl _)) (HB.out.kept B4 (Nat.le_refl _))
    go_wp2_with fail
    refine hc5.mono ?_
    rintro e w5 ⟨u2, o1, rfl, n2, i2, _, s2, N5⟩
    have B5 := bstep B4 N5
    have rp := rp.kept N5 (Nat.le_refl _)
    have rq := rq.kept N5 (Nat.le_refl _)
    have s1 := s1.kept N5 (Nat.le_refl _)
    have e1 : m1 = o1 := n1.unique n2 fun k h0 h1 => by rw [i1, i2 k h0 h1]; rfl
    subst e1
    clear hc5 N5 n1 n2 i1 i2
    have hc6 := same_any u1 u2 m1 m1 w5 (by omega) s1 s2
    rw [decide_eq_true rfl] at hc6
    go_wp2_with fail
    refine hc6.mono ?_
    rintro e w6 ⟨rfl, N6⟩
    have B6 := bstep B5 N6
    have rp := rp.kept N6 (Nat.le_refl _)
    have rq := rq.kept N6 (Nat.le_refl _)
    have s1 := s1.kept N6 (Nat.le_refl _)
    have s2 := s2.kept N6 (Nat.le_refl _)
    clear hc6 N6 
    clear s1 s2
    have hc7 := meet_any p q a b w6 (by omega) (by omega) HGA.out HGB.out rp rq
    go_wp2_with fail
    refine hc7.mono ?_
    rintro e w7 ⟨u3, m2, rfl, n3, i3, l3, s3, N7⟩
    have B7 := bstep B6 N7
    have rp := rp.kept N7 (Nat.le_refl _)
    have rq := rq.kept N7 (Nat.le_refl _)
    clear hc7 N7 
    have hc8 := set_any 2 (Or.inr (Or.inl rfl)) _ _ a b w7 (by omega) (by omega) HGA.out HGB.out (HA.out.kept B7 (Nat.le_refl _)) (HB.out.kept B7 (Nat.le_refl _))
    go_wp2_with fail
    refine hc8.mono ?_
    rintro e w8 ⟨u4, o2, rfl, n4, i4, _, s4, N8⟩
    have B8 := bstep B7 N8
    have rp := rp.kept N8 (Nat.le_refl _)
    have rq := rq.kept N8 (Nat.le_refl _)
    have s3 := s3.kept N8 (Nat.le_refl _)
    have e2 : m2 = o2 := n3.unique n4 fun k h0 h1 => by rw [i3, i4 k h0 h1]; rfl
    subst e2
    clear hc8 N8 n3 n4 i3 i4
    have hc9 := same_any u3 u4 m2 m2 w8 (by omega) s3 s4
    rw [decide_eq_true rfl] at hc9
    go_wp2_with fail
    refine hc9.mono ?_
    rintro e w9 ⟨rfl, N9⟩
    have B9 := bstep B8 N9
    have rp := rp.kept N9 (Nat.le_refl _)
    have rq := rq.kept N9 (Nat.le_refl _)
    have s3 := s3.kept N9 (Nat.le_refl _)
    have s4 := s4.kept N9 (Nat.le_refl _)
    clear hc9 N9 
    clear s3 s4
    have hc10 := not_any p a w9 (by omega) HGA.out rp
    go_wp2_with fail
    refine hc10.mono ?_
    rintro e w10 ⟨u5, m3, rfl, n5, l5, s5, N10⟩
    have B10 := bstep B9 N10
    have rp := rp.kept N10 (Nat.le_refl _)
    have rq := rq.kept N10 (Nat.le_refl _)
    clear hc10 N10 
    have hc11 := set_any 3 (Or.inr (Or.inr rfl)) _ _ a [] w10 (by omega) (by simp) HGA.out (by simp [Good]) (HA.out.kept B10 (Nat.le_refl _)) (Row2.nil w10)
    go_wp2_with fail
    refine hc11.mono ?_
    rintro e w11 ⟨u6, o3, rfl, n6, i6, _, s6, N11⟩
    have B11 := bstep B10 N11
    have rp := rp.kept N11 (Nat.le_refl _)
    have rq := rq.kept N11 (Nat.le_refl _)
    have s5 := s5.kept N11 (Nat.le_refl _)
    have e3 : m3 = o3 := n5.1.unique n6 fun k h0 h1 => by rw [n5.2 k h0 h1, i6 k h0 h1]; rfl
    subst e3
    clear hc11 N11 n5 n6 i6
    have hc12 := same_any u5 u6 m3 m3 w11 (by omega) s5 s6
    rw [decide_eq_true rfl] at hc12
    go_wp2_with fail
    refine hc12.mono ?_
    rintro e w12 ⟨rfl, N12⟩
    have B12 := bstep B11 N12
    have rp := rp.kept N12 (Nat.le_refl _)
    have rq := rq.kept N12 (Nat.le_refl _)
    have s5 := s5.kept N12 (Nat.le_refl _)
    have s6 := s6.kept N12 (Nat.le_refl _)
    clear hc12 N12 
    clear s5 s6
    have hc13 := same_any p _ a a w12 (by omega) rp (HA.out.kept B12 (Nat.le_refl _))
    rw [decide_eq_true rfl] at hc13
    go_wp2_with fail
    refine hc13.mono ?_
    rintro e w13 ⟨rfl, N13⟩
    have B13 := bstep B12 N13
    have rp := rp.kept N13 (Nat.le_refl _)
    have rq := rq.kept N13 (Nat.le_refl _)
    clear hc13 N13 
    have hc14 := same_any q _ b b w13 (by omega) rq (HB.out.kept B13 (Nat.le_refl _))
    rw [decide_eq_true rfl] at hc14
    go_wp2_with fail
    refine hc14.mono ?_
    rintro e w14 ⟨rfl, N14⟩
    have B14 := bstep B13 N14
    have rp := rp.kept N14 (Nat.le_refl _)
    have rq := rq.kept N14 (Nat.le_refl _)
    clear hc14 N14 
    go_wp2_with fail
    go_ret
    exact ⟨rfl, B14⟩
end Go.Proofs.Ythcaijcchjociaa
