/-
  The walk of the law SpanLaws.
-/
import Derived.Test.YthcaijcchjociaaL1
import Derived.Test.YthcaijcchjociaaMeet
import Derived.Test.YthcaijcchjociaaUnion
namespace Go.Proofs.Ythcaijcchjociaa
open Go.RowKit

theorem nfAll : NF [(0, 4294967295)] := ⟨by intro s hs; simp at hs; subst hs; simp only; omega, by simp⟩

theorem eql35 (a b c d : Int) (w : World) : (binOp .eql 35 (.agg #[.int .u32 a, .int .u32 b]) (.agg #[.int .u32 c, .int .u32 d])).run Try.prog w = .ok (.bool (a == c && b == d)) w := by
  have u3 := Try.underlying23
  have a3 := Try.isAgg23
  have z3 := Try.sizeOf23
  have hS : Try.prog.underlying 35 = some (.struct (Try.prog.fieldsOf 35)) := by kernel_rfl
  have hp : Try.prog.stoodInHeld 35 = false := by kernel_rfl
  rw [run_eql_struct, show (10000 : Nat) = 9999 + 1 from rfl, run_equalIn_agg w 9999 35 _ _ hS hp]
  simp only [Program.fieldsOf, Try.underlying35]
  go_simp
  by_cases h1 : a = c <;> by_cases h2 : b = d <;> simp [h1, h2]

set_option maxHeartbeats 4000000 in
theorem law_laws (va vb : Value) (a b : List Sp) (n : Int) (w : World) (hga : Good a) (hgb : Good b) (hva : Row2 w va a) (hvb : Row2 w vb b) :
    Calls Try.prog 6 #[va, vb, .int .u32 n] w fun e w' => e = .returned (.bool true) ∧ Below w.heap.size w w' := by
  have HA : Hid (Row2 w va a) := hva
  have HB : Hid (Row2 w vb b) := hvb
  have HGA : Hid (Good a) := hga
  have HGB : Hid (Good b) := hgb
  obtain ⟨aoa, capa, rfl, _⟩ := hva
  obtain ⟨aob, capb, rfl, _⟩ := hvb
  clear hga hgb
  go_enter Try.func6, Try.ntmps6
  go_wp2_with fail
  refine (alive_any w).mono ?_
  rintro e w1 ⟨rfl, B1⟩
  by_cases hla : 100 < a.length
  · have e1 : decide (100 < (a.length : Int)) = true := by simp; omega
    have hgr := great_any aoa a.length capa w1
    rw [e1] at hgr
    clear e1
    go_wp2_with fail
    refine hgr.mono ?_
    rintro e w2 ⟨rfl, rfl⟩
    go_wp2_with fail
    go_ret
    exact ⟨rfl, B1⟩
  by_cases hlb : 100 < b.length
  · have e1 : decide (100 < (a.length : Int)) = false := by simp; omega
    have e2 : decide (100 < (b.length : Int)) = true := by simp; omega
    have hgr := great_any aoa a.length capa w1
    rw [e1] at hgr
    have hgr2 := great_any aob b.length capb w1
    rw [e2] at hgr2
    clear e1 e2
    go_wp2_with fail
    refine hgr.mono ?_
    rintro e w2 ⟨rfl, rfl⟩
    go_wp2_with fail
    refine hgr2.mono ?_
    rintro e w2 ⟨rfl, rfl⟩
    go_wp2_with fail
    go_ret
    exact ⟨rfl, B1⟩
  · have e1 : decide (100 < (a.length : Int)) = false := by simp; omega
    have e2 : decide (100 < (b.length : Int)) = false := by simp; omega
    have hgr := great_any aoa a.length capa w1
    rw [e1] at hgr
    have hgr2 := great_any aob b.length capb w1
    rw [e2] at hgr2
    clear e1 e2
    go_wp2_with fail
    refine hgr.mono ?_
    rintro e _ ⟨rfl, rfl⟩
    go_wp2_with fail
    refine hgr2.mono ?_
    rintro e w1 ⟨rfl, rfl⟩
    clear hgr hgr2
    have hc2 := norm_any _ a w1 (by omega) HGA.out (HA.out.kept B1 (Nat.le_refl _))
    go_wp2_with fail
    refine hc2.mono ?_
    rintro e w2 ⟨x, mx, rfl, nx, ix, lx, rx, N2⟩
    have B2 := bstep B1 N2
    clear hc2 N2 
    have hc3 := norm_any _ b w2 (by omega) HGB.out (HB.out.kept B2 (Nat.le_refl _))
    go_wp2_with fail
    refine hc3.mono ?_
    rintro e w3 ⟨y, my, rfl, ny, iy, ly, ry, N3⟩
    have B3 := bstep B2 N3
    have rx := rx.kept N3 (Nat.le_refl _)
    clear hc3 N3 
    have hc4 := not_any _ a w3 (by omega) HGA.out (HA.out.kept B3 (Nat.le_refl _))
    go_wp2_with fail
    refine hc4.mono ?_
    rintro e w4 ⟨u1, m1, rfl, n1, l1, s1, N4⟩
    have B4 := bstep B3 N4
    have rx := rx.kept N4 (Nat.le_refl _)
    have ry := ry.kept N4 (Nat.le_refl _)
    clear hc4 N4 
    have hc5 := not_any u1 m1 w4 (by omega) n1.1.good s1
    go_wp2_with fail
    refine hc5.mono ?_
    rintro e w5 ⟨u2, m2, rfl, n2, l2, s2, N5⟩
    have B5 := bstep B4 N5
    have rx := rx.kept N5 (Nat.le_refl _)
    have ry := ry.kept N5 (Nat.le_refl _)
    have s1 := s1.kept N5 (Nat.le_refl _)
    have e1 : m2 = mx := n2.1.unique nx fun k h0 h1 => by rw [n2.2 k h0 h1, n1.2 k h0 h1, ix]; simp
    subst e1
    clear hc5 N5 
    clear s1
    have hc6 := same_any u2 x m2 m2 w5 (by omega) s2 rx
    rw [decide_eq_true rfl] at hc6
    go_wp2_with fail
    refine hc6.mono ?_
    rintro e w6 ⟨rfl, N6⟩
    have B6 := bstep B5 N6
    have rx := rx.kept N6 (Nat.le_refl _)
    have ry := ry.kept N6 (Nat.le_refl _)
    have s2 := s2.kept N6 (Nat.le_refl _)
    clear hc6 N6 
    clear s2
    have hc7 := meet_any _ _ a b w6 (by omega) (by omega) HGA.out HGB.out (HA.out.kept B6 (Nat.le_refl _)) (HB.out.kept B6 (Nat.le_refl _))
    go_wp2_with fail
    refine hc7.mono ?_
    rintro e w7 ⟨u3, m3, rfl, n3, i3, l3, s3, N7⟩
    have B7 := bstep B6 N7
    have rx := rx.kept N7 (Nat.le_refl _)
    have ry := ry.kept N7 (Nat.le_refl _)
    clear hc7 N7 
    have hc8 := not_any _ a w7 (by omega) HGA.out (HA.out.kept B7 (Nat.le_refl _))
    go_wp2_with fail
    refine hc8.mono ?_
    rintro e w8 ⟨u4, m4, rfl, n4, l4, s4, N8⟩
    have B8 := bstep B7 N8
    have rx := rx.kept N8 (Nat.le_refl _)
    have ry := ry.kept N8 (Nat.le_refl _)
    have s3 := s3.kept N8 (Nat.le_refl _)
    clear hc8 N8 
    have hc9 := not_any _ b w8 (by omega) HGB.out (HB.out.kept B8 (Nat.le_refl _))
    go_wp2_with fail
    refine hc9.mono ?_
    rintro e w9 ⟨u5, m5, rfl, n5, l5, s5, N9⟩
    have B9 := bstep B8 N9
    have rx := rx.kept N9 (Nat.le_refl _)
    have ry := ry.kept N9 (Nat.le_refl _)
    have s3 := s3.kept N9 (Nat.le_refl _)
    have s4 := s4.kept N9 (Nat.le_refl _)
    clear hc9 N9 
    have hc10 := union_any u4 u5 m4 m5 w9 (by omega) n4.1.good n5.1.good s4 s5
    go_wp2_with fail
    refine hc10.mono ?_
    rintro e w10 ⟨u6, m6, rfl, n6, i6, l6, s6, N10⟩
    have B10 := bstep B9 N10
    have rx := rx.kept N10 (Nat.le_refl _)
    have ry := ry.kept N10 (Nat.le_refl _)
    have s3 := s3.kept N10 (Nat.le_refl _)
    have s4 := s4.kept N10 (Nat.le_refl _)
    have s5 := s5.kept N10 (Nat.le_refl _)
    clear hc10 N10 
    clear s4 s5
    have hc11 := not_any u6 m6 w10 (by omega) n6.good s6
    go_wp2_with fail
    refine hc11.mono ?_
    rintro e w11 ⟨u7, m7, rfl, n7, l7, s7, N11⟩
    have B11 := bstep B10 N11
    have rx := rx.kept N11 (Nat.le_refl _)
    have ry := ry.kept N11 (Nat.le_refl _)
    have s3 := s3.kept N11 (Nat.le_refl _)
    have s6 := s6.kept N11 (Nat.le_refl _)
    have e2 : m3 = m7 := n3.unique n7.1 fun k h0 h1 => by rw [i3, n7.2 k h0 h1, i6, n4.2 k h0 h1, n5.2 k h0 h1]; simp
    subst e2
    clear hc11 N11 
    clear s6
    have hc12 := same_any u3 u7 m3 m3 w11 (by omega) s3 s7
    rw [decide_eq_true rfl] at hc12
    go_wp2_with fail
    refine hc12.mono ?_
    rintro e w12 ⟨rfl, N12⟩
    have B12 := bstep B11 N12
    have rx := rx.kept N12 (Nat.le_refl _)
    have ry := ry.kept N12 (Nat.le_refl _)
    have s3 := s3.kept N12 (Nat.le_refl _)
    have s7 := s7.kept N12 (Nat.le_refl _)
    clear hc12 N12 
    clear s3 s7
    have hc13 := not_any _ a w12 (by omega) HGA.out (HA.out.kept B12 (Nat.le_refl _))
    go_wp2_with fail
    refine hc13.mono ?_
    rintro e w13 ⟨u8, m8, rfl, n8, l8, s8, N13⟩
    have B13 := bstep B12 N13
    have rx := rx.kept N13 (Nat.le_refl _)
    have ry := ry.kept N13 (Nat.le_refl _)
    clear hc13 N13 
    have hc14 := meet_any _ u8 a m8 w13 (by omega) (by omega) HGA.out n8.1.good (HA.out.kept B13 (Nat.le_refl _)) s8
    go_wp2_with fail
    refine hc14.mono ?_
    rintro e w14 ⟨u9, m9, rfl, n9, i9, l9, ⟨ao9, cap9, rfl, _⟩, N14⟩
    have B14 := bstep B13 N14
    have rx := rx.kept N14 (Nat.le_refl _)
    have ry := ry.kept N14 (Nat.le_refl _)
    have s8 := s8.kept N14 (Nat.le_refl _)
    have e3 : m9 = [] := n9.unique NF_nil fun k h0 h1 => by rw [i9, n8.2 k h0 h1]; simp [inS_nil]
    subst e3
    clear hc14 N14 
    clear s8
    have ne0 : (((([] : List Sp).length : Nat) : Int) != 0) = false := by simp
    have hc15 := not_any _ a w14 (by omega) HGA.out (HA.out.kept B14 (Nat.le_refl _))
    go_wp2_with fail
    refine hc15.mono ?_
    rintro e w15 ⟨u10, m10, rfl, n10, l10, s10, N15⟩
    have B15 := bstep B14 N15
    have rx := rx.kept N15 (Nat.le_refl _)
    have ry := ry.kept N15 (Nat.le_refl _)
    clear hc15 N15 
    have hc16 := union_any _ u10 a m10 w15 (by omega) HGA.out n10.1.good (HA.out.kept B15 (Nat.le_refl _)) s10
    go_wp2_with fail
    refine hc16.mono ?_
    rintro e w16 ⟨u11, m11, rfl, n11, i11, l11, s11, N16⟩
    have B16 := bstep B15 N16
    have rx := rx.kept N16 (Nat.le_refl _)
    have ry := ry.kept N16 (Nat.le_refl _)
    have s10 := s10.kept N16 (Nat.le_refl _)
    have e4 : m11 = [(0, 4294967295)] := n11.unique nfAll fun k h0 h1 => by rw [i11, n10.2 k h0 h1]; simp [inS, h0, h1]
    subst e4
    clear hc16 N16 
    clear s10
    clear ne0
    have hc17 := union_any x y m2 my w16 (by omega) nx.good ny.good rx ry
    go_wp2_with fail
    refine hc17.mono ?_
    rintro e w17 ⟨u12, m12, rfl, n12, i12, l12, s12, N17⟩
    have B17 := bstep B16 N17
    have rx := rx.kept N17 (Nat.le_refl _)
    have ry := ry.kept N17 (Nat.le_refl _)
    have s11 := s11.kept N17 (Nat.le_refl _)
    clear hc17 N17 
    clear rx ry
    obtain ⟨_, cap11, hv11, hc11, _⟩ := s11
    obtain ⟨b11, off11, rfl, hb11, hcell11⟩ := hc11 (by simp)
    obtain ⟨z1, z2⟩ := hcell11 0 (0, 4294967295) rfl
    simp only [Nat.zero_mul, Nat.add_zero] at z1 z2
    subst hv11
    have heq : ∀ W, (binOp .eql 35 (.agg #[.int .u32 0, .int .u32 4294967295]) (.agg #[.int .u32 0, .int .u32 4294967295])).run Try.prog W = .ok (.bool true) W := fun W => by rw [eql35]; rfl
    have hc18 := union_any _ _ b a w17 (by omega) HGB.out HGA.out (HB.out.kept B17 (Nat.le_refl _)) (HA.out.kept B17 (Nat.le_refl _))
    go_wp2_with fail
    refine hc18.mono ?_
    rintro e w18 ⟨u13, m13, rfl, n13, i13, l13, s13, N18⟩
    have B18 := bstep B17 N18
    have s12 := s12.kept N18 (Nat.le_refl _)
    have e5 : m12 = m13 := n12.unique n13 fun k h0 h1 => by rw [i12, i13, ix, iy, Bool.or_comm]
    subst e5
    clear hc18 N18 
    clear heq z1 z2 hcell11 hc11
    have hc19 := same_any u12 u13 m12 m12 w18 (by omega) s12 s13
    rw [decide_eq_true rfl] at hc19
    go_wp2_with fail
    refine hc19.mono ?_
    rintro e w19 ⟨rfl, N19⟩
    have B19 := bstep B18 N19
    have s12 := s12.kept N19 (Nat.le_refl _)
    have s13 := s13.kept N19 (Nat.le_refl _)
    clear hc19 N19 
    clear s13
    have hc20 := in_any u12 m12 n w19 (by omega) s12
    rw [i12, ix, iy] at hc20
    go_wp2_with fail
    refine hc20.mono ?_
    rintro e w20 ⟨rfl, N20⟩
    have B20 := bstep B19 N20
    have s12 := s12.kept N20 (Nat.le_refl _)
    clear hc20 N20 
    have HIA : Hid (∀ W, Below w.heap.size w W → Calls Try.prog 14 #[.slice aoa a.length capa, .int .u32 n] W fun e w' => e = .returned (.bool (inS a n)) ∧ Below W.heap.size W w') := fun W h => in_any _ a n W (by omega) (HA.out.kept h (Nat.le_refl _))
    have HIB : Hid (∀ W, Below w.heap.size w W → Calls Try.prog 14 #[.slice aob b.length capb, .int .u32 n] W fun e w' => e = .returned (.bool (inS b n)) ∧ Below W.heap.size W w') := fun W h => in_any _ b n W (by omega) (HB.out.kept h (Nat.le_refl _))
    clear ix iy i3 i6 i9 i11 i12 i13
    generalize inS a n = qa at *
    generalize inS b n = qb at *
    cases qa with
    | true =>
      have hc21 := HIA.out w20 B20
      go_wp2_with fail
      refine hc21.mono ?_
      rintro e w21 ⟨rfl, N21⟩
      have B21 := bstep B20 N21
      have s12 := s12.kept N21 (Nat.le_refl _)
      clear hc21 N21 
      have hnn := norm_any u12 m12 w21 (by omega) n12.good s12
      go_wp2_with fail
      refine hnn.mono ?_
      rintro e w99 ⟨u99, m99, rfl, n99, i99, l99, s99, N99⟩
      have e6 : m99 = m12 := n99.unique n12 fun k h0 h1 => i99 k
      subst e6
      have B99 := bstep B21 N99
      have hss := same_any u99 u12 m99 m99 w99 (by omega) s99 (s12.kept N99 (Nat.le_refl _))
      rw [decide_eq_true rfl] at hss
      clear hnn N99
      go_wp2_with fail
      refine hss.mono ?_
      rintro e w100 ⟨rfl, N100⟩
      have B100 := bstep B99 N100
      clear hss N100
      go_wp2_with fail
      go_ret
      exact ⟨rfl, B100⟩
    | false =>
      have eb : (qb == qb) = true := by simp
      have hc21 := HIA.out w20 B20
      go_wp2_with fail
      refine hc21.mono ?_
      rintro e w21 ⟨rfl, N21⟩
      have B21 := bstep B20 N21
      have s12 := s12.kept N21 (Nat.le_refl _)
      clear hc21 N21 
      have hc22 := HIB.out w21 B21
      go_wp2_with fail
      refine hc22.mono ?_
      rintro e w22 ⟨rfl, N22⟩
      have B22 := bstep B21 N22
      have s12 := s12.kept N22 (Nat.le_refl _)
      clear hc22 N22 
      have hnn := norm_any u12 m12 w22 (by omega) n12.good s12
      go_wp2_with fail
      refine hnn.mono ?_
      rintro e w99 ⟨u99, m99, rfl, n99, i99, l99, s99, N99⟩
      have e6 : m99 = m12 := n99.unique n12 fun k h0 h1 => i99 k
      subst e6
      have B99 := bstep B22 N99
      have hss := same_any u99 u12 m99 m99 w99 (by omega) s99 (s12.kept N99 (Nat.le_refl _))
      rw [decide_eq_true rfl] at hss
      clear hnn N99
      go_wp2_with fail
      refine hss.mono ?_
      rintro e w100 ⟨rfl, N100⟩
      have B100 := bstep B99 N100
      clear hss N100
      go_wp2_with fail
      go_ret
      exact ⟨rfl, B100⟩
end Go.Proofs.Ythcaijcchjociaa
