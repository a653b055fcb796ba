/-
  The walk of the law PlaneLaws.
-/
import Derived.Test.YtepioggejacfjaaMee
namespace Go.Proofs.Ytepioggejacfjaa
open Go.RowKit

theorem some2_comm (a b : Sp) : some2 b a = some2 a b := by
  apply bool_eq
  rw [some2_iff, some2_iff]
  omega

theorem mB_comm (a b : Sp) : mB b a = mB a b := by
  unfold mB
  rw [some2_comm]
  split
  · unfold meetB
    rw [Int.max_comm (b.1 / 65536), Int.max_comm (b.1 % 65536), Int.min_comm (b.2 / 65536), Int.min_comm (b.2 % 65536)]
  · rfl

theorem mB_self {a : Sp} (h : some2 a a = true) : mB a a = a := by
  unfold mB
  rw [if_pos h]
  unfold meetB
  refine Prod.ext ?_ ?_
  · simp only
    omega
  · simp only
    omega

theorem some2_self (a : Sp) : inB a a.1 = some2 a a := by
  apply bool_eq
  rw [some2_iff, inB_iff]
  omega

theorem tri (a1 b1 c1 a2 b2 c2 : Int) : (max (max a1 b1) c1 ≤ min (min a2 b2) c2 ∧ max a1 b1 ≤ min a2 b2) ↔ (max a1 (max b1 c1) ≤ min a2 (min b2 c2) ∧ max b1 c1 ≤ min b2 c2) := by omega

theorem mB_parts {a b : Sp} (h : some2 a b = true) : ((mB a b).1 / 65536 = max (a.1 / 65536) (b.1 / 65536) ∧ (mB a b).1 % 65536 = max (a.1 % 65536) (b.1 % 65536)) ∧ (mB a b).2 / 65536 = min (a.2 / 65536) (b.2 / 65536) ∧ (mB a b).2 % 65536 = min (a.2 % 65536) (b.2 % 65536) := by
  unfold mB
  rw [if_pos h]
  unfold meetB
  simp only
  omega

theorem three (a b c : Sp) : (some2 (mB a b) c && some2 a b) = (some2 a (mB b c) && some2 b c) := by
  apply bool_eq
  rw [Bool.and_eq_true, Bool.and_eq_true]
  constructor
  · rintro ⟨h1, h2⟩
    have p := mB_parts h2
    rw [some2_iff, p.1.1, p.1.2, p.2.1, p.2.2] at h1
    rw [some2_iff] at h2
    have t1 := (tri _ _ _ _ _ _).1 ⟨h1.1, h2.1⟩
    have t2 := (tri _ _ _ _ _ _).1 ⟨h1.2, h2.2⟩
    have h3 : some2 b c = true := some2_iff.2 ⟨t1.2, t2.2⟩
    have p3 := mB_parts h3
    refine ⟨?_, h3⟩
    rw [some2_iff, p3.1.1, p3.1.2, p3.2.1, p3.2.2]
    exact ⟨t1.1, t2.1⟩
  · rintro ⟨h1, h2⟩
    have p := mB_parts h2
    rw [some2_iff, p.1.1, p.1.2, p.2.1, p.2.2] at h1
    rw [some2_iff] at h2
    have t1 := (tri _ _ _ _ _ _).2 ⟨h1.1, h2.1⟩
    have t2 := (tri _ _ _ _ _ _).2 ⟨h1.2, h2.2⟩
    have h3 : some2 a b = true := some2_iff.2 ⟨t1.2, t2.2⟩
    have p3 := mB_parts h3
    refine ⟨?_, h3⟩
    rw [some2_iff, p3.1.1, p3.1.2, p3.2.1, p3.2.2]
    exact ⟨t1.1, t2.1⟩

theorem three_box {a b c : Sp} (h1 : some2 (mB a b) c = true) (h2 : some2 a b = true) : mB (mB a b) c = mB a (mB b c) := by
  have h := three a b c
  rw [h1, h2, Bool.and_true] at h
  have h' : some2 a (mB b c) = true ∧ some2 b c = true := by
    have := h.symm
    rw [Bool.and_eq_true] at this
    exact this
  have p2 := mB_parts h2
  have p4 := mB_parts h'.2
  have e1 : mB (mB a b) c = meetB (mB a b) c := if_pos h1
  have e2 : mB a (mB b c) = meetB a (mB b c) := if_pos h'.1
  rw [e1, e2]
  unfold meetB
  rw [p2.1.1, p2.1.2, p2.2.1, p2.2.2, p4.1.1, p4.1.2, p4.2.1, p4.2.2, Int.max_assoc, Int.max_assoc, Int.min_assoc, Int.min_assoc]

set_option maxHeartbeats 8000000 in
theorem law_laws (a b c : Sp) (w : World) (ha : Bx a) (hb : Bx b) (hc : Bx c) :
    Calls Try.prog 7 #[.agg #[.int .u32 a.1, .int .u32 a.2], .agg #[.int .u32 b.1, .int .u32 b.2], .agg #[.int .u32 c.1, .int .u32 c.2]] w fun e w' => e = .returned (.bool true) ∧ Below w.heap.size w w' := by
  obtain ⟨W0, hW0⟩ : ∃ W0, W0 = ((w.alloc (.cells #[.int .u32 a.1, .int .u32 a.2] 26)).alloc (.cells #[.int .u32 b.1, .int .u32 b.2] 26)).alloc (.cells #[.int .u32 c.1, .int .u32 c.2] 26) := ⟨_, rfl⟩
  have B0 : Below w.heap.size w W0 := by rw [hW0]; exact (((Below.refl _ _).alloc (Nat.le_refl _) _).alloc (by simp) _).alloc (by simp; omega) _
  have HA0 : Held W0 w.heap.size a := by rw [hW0]; exact ((Held.new w a).alloc _).alloc _
  have HB0 : Held W0 (w.heap.size + 1) b := by
    rw [hW0]
    have := (Held.new (w.alloc (.cells #[.int .u32 a.1, .int .u32 a.2] 26)) b).alloc (.cells #[.int .u32 c.1, .int .u32 c.2] 26)
    rw [show (w.alloc (.cells #[.int .u32 a.1, .int .u32 a.2] 26)).heap.size = w.heap.size + 1 from by simp] at this
    exact this
  have HC0 : Held W0 (w.heap.size + 1 + 1) c := by
    rw [hW0]
    have := Held.new ((w.alloc (.cells #[.int .u32 a.1, .int .u32 a.2] 26)).alloc (.cells #[.int .u32 b.1, .int .u32 b.2] 26)) c
    rw [show ((w.alloc (.cells #[.int .u32 a.1, .int .u32 a.2] 26)).alloc (.cells #[.int .u32 b.1, .int .u32 b.2] 26)).heap.size = w.heap.size + 1 + 1 from by simp] at this
    exact this
  have hal := alive_any W0
  have hab := fun W => meet_at a b ha hb W
  have hba := fun W => meet_at b a hb ha W
  have haa := fun W => meet_at a a ha ha W
  have hbc := fun W => meet_at b c hb hc W
  have hmc := fun W => meet_at (mB a b) c (mB_bx ha hb) hc W
  have hap := fun W => meet_at a (mB b c) ha (mB_bx hb hc) W
  have hin := fun W => in_any a a.1 ha ha.1 W
  rw [mB_comm, some2_comm] at hba
  rw [some2_self] at hin
  have HS : Hid (some2 a a = true → mB a a = a) := mB_self
  have HT : Hid ((some2 (mB a b) c && some2 a b) = (some2 a (mB b c) && some2 b c)) := three a b c
  have HXY : Hid (some2 (mB a b) c = true → some2 a b = true → mB (mB a b) c = mB a (mB b c)) := three_box
  generalize some2 (mB a b) c = s1 at *
  generalize some2 a (mB b c) = s2 at *
  generalize mB (mB a b) c = X at *
  generalize mB a (mB b c) = Y at *
  generalize mB a b = m at *
  generalize some2 a b = r at *
  generalize mB b c = p at *
  generalize some2 b c = f at *
  generalize mB a a = sf at *
  generalize some2 a a = r2 at *
  clear ha hb hc
  have hnq : ∀ W, (binOp .neq 26 (.agg #[.int .u32 m.1, .int .u32 m.2]) (.agg #[.int .u32 m.1, .int .u32 m.2])).run Try.prog W = .ok (.bool false) W := fun W => by rw [neq26]; simp
  have hna : ∀ W, (binOp .neq 26 (.agg #[.int .u32 a.1, .int .u32 a.2]) (.agg #[.int .u32 a.1, .int .u32 a.2])).run Try.prog W = .ok (.bool false) W := fun W => by rw [neq26]; simp
  have hex : ∀ W, (binOp .eql 26 (.agg #[.int .u32 X.1, .int .u32 X.2]) (.agg #[.int .u32 X.1, .int .u32 X.2])).run Try.prog W = .ok (.bool true) W := fun W => by rw [eql26]; simp
  have hrr : (r != r) = false := by simp
  have hr2 : (r2 != r2) = false := by simp
  go_enter Try.func7, Try.ntmps7
  go_wp2_with fail
  rw [← hW0]
  clear hW0
  refine hal.mono ?_
  rintro e w1 ⟨rfl, B1'⟩
  have B1 := bstep B0 B1'
  have HA := HA0.kept B1'
  have HB := HB0.kept B1'
  have HC := HC0.kept B1'
  clear hal B0 HA0 HB0 HC0 B1'
  have fAc0 := HA.c0
  have fAc1 := HA.c1
  have fAlt := HA.lt
  have fBc0 := HB.c0
  have fBc1 := HB.c1
  have fBlt := HB.lt
  have fCc0 := HC.c0
  have fCc1 := HC.c1
  have fClt := HC.lt
  go_wp2_with fail
  refine (hab _).mono ?_
  rintro e w2 ⟨rfl, B2'⟩
  clear fAc0 fAc1 fAlt fBc0 fBc1 fBlt fCc0 fCc1 fClt
  have B2 := bstep B1 B2'
  have HA := HA.kept B2'
  have HB := HB.kept B2'
  have HC := HC.kept B2'
  clear B1 B2' hab
  have fAc0 := HA.c0
  have fAc1 := HA.c1
  have fAlt := HA.lt
  have fBc0 := HB.c0
  have fBc1 := HB.c1
  have fBlt := HB.lt
  have fCc0 := HC.c0
  have fCc1 := HC.c1
  have fClt := HC.lt
  go_wp2_with fail
  refine (hba _).mono ?_
  rintro e w3 ⟨rfl, B3'⟩
  clear fAc0 fAc1 fAlt fBc0 fBc1 fBlt fCc0 fCc1 fClt
  have B3 : Below w.heap.size w w3 := (B2.alloc B2.size _).trans (B3'.mono (by have := B2.size; simp; omega))
  have HA := (HA.alloc (.cells #[.int .u32 m.1, .int .u32 m.2] 26)).kept B3'
  have HB := (HB.alloc (.cells #[.int .u32 m.1, .int .u32 m.2] 26)).kept B3'
  have HC := (HC.alloc (.cells #[.int .u32 m.1, .int .u32 m.2] 26)).kept B3'
  have HM := (Held.new w2 m).kept B3'
  clear B2 B3' hba
  have fAc0 := HA.c0
  have fAc1 := HA.c1
  have fAlt := HA.lt
  have fBc0 := HB.c0
  have fBc1 := HB.c1
  have fBlt := HB.lt
  have fCc0 := HC.c0
  have fCc1 := HC.c1
  have fClt := HC.lt
  have fMc0 := HM.c0
  have fMc1 := HM.c1
  have fMlt := HM.lt
  go_wp2_with fail
  refine (haa _).mono ?_
  rintro e w4 ⟨rfl, B4'⟩
  clear fAc0 fAc1 fAlt fBc0 fBc1 fBlt fCc0 fCc1 fClt fMc0 fMc1 fMlt
  have B4 : Below w.heap.size w w4 := (B3.alloc B3.size _).trans (B4'.mono (by have := B3.size; simp; omega))
  have HA := (HA.alloc (.cells #[.int .u32 m.1, .int .u32 m.2] 26)).kept B4'
  have HB := (HB.alloc (.cells #[.int .u32 m.1, .int .u32 m.2] 26)).kept B4'
  have HC := (HC.alloc (.cells #[.int .u32 m.1, .int .u32 m.2] 26)).kept B4'
  have HM := (HM.alloc (.cells #[.int .u32 m.1, .int .u32 m.2] 26)).kept B4'
  clear B3 B4' haa hnq hrr
  cases r2 with
  | true =>
    have esf := HS.out rfl
    subst esf
    have fAc0 := HA.c0
    have fAc1 := HA.c1
    have fAlt := HA.lt
    have fBc0 := HB.c0
    have fBc1 := HB.c1
    have fBlt := HB.lt
    have fCc0 := HC.c0
    have fCc1 := HC.c1
    have fClt := HC.lt
    have fMc0 := HM.c0
    have fMc1 := HM.c1
    have fMlt := HM.lt
    go_wp2_with fail
    refine (hin _).mono ?_
    rintro e w5 ⟨rfl, hgr⟩
    clear fAc0 fAc1 fAlt fBc0 fBc1 fBlt fCc0 fCc1 fClt fMc0 fMc1 fMlt
    have B5' := Grown.below hgr
    have B5 : Below w.heap.size w w5 := (B4.alloc B4.size _).trans (B5'.mono (by have := B4.size; simp; omega))
    have HA := (HA.alloc _).kept B5'
    have HB := (HB.alloc _).kept B5'
    have HC := (HC.alloc _).kept B5'
    have HM := (HM.alloc _).kept B5'
    clear B4 B5' hgr hin
    have fAc0 := HA.c0
    have fAc1 := HA.c1
    have fAlt := HA.lt
    have fBc0 := HB.c0
    have fBc1 := HB.c1
    have fBlt := HB.lt
    have fCc0 := HC.c0
    have fCc1 := HC.c1
    have fClt := HC.lt
    have fMc0 := HM.c0
    have fMc1 := HM.c1
    have fMlt := HM.lt
    go_wp2_with fail
    refine (hbc _).mono ?_
    rintro e w6 ⟨rfl, B6'⟩
    clear fAc0 fAc1 fAlt fBc0 fBc1 fBlt fCc0 fCc1 fClt fMc0 fMc1 fMlt
    have B6 := bstep B5 B6'
    have HA := HA.kept B6'
    have HB := HB.kept B6'
    have HC := HC.kept B6'
    have HM := HM.kept B6'
    clear B5 B6' hbc
    have fAc0 := HA.c0
    have fAc1 := HA.c1
    have fAlt := HA.lt
    have fBc0 := HB.c0
    have fBc1 := HB.c1
    have fBlt := HB.lt
    have fCc0 := HC.c0
    have fCc1 := HC.c1
    have fClt := HC.lt
    have fMc0 := HM.c0
    have fMc1 := HM.c1
    have fMlt := HM.lt
    go_wp2_with fail
    refine (hmc _).mono ?_
    rintro e w7 ⟨rfl, B7'⟩
    clear fAc0 fAc1 fAlt fBc0 fBc1 fBlt fCc0 fCc1 fClt fMc0 fMc1 fMlt
    have B7 : Below w.heap.size w w7 := (B6.alloc B6.size _).trans (B7'.mono (by have := B6.size; simp; omega))
    have HA := (HA.alloc (.cells #[.int .u32 p.1, .int .u32 p.2] 26)).kept B7'
    have HB := (HB.alloc (.cells #[.int .u32 p.1, .int .u32 p.2] 26)).kept B7'
    have HC := (HC.alloc (.cells #[.int .u32 p.1, .int .u32 p.2] 26)).kept B7'
    have HM := (HM.alloc (.cells #[.int .u32 p.1, .int .u32 p.2] 26)).kept B7'
    have HP := (Held.new w6 p).kept B7'
    clear B6 B7' hmc
    have fAc0 := HA.c0
    have fAc1 := HA.c1
    have fAlt := HA.lt
    have fPc0 := HP.c0
    have fPc1 := HP.c1
    have fPlt := HP.lt
    go_wp2_with fail
    refine (hap _).mono ?_
    rintro e w8 ⟨rfl, B8'⟩
    clear fAc0 fAc1 fAlt fPc0 fPc1 fPlt
    have B8 : Below w.heap.size w w8 := (B7.alloc B7.size _).trans (B8'.mono (by have := B7.size; simp; omega))
    have HX := (Held.new w7 X).kept B8'
    clear B7 B8' hap HA HB HC HM HP
    have fXc0 := HX.c0
    have fXc1 := HX.c1
    have fXlt := HX.lt
    have HF : Below w.heap.size w (w8.alloc (.cells #[.int .u32 Y.1, .int .u32 Y.2] 26)) := B8.alloc B8.size _
    have hT := HT.out
    cases r <;> cases s1 <;> cases s2 <;> cases f <;> first
      | (simp at hT; done)
      | (clear hT; have hXY := HXY.out rfl rfl; subst hXY; go_wp2_with fail; go_ret; exact ⟨rfl, HF⟩)
      | (clear hT; go_wp2_with fail; go_ret; exact ⟨rfl, HF⟩)
  | false =>
    have fAc0 := HA.c0
    have fAc1 := HA.c1
    have fAlt := HA.lt
    have fBc0 := HB.c0
    have fBc1 := HB.c1
    have fBlt := HB.lt
    have fCc0 := HC.c0
    have fCc1 := HC.c1
    have fClt := HC.lt
    have fMc0 := HM.c0
    have fMc1 := HM.c1
    have fMlt := HM.lt
    go_wp2_with fail
    refine (hin _).mono ?_
    rintro e w5 ⟨rfl, hgr⟩
    clear fAc0 fAc1 fAlt fBc0 fBc1 fBlt fCc0 fCc1 fClt fMc0 fMc1 fMlt
    have B5' := Grown.below hgr
    have B5 : Below w.heap.size w w5 := (B4.alloc B4.size _).trans (B5'.mono (by have := B4.size; simp; omega))
    have HA := (HA.alloc _).kept B5'
    have HB := (HB.alloc _).kept B5'
    have HC := (HC.alloc _).kept B5'
    have HM := (HM.alloc _).kept B5'
    clear B4 B5' hgr hin
    have fAc0 := HA.c0
    have fAc1 := HA.c1
    have fAlt := HA.lt
    have fBc0 := HB.c0
    have fBc1 := HB.c1
    have fBlt := HB.lt
    have fCc0 := HC.c0
    have fCc1 := HC.c1
    have fClt := HC.lt
    have fMc0 := HM.c0
    have fMc1 := HM.c1
    have fMlt := HM.lt
    go_wp2_with fail
    refine (hbc _).mono ?_
    rintro e w6 ⟨rfl, B6'⟩
    clear fAc0 fAc1 fAlt fBc0 fBc1 fBlt fCc0 fCc1 fClt fMc0 fMc1 fMlt
    have B6 := bstep B5 B6'
    have HA := HA.kept B6'
    have HB := HB.kept B6'
    have HC := HC.kept B6'
    have HM := HM.kept B6'
    clear B5 B6' hbc
    have fAc0 := HA.c0
    have fAc1 := HA.c1
    have fAlt := HA.lt
    have fBc0 := HB.c0
    have fBc1 := HB.c1
    have fBlt := HB.lt
    have fCc0 := HC.c0
    have fCc1 := HC.c1
    have fClt := HC.lt
    have fMc0 := HM.c0
    have fMc1 := HM.c1
    have fMlt := HM.lt
    go_wp2_with fail
    refine (hmc _).mono ?_
    rintro e w7 ⟨rfl, B7'⟩
    clear fAc0 fAc1 fAlt fBc0 fBc1 fBlt fCc0 fCc1 fClt fMc0 fMc1 fMlt
    have B7 : Below w.heap.size w w7 := (B6.alloc B6.size _).trans (B7'.mono (by have := B6.size; simp; omega))
    have HA := (HA.alloc (.cells #[.int .u32 p.1, .int .u32 p.2] 26)).kept B7'
    have HB := (HB.alloc (.cells #[.int .u32 p.1, .int .u32 p.2] 26)).kept B7'
    have HC := (HC.alloc (.cells #[.int .u32 p.1, .int .u32 p.2] 26)).kept B7'
    have HM := (HM.alloc (.cells #[.int .u32 p.1, .int .u32 p.2] 26)).kept B7'
    have HP := (Held.new w6 p).kept B7'
    clear B6 B7' hmc
    have fAc0 := HA.c0
    have fAc1 := HA.c1
    have fAlt := HA.lt
    have fPc0 := HP.c0
    have fPc1 := HP.c1
    have fPlt := HP.lt
    go_wp2_with fail
    refine (hap _).mono ?_
    rintro e w8 ⟨rfl, B8'⟩
    clear fAc0 fAc1 fAlt fPc0 fPc1 fPlt
    have B8 : Below w.heap.size w w8 := (B7.alloc B7.size _).trans (B8'.mono (by have := B7.size; simp; omega))
    have HX := (Held.new w7 X).kept B8'
    clear B7 B8' hap HA HB HC HM HP
    have fXc0 := HX.c0
    have fXc1 := HX.c1
    have fXlt := HX.lt
    have HF : Below w.heap.size w (w8.alloc (.cells #[.int .u32 Y.1, .int .u32 Y.2] 26)) := B8.alloc B8.size _
    have hT := HT.out
    cases r <;> cases s1 <;> cases s2 <;> cases f <;> first
      | (simp at hT; done)
      | (clear hT; have hXY := HXY.out rfl rfl; subst hXY; go_wp2_with fail; go_ret; exact ⟨rfl, HF⟩)
      | (clear hT; go_wp2_with fail; go_ret; exact ⟨rfl, HF⟩)
end Go.Proofs.Ytepioggejacfjaa
