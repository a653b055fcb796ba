/-
  The walk of the law PlaneMeets.
-/
import Derived.Test.YtepioggejacfjaaMee
import Derived.Test.YtepioggejacfjaaW3
namespace Go.Proofs.Ytepioggejacfjaa
open Go.RowKit

theorem rmeet_at (a b : Sp) (ha : Bx a) (hb : Bx b) (w : World) :
    Calls Try.prog 14 #[.agg #[.int .u32 a.1, .int .u32 a.2], .agg #[.int .u32 b.1, .int .u32 b.2]] w fun e w' => e = .returned (.tuple #[.agg #[.int .u32 (mB a b).1, .int .u32 (mB a b).2], .bool (some2 a b)]) ∧ Below w.heap.size w w' := by
  have := rmeet_any a b ha hb w
  rw [meetV_eq] at this
  exact this

set_option maxHeartbeats 4000000 in
theorem law_meets (a b : Sp) (c : Int) (w : World) (ha : Bx a) (hb : Bx b) (hn : Num c) :
    Calls Try.prog 4 #[.agg #[.int .u32 a.1, .int .u32 a.2], .agg #[.int .u32 b.1, .int .u32 b.2], .int .u32 c] w fun e w' => e = .returned (.bool true) ∧ Below w.heap.size w w' := by
  have hmx : Try.prog.follows .mixedOrders = true := by kernel_rfl
  have B0 : Below w.heap.size w ((w.alloc (.cells #[.int .u32 a.1, .int .u32 a.2] 26)).alloc (.cells #[.int .u32 b.1, .int .u32 b.2] 26)) := ((Below.refl _ _).alloc (Nat.le_refl _) _).alloc (by simp) _
  have HA0 : Held ((w.alloc (.cells #[.int .u32 a.1, .int .u32 a.2] 26)).alloc (.cells #[.int .u32 b.1, .int .u32 b.2] 26)) w.heap.size a := (Held.new w a).alloc _
  have HB0 : Held ((w.alloc (.cells #[.int .u32 a.1, .int .u32 a.2] 26)).alloc (.cells #[.int .u32 b.1, .int .u32 b.2] 26)) (w.heap.size + 1) b := by
    have := Held.new (w.alloc (.cells #[.int .u32 a.1, .int .u32 a.2] 26)) b
    rw [show (w.alloc (.cells #[.int .u32 a.1, .int .u32 a.2] 26)).heap.size = w.heap.size + 1 from by simp] at this
    exact this
  have hmb := mB_bx ha hb
  have k1 := fun W => in_any (mB a b) c hmb hn W
  have k2 := fun W => in_any a c ha hn W
  have k3 := fun W => in_any b c hb hn W
  have hma := fun W => meet_at a b ha hb W
  have hra := fun W => rmeet_at a b ha hb W
  have HM : Hid ((some2 a b && inB (mB a b) c) = (inB a c && inB b c)) := meet_in a b c
  generalize mB a b = m at *
  generalize some2 a b = r at *
  generalize inB m c = q1 at *
  generalize inB a c = q2 at *
  generalize inB b c = q3 at *
  have hnq : ∀ W, (binOp .neq 26 (.agg #[.int .u32 m.1, .int .u32 m.2]) (.agg #[.int .u32 m.1, .int .u32 m.2])).run Try.prog W = .ok (.bool false) W := fun W => by rw [neq26]; simp
  have hrr : (r != r) = false := by simp
  go_enter Try.func4, Try.ntmps4
  go_wp2_with fail
  refine (alive_any _).mono ?_
  rintro e w1 ⟨rfl, B1'⟩
  have B1 := bstep B0 (show Below _ _ w1 from B1'.mono (by simp))
  have HA := HA0.kept B1'
  have HB := HB0.kept B1'
  clear B0 HA0 HB0 B1'
  have fAc0 := HA.c0
  have fAc1 := HA.c1
  have fAlt := HA.lt
  have fBc0 := HB.c0
  have fBc1 := HB.c1
  have fBlt := HB.lt
  go_wp2_with fail
  refine (hma _).mono ?_
  rintro e w2 ⟨rfl, B2'⟩
  clear fAc0 fAc1 fAlt fBc0 fBc1 fBlt
  have B2 := bstep B1 B2'
  have HA := HA.kept B2'
  have HB := HB.kept B2'
  clear B1 B2' hma
  have fAc0 := HA.c0
  have fAc1 := HA.c1
  have fAlt := HA.lt
  have fBc0 := HB.c0
  have fBc1 := HB.c1
  have fBlt := HB.lt
  go_wp2_with fail
  refine (hra _).mono ?_
  rintro e w3 ⟨rfl, B3'⟩
  clear fAc0 fAc1 fAlt fBc0 fBc1 fBlt
  have B3 : Below w.heap.size w w3 := (B2.alloc B2.size _).trans (B3'.mono (by have := B2.size; simp; omega))
  have HA := (HA.alloc (.cells #[.int .u32 m.1, .int .u32 m.2] 26)).kept B3'
  have HB := (HB.alloc (.cells #[.int .u32 m.1, .int .u32 m.2] 26)).kept B3'
  have HM2 := (Held.new w2 m).kept B3'
  clear B2 B3' hra
  obtain ⟨W, hW⟩ : ∃ W, W = w3.alloc (.cells #[.int .u32 m.1, .int .u32 m.2] 26) := ⟨_, rfl⟩
  have BW : Below w.heap.size w W := by rw [hW]; exact B3.alloc B3.size _
  have GA : Held W w.heap.size a := by rw [hW]; exact HA.alloc _
  have GB : Held W (w.heap.size + 1) b := by rw [hW]; exact HB.alloc _
  have GM : Held W w2.heap.size m := by rw [hW]; exact HM2.alloc _
  have fA0 := HA.c0
  have fM0 := HM2.c0
  have fM1 := HM2.c1
  have fMlt := HM2.lt
  go_wp2_with fail
  rw [← hW]
  clear hW fA0 fM0 fM1 fMlt hnq hrr
  have xa0 := GA.g0
  have xa1 := GA.g1
  have xb0 := GB.g0
  have xb1 := GB.g1
  have xm0 := GM.g0
  have xm1 := GM.g1
  have hM := HM.out
  have HBS : Hid (w.heap.size ≤ W.heap.size) := BW.size
  cases r <;> cases q1 <;> cases q2 <;> cases q3 <;> first
    | (simp at hM; done)
    | (clear hM
       go_quiet_grown (first | (go_at_call 9; with_reducible refine Calls.grown_of (k1 _)) | (go_at_call 9; with_reducible refine Calls.grown_of (k2 _)) | (go_at_call 9; with_reducible refine Calls.grown_of (k3 _)))
       go_wp2_with fail
       go_ret
       exact ⟨rfl, below_grow BW HBS.out _ _⟩)
end Go.Proofs.Ytepioggejacfjaa
