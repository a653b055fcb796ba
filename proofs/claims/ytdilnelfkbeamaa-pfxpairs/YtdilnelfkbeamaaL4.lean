/-
  The law PfxPairs.
-/
import Derived.Test.YtdilnelfkbeamaaW17
import Derived.Test.YtdilnelfkbeamaaAlv
import Derived.Deep.RegionHeld3
namespace Go.Proofs.Ytdilnelfkbeamaa
open Go.RowKit

set_option maxHeartbeats 8000000 in
theorem law_pairs (a b : Rg) (w : World) (ha : Num a.addr) (hb : Num b.addr) :
    Calls Try.prog 4 #[gv a, gv b] w fun e w' => e = .returned (.bool true) ∧ Below w.heap.size w w' := by
  obtain ⟨a0, a1, a2, a3⟩ := a
  obtain ⟨b0, b1, b2, b3⟩ := b
  simp only at ha hb
  have k1 := fun W => meet_any ⟨a0, a1, a2, a3⟩ ⟨b0, b1, b2, b3⟩ ha hb W
  have k2 := fun W => rmeet_any ⟨a0, a1, a2, a3⟩ ⟨b0, b1, b2, b3⟩ ha hb W
  have k3 := fun W => minus_any ⟨a0, a1, a2, a3⟩ ⟨b0, b1, b2, b3⟩ ha hb W
  have k4 := fun W => rminus_any ⟨a0, a1, a2, a3⟩ ⟨b0, b1, b2, b3⟩ ha hb W
  have HL : Hid ((minusR ⟨a0, a1, a2, a3⟩ ⟨b0, b1, b2, b3⟩).length ≤ 1000000) := Nat.le_trans (minusR_len _ _) (by decide)
  generalize (if meetOk ⟨a0, a1, a2, a3⟩ ⟨b0, b1, b2, b3⟩ = true then meetX ⟨a0, a1, a2, a3⟩ ⟨b0, b1, b2, b3⟩ else ⟨0, 0, 0, 0⟩) = mv at *
  generalize meetOk ⟨a0, a1, a2, a3⟩ ⟨b0, b1, b2, b3⟩ = mk at *
  generalize minusR ⟨a0, a1, a2, a3⟩ ⟨b0, b1, b2, b3⟩ = R at *
  obtain ⟨m0, m1, m2, m3⟩ := mv
  obtain ⟨W, hW⟩ : ∃ W, W = (w.alloc (.cells #[.int .u32 a0, .int .i64 a1, .int .i64 a2, .int .i64 a3] 28)).alloc (.cells #[.int .u32 b0, .int .i64 b1, .int .i64 b2, .int .i64 b3] 28) := ⟨_, rfl⟩
  have HA : Hid (BlkG W w.heap.size a0 a1 a2 a3) := by rw [hW]; exact (Blk.new _ _ _).alloc _
  have HB : Hid (BlkG W (w.heap.size + 1) b0 b1 b2 b3) := by rw [hW]; exact Blk.new' _ _ _ _ (by simp)
  have HG : Hid (Gr w W) := by rw [hW]; exact ((Gr.refl _).alloc _).alloc _
  have HW2 : Hid ((w.alloc (.cells #[.int .u32 a0, .int .i64 a1, .int .i64 a2, .int .i64 a3] 28)).alloc (.cells #[.int .u32 b0, .int .i64 b1, .int .i64 b2, .int .i64 b3] 28) = W) := hW.symm
  clear hW
  go_enter Try.func4, Try.ntmps4
  go_wp2_with fail
  rw [HW2.out]
  clear HW2
  refine (alive_any W).mono ?_
  rintro _ w1 ⟨rfl, b1'⟩
  have B1 : Hid (Below w.heap.size w w1) := bstep HG.out.below b1'
  have HA1 : Hid (BlkG w1 w.heap.size a0 a1 a2 a3) := HA.out.bel b1'
  have HB1 : Hid (BlkG w1 (w.heap.size + 1) b0 b1 b2 b3) := HB.out.bel b1'
  clear b1' HA HB HG
  obtain ⟨x0, x1, x2, x3⟩ := BlkG.cs HA1.out
  obtain ⟨y0, y1, y2, y3⟩ := BlkG.cs HB1.out
  go_wp2_with fail
  refine (k1 _).mono ?_
  rintro _ w2 ⟨rfl, gw⟩
  have B2 : Hid (Below w.heap.size w w2) := bstep B1.out gw.below
  have HA2 : Hid (BlkG w2 w.heap.size a0 a1 a2 a3) := HA1.out.gr gw
  have HB2 : Hid (BlkG w2 (w.heap.size + 1) b0 b1 b2 b3) := HB1.out.gr gw
  clear gw x0 x1 x2 x3 y0 y1 y2 y3 HA1 HB1 B1
  obtain ⟨x0, x1, x2, x3⟩ := BlkG.cs HA2.out
  obtain ⟨y0, y1, y2, y3⟩ := BlkG.cs HB2.out
  have l0 := HA2.out.lt
  have l1 := HB2.out.lt
  go_wp2_with fail
  have HM2 : Hid (BlkG (w2.alloc (.cells #[.int .u32 m0, .int .i64 m1, .int .i64 m2, .int .i64 m3] 28)) w2.heap.size m0 m1 m2 m3) := Blk.new _ _ _
  refine (k2 _).mono ?_
  rintro _ w3 ⟨rfl, gw⟩
  have G3 : Hid (Gr w2 w3) := ((Gr.refl _).alloc _).trans gw
  have HM3 : Hid (BlkG w3 w2.heap.size m0 m1 m2 m3) := HM2.out.gr gw
  clear gw x0 x1 x2 x3 y0 y1 y2 y3 HM2
  obtain ⟨W4, hW4⟩ : ∃ W4, W4 = w3.alloc (.cells #[.int .u32 m0, .int .i64 m1, .int .i64 m2, .int .i64 m3] 28) := ⟨_, rfl⟩
  have HG4 : Hid (Gr w2 W4) := by rw [hW4]; exact G3.out.alloc _
  have HA4 : Hid (BlkG W4 w.heap.size a0 a1 a2 a3) := HA2.out.gr HG4.out
  have HB4 : Hid (BlkG W4 (w.heap.size + 1) b0 b1 b2 b3) := HB2.out.gr HG4.out
  have HM4 : Hid (BlkG W4 w2.heap.size m0 m1 m2 m3) := by rw [hW4]; exact HM3.out.alloc _
  have HN4 : Hid (BlkG W4 w3.heap.size m0 m1 m2 m3) := by rw [hW4]; exact Blk.new _ _ _
  have HW4 : Hid (w3.alloc (.cells #[.int .u32 m0, .int .i64 m1, .int .i64 m2, .int .i64 m3] 28) = W4) := hW4.symm
  have B4 : Hid (Below w.heap.size w W4) := bstep B2.out HG4.out.below
  have hq := fun W => eql28 m0 m1 m2 m3 m0 m1 m2 m3 W
  simp only [beq_self_eq_true, Bool.and_self] at hq
  have hmk : (mk == mk) = true := by simp
  clear hW4 HA2 HB2 HM3 G3 B2 HG4 k1 k2 l0 l1
  obtain ⟨x0, x1, x2, x3⟩ := BlkG.cs HA4.out
  obtain ⟨y0, y1, y2, y3⟩ := BlkG.cs HB4.out
  obtain ⟨p0, p1, p2, p3⟩ := BlkG.cs HM4.out
  obtain ⟨q0, q1, q2, q3⟩ := BlkG.cs HN4.out
  go_wp2_with fail
  rw [HW4.out]
  clear HW4
  generalize w2.heap.size = mb at *
  generalize w3.heap.size = nb at *
  cases mk
  all_goals
    go_region_held3 (fun w' => w'.cell? ⟨w.heap.size, 0, none⟩ = some (.int .u32 a0) ∧ w'.cell? ⟨w.heap.size, 1, none⟩ = some (.int .i64 a1) ∧ w'.cell? ⟨w.heap.size, 2, none⟩ = some (.int .i64 a2) ∧ w'.cell? ⟨w.heap.size, 3, none⟩ = some (.int .i64 a3) ∧ w'.cell? ⟨w.heap.size + 1, 0, none⟩ = some (.int .u32 b0) ∧ w'.cell? ⟨w.heap.size + 1, 1, none⟩ = some (.int .i64 b1) ∧ w'.cell? ⟨w.heap.size + 1, 2, none⟩ = some (.int .i64 b2) ∧ w'.cell? ⟨w.heap.size + 1, 3, none⟩ = some (.int .i64 b3) ∧ w'.cell? ⟨mb, 0, none⟩ = some (.int .u32 m0) ∧ w'.cell? ⟨mb, 1, none⟩ = some (.int .i64 m1) ∧ w'.cell? ⟨mb, 2, none⟩ = some (.int .i64 m2) ∧ w'.cell? ⟨mb, 3, none⟩ = some (.int .i64 m3) ∧ w'.cell? ⟨nb, 0, none⟩ = some (.int .u32 m0) ∧ w'.cell? ⟨nb, 1, none⟩ = some (.int .i64 m1) ∧ w'.cell? ⟨nb, 2, none⟩ = some (.int .i64 m2) ∧ w'.cell? ⟨nb, 3, none⟩ = some (.int .i64 m3)) (go_keep)
      (first
        | (go_at_call 20; (with_reducible refine (k3 _).mono ?_); rintro _ w5 ⟨v5, rfl, o5, bb⟩; have BB5 : Hid (Below W4.heap.size W4 w5) := ⟨bb.os, bb.tape, bb.output, bb.size, bb.block⟩; have O5 : Hid (RowG w5 v5 R) := o5.row encG_len; clear bb o5; obtain ⟨s0, s1, s2, s3⟩ := BlkG.cs (HA4.out.bel BB5.out); obtain ⟨t0, t1, t2, t3⟩ := BlkG.cs (HB4.out.bel BB5.out); obtain ⟨s4, s5, s6, s7⟩ := BlkG.cs (HM4.out.bel BB5.out); obtain ⟨t4, t5, t6, t7⟩ := BlkG.cs (HN4.out.bel BB5.out))
        | (go_at_call 21; (with_reducible refine (k4 _).mono ?_); rintro _ w6 ⟨v6, rfl, o6, bb⟩; have BB6 : Hid (Below W4.heap.size W4 w6) := bstep BB5.out bb; have O6 : Hid (RowG w6 v6 R) := o6.row encG_len; have O56 : Hid (RowG w6 v5 R) := O5.out.bel bb; clear bb o6; obtain ⟨i0, i1, i2, i3⟩ := BlkG.cs (HA4.out.bel BB6.out); obtain ⟨j0, j1, j2, j3⟩ := BlkG.cs (HB4.out.bel BB6.out); obtain ⟨i4, i5, i6, i7⟩ := BlkG.cs (HM4.out.bel BB6.out); obtain ⟨j4, j5, j6, j7⟩ := BlkG.cs (HN4.out.bel BB6.out))
        | (go_at_call 19; (with_reducible refine (same_true v5 v6 R _ HL.out O56.out O6.out).mono ?_); rintro _ w7 ⟨rfl, gw⟩; have BB7 : Hid (Below W4.heap.size W4 w7) := bstep BB6.out gw.below; clear gw; obtain ⟨e0, e1, e2, e3⟩ := BlkG.cs (HA4.out.bel BB7.out); obtain ⟨f0, f1, f2, f3⟩ := BlkG.cs (HB4.out.bel BB7.out); obtain ⟨e4, e5, e6, e7⟩ := BlkG.cs (HM4.out.bel BB7.out); obtain ⟨f4, f5, f6, f7⟩ := BlkG.cs (HN4.out.bel BB7.out)))
    go_wp2_with fail
    go_ret
    exact ⟨rfl, bstep B4.out BB7.out⟩

end Go.Proofs.Ytdilnelfkbeamaa
