/-
  The walk of PatTimes.
-/
import Derived.Test.YtjjlkjfhhpogaaaDoorL4
import Derived.Test.YtjjlkjfhhpogaaaDoorTr
import Derived.Test.YtjjlkjfhhpogaaaDoorSw
import Derived.Test.YtjjlkjfhhpogaaaDoorSm
namespace Go.Proofs.YtjjlkjfhhpogaaaDoor
open Go.RowKit

theorem ok_times {t : Tree} (h : okT t) (a b : Int) : okT (timesT t a b).1 := by
  have hz : okT zeroT := ok_none 0
  unfold timesT
  split
  · exact hz
  split
  · exact hz
  split
  · exact hz
  generalize (if b < 0 then 0 else b - a).toNat = M
  generalize a.toNat = A
  generalize decide (b < 0) = e
  split
  · rename_i hr
    refine okT_row h ?_ ?_ e
    · by_cases c : A ≤ 300
      · exact c
      · rw [row_great3 (by omega)] at hr
        cases hr
    · by_cases c : M ≤ 300
      · exact c
      · rw [row_great4 (by omega)] at hr
        cases hr
  · exact hz

/-- A law's world: the pattern lies in its box, its copy in another one. -/
structure LX (w : World) (x : PC) (b : Nat) (y : PC) (W : World) : Prop where
  bel : Below w.heap.size w W
  box : Blk W w.heap.size (encT x).toArray 25
  cop : Blk W b (encT y).toArray 25
theorem LX.go {w : World} {x : PC} {b : Nat} {y : PC} {W W' : World} (h : LX w x b y W) (g : Below W.heap.size W W') : LX w x b y W' := ⟨bstep h.bel g, h.box.bel g, h.cop.bel g⟩
theorem LX.go' {w : World} {x : PC} {b : Nat} {y : PC} {W W' : World} {lo : Nat} (h : LX w x b y W) (g : Below lo W W') (h1 : w.heap.size < lo) (h2 : b < lo) : LX w x b y W' :=
  ⟨h.bel.trans (g.mono (by omega)), (g.block _ h1).trans h.box, (g.block _ h2).trans h.cop⟩

set_option maxRecDepth 100000 in
set_option maxHeartbeats 8000000 in
theorem law_times (t : Tree) (x : PC) (a b : Int) (w : World) (hok : okT t) (hx : HT w t x) (ha : -9223372036854775808 ≤ a ∧ a ≤ 9223372036854775807) (hb : -9223372036854775808 ≤ b ∧ b ≤ 9223372036854775807) (hT : Tab w) :
    Calls Tryd.prog 5 #[x.v, .int .i64 a, .int .i64 b] w fun e w' => e = .returned (.bool true) ∧ Below w.heap.size w w' := by
  have kal := fun W h => alive_any W h
  have kg := fun W h => great_any t x W hok h
  have HX : Hid (HT w t x) := hx
  have HTb : Hid (Tab w) := hT
  obtain ⟨xk, ⟨x1, x2, x3⟩, x4, x5, x6⟩ := x
  clear hx hT
  go_enter Tryd.func5, Tryd.ntmps5
  go_upto_region 1 with fail
  generalize hW : World.alloc _ _ = W
  have HI : Hid (BX w ⟨xk, ⟨x1, x2, x3⟩, ⟨x4, x5, x6⟩⟩ W) := by
    rw [← hW]
    exact ⟨(Below.refl _ _).alloc (Nat.le_refl _) _, Blk.new _ _ _⟩
  clear hW
  by_cases c : 3000 < size t
  · have kg2 : ∀ W, HT W t ⟨xk, ⟨x1, x2, x3⟩, ⟨x4, x5, x6⟩⟩ → Calls Tryd.prog 15 #[PC.v ⟨xk, ⟨x1, x2, x3⟩, ⟨x4, x5, x6⟩⟩] W fun e w' => e = .returned (.bool true) ∧ Gr W w' := fun W h => by have := kg W h; simpa [c] using this
    clear kg
    go_wp2_with (first
      | (go_at_call 14; refine (kal _ (HTb.out.bel HI.out.bel)).mono ?_; rintro _ w2 ⟨rfl, gw⟩; have I2 : Hid (BX w ⟨xk, ⟨x1, x2, x3⟩, ⟨x4, x5, x6⟩⟩ w2) := HI.out.go gw; clear gw; obtain ⟨e0, e1, e2⟩ := BlkT.cs I2.out.box)
      | (go_at_call 15; refine (kg2 _ (HT.bel I2.out.bel HX.out)).mono ?_; rintro _ w3 ⟨rfl, gw⟩; have I3 : Hid (BX w ⟨xk, ⟨x1, x2, x3⟩, ⟨x4, x5, x6⟩⟩ w3) := I2.out.go gw.below; clear gw))
    go_ret
    exact ⟨rfl, I3.out.bel⟩
  · have kg2 : ∀ W, HT W t ⟨xk, ⟨x1, x2, x3⟩, ⟨x4, x5, x6⟩⟩ → Calls Tryd.prog 15 #[PC.v ⟨xk, ⟨x1, x2, x3⟩, ⟨x4, x5, x6⟩⟩] W fun e w' => e = .returned (.bool false) ∧ Gr W w' := fun W h => by have := kg W h; simpa [c] using this
    have kc := fun W h => copy_any _ t ⟨xk, ⟨x1, x2, x3⟩, ⟨x4, x5, x6⟩⟩ W (Nat.le_refl _) (by omega) hok h
    have kt := fun y W h => times_any t y a b W hok h ha hb
    have kt2 := fun W h => rtimes_any t ⟨xk, ⟨x1, x2, x3⟩, ⟨x4, x5, x6⟩⟩ a b W hok h ha hb
    have ks := fun y y' W h h' => same_true _ (timesT t a b).1 y y' W (Nat.le_refl _) (ok_times hok a b) h h'
    have ks2 := fun y y' W h h' => same_true _ t y y' W (Nat.le_refl _) hok h h'
    have kp := fun (P : Nat → Prop) y W h h' => spoil_any (P := P) _ (timesT t a b).1 y W (Nat.le_refl _) (ok_times hok a b) h h'
    obtain ⟨Q, hQ⟩ : ∃ Q, Q = timesT t a b := ⟨_, rfl⟩
    rw [← hQ] at ks kp
    have hQ2 : ∀ y W h, Calls Tryd.prog 26 #[PC.v y, .int .i64 a, .int .i64 b] W fun e w' => PostT Q W e w' := fun y W h => by rw [hQ]; exact kt y W h
    have hQ3 : ∀ W h, Calls Tryd.prog 27 #[PC.v ⟨xk, ⟨x1, x2, x3⟩, ⟨x4, x5, x6⟩⟩, .int .i64 a, .int .i64 b] W fun e w' => PostT Q W e w' := fun W h => by rw [hQ]; exact kt2 W h
    obtain ⟨q, en⟩ := Q
    clear kg kt kt2 hQ
    simp only at ks kp
    go_upto_region 6 with (first
      | (go_at_call 14; refine (kal _ (HTb.out.bel HI.out.bel)).mono ?_; rintro _ w2 ⟨rfl, gw⟩; have I2 : Hid (BX w ⟨xk, ⟨x1, x2, x3⟩, ⟨x4, x5, x6⟩⟩ w2) := HI.out.go gw; clear gw; obtain ⟨e0, e1, e2⟩ := BlkT.cs I2.out.box)
      | (go_at_call 15; refine (kg2 _ (HT.bel I2.out.bel HX.out)).mono ?_; rintro _ w3 ⟨rfl, gw⟩; have I3 : Hid (BX w ⟨xk, ⟨x1, x2, x3⟩, ⟨x4, x5, x6⟩⟩ w3) := I2.out.go gw.below; clear gw; obtain ⟨f0, f1, f2⟩ := BlkT.cs I3.out.box)
      | (go_at_call 16; refine (kc _ (HT.bel I3.out.bel HX.out)).mono ?_; rintro _ w4 ⟨⟨i0, ⟨i1, i2, i3⟩, i4, i5, i6⟩, rfl, ho4, bb4⟩; have I4 : Hid (BX w ⟨xk, ⟨x1, x2, x3⟩, ⟨x4, x5, x6⟩⟩ w4) := I3.out.go bb4; have H4 : Hid (HT w4 t ⟨i0, ⟨i1, i2, i3⟩, ⟨i4, i5, i6⟩⟩) := ho4.held; clear ho4 bb4))
    generalize hW5 : World.alloc _ _ = W5
    have V5 : Hid (LX w ⟨xk, ⟨x1, x2, x3⟩, ⟨x4, x5, x6⟩⟩ w4.heap.size ⟨i0, ⟨i1, i2, i3⟩, ⟨i4, i5, i6⟩⟩ W5) := by rw [← hW5]; exact ⟨bstep I4.out.bel (bel_alloc _ _), I4.out.box.alloc _, Blk.new _ _ _⟩
    have H5 : Hid (HT W5 t ⟨i0, ⟨i1, i2, i3⟩, ⟨i4, i5, i6⟩⟩) := by rw [← hW5]; exact HT.bel (bel_alloc _ _) H4.out
    clear hW5 H4 I4 I3 I2 HI kal kg2 kc e0 e1 e2 f0 f1 f2
    obtain ⟨j0, j1, j2⟩ := BlkT.cs V5.out.cop
    simp only at j0 j1 j2
    go_upto_region 7 with (first
      | (go_at_call 26; refine (hQ2 _ _ H5.out).mono ?_; rintro _ w6 ⟨⟨r0, ⟨r1, r2, r3⟩, r4, r5, r6⟩, rfl, ho6, bb6⟩; have B6 : Hid (Below W5.heap.size W5 w6) := bb6; have O6 : Hid (HO (fun g => W5.heap.size ≤ g ∧ g < w6.heap.size) w6 q ⟨r0, ⟨r1, r2, r3⟩, ⟨r4, r5, r6⟩⟩) := ho6; clear ho6 bb6))
    generalize hW7 : World.alloc _ _ = W7
    have B7 : Hid (Below W5.heap.size W5 W7) := by rw [← hW7]; exact bstep B6.out (bel_alloc _ _)
    have O7 : Hid (HO (fun g => W5.heap.size ≤ g ∧ g < W7.heap.size) W7 q ⟨r0, ⟨r1, r2, r3⟩, ⟨r4, r5, r6⟩⟩) := by rw [← hW7]; exact O6.out.bel (bel_alloc _ _)
    have T7 : Hid (Blk W7 w6.heap.size (encT ⟨r0, ⟨r1, r2, r3⟩, ⟨r4, r5, r6⟩⟩).toArray 25) := by rw [← hW7]; exact Blk.new _ _ _
    have V7 : Hid (LX w ⟨xk, ⟨x1, x2, x3⟩, ⟨x4, x5, x6⟩⟩ w4.heap.size ⟨i0, ⟨i1, i2, i3⟩, ⟨i4, i5, i6⟩⟩ W7) := V5.out.go B7.out
    clear hW7 B6 O6 j0 j1 j2 hQ2
    obtain ⟨j0, j1, j2⟩ := BlkT.cs V7.out.box
    simp only at j0 j1 j2
    go_upto_region 8 with (first
      | (go_at_call 27; refine (hQ3 _ (HT.bel V7.out.bel HX.out)).mono ?_; rintro _ w8 ⟨⟨s0, ⟨s1, s2, s3⟩, s4, s5, s6⟩, rfl, ho8, bb8⟩; have B8 : Hid (Below W7.heap.size W7 w8) := bb8; have O8 : Hid (HT w8 q ⟨s0, ⟨s1, s2, s3⟩, ⟨s4, s5, s6⟩⟩) := ho8.held; clear ho8 bb8))
    generalize hW9 : World.alloc _ _ = W9
    have b9 : Below W7.heap.size W7 W9 := by rw [← hW9]; exact bstep B8.out (bel_alloc _ _)
    have B9 : Hid (Below W5.heap.size W5 W9) := bstep B7.out b9
    have O9 : Hid (HO (fun g => W5.heap.size ≤ g ∧ g < W9.heap.size) W9 q ⟨r0, ⟨r1, r2, r3⟩, ⟨r4, r5, r6⟩⟩) := O7.out.bel b9
    have T9 : Hid (Blk W9 w6.heap.size (encT ⟨r0, ⟨r1, r2, r3⟩, ⟨r4, r5, r6⟩⟩).toArray 25) := T7.out.bel b9
    have K9 : Hid (HT W9 q ⟨s0, ⟨s1, s2, s3⟩, ⟨s4, s5, s6⟩⟩) := by rw [← hW9]; exact HT.bel (bel_alloc _ _) O8.out
    have U9 : Hid (Blk W9 w8.heap.size (encT ⟨s0, ⟨s1, s2, s3⟩, ⟨s4, s5, s6⟩⟩).toArray 25) := by rw [← hW9]; exact Blk.new _ _ _
    have V9 : Hid (LX w ⟨xk, ⟨x1, x2, x3⟩, ⟨x4, x5, x6⟩⟩ w4.heap.size ⟨i0, ⟨i1, i2, i3⟩, ⟨i4, i5, i6⟩⟩ W9) := V7.out.go b9
    clear hW9 b9 B8 O8 B7 O7 T7 V7 j0 j1 j2 hQ3
    obtain ⟨t0, t1, t2⟩ := BlkT.cs T9.out
    obtain ⟨u0, u1, u2⟩ := BlkT.cs U9.out
    simp only at t0 t1 t2 u0 u1 u2
    go_upto_region 10 with (first
      | (go_at_call 22; refine (ks _ _ _ O9.out.held K9.out).mono ?_; rintro _ w10 ⟨rfl, gw⟩; have B10 : Hid (Below W5.heap.size W5 w10) := bstep B9.out gw.below; have O10 : Hid (HO (fun g => W5.heap.size ≤ g ∧ g < w10.heap.size) w10 q ⟨r0, ⟨r1, r2, r3⟩, ⟨r4, r5, r6⟩⟩) := O9.out.bel gw.below; have T10 : Hid (Blk w10 w6.heap.size (encT ⟨r0, ⟨r1, r2, r3⟩, ⟨r4, r5, r6⟩⟩).toArray 25) := T9.out.bel gw.below; have V10 : Hid (LX w ⟨xk, ⟨x1, x2, x3⟩, ⟨x4, x5, x6⟩⟩ w4.heap.size ⟨i0, ⟨i1, i2, i3⟩, ⟨i4, i5, i6⟩⟩ w10) := V9.out.go gw.below; clear gw))
    clear B9 O9 T9 K9 U9 V9 t0 t1 t2 u0 u1 u2 ks
    obtain ⟨t0, t1, t2⟩ := BlkT.cs T10.out
    simp only at t0 t1 t2
    have hlo : w.heap.size < W5.heap.size := V5.out.box.lt
    have hlo2 : w4.heap.size < W5.heap.size := V5.out.cop.lt
    go_wp2_with (first
      | (go_at_call 28; refine (kp _ _ _ O10.out.shape (fun g hg => hg.2)).mono ?_; rintro _ w11 ⟨⟨v11, rfl⟩, sf⟩; have bb11 := sf.below (B := W5.heap.size) (fun g hg => hg.1) B10.out.size; have V11 : Hid (LX w ⟨xk, ⟨x1, x2, x3⟩, ⟨x4, x5, x6⟩⟩ w4.heap.size ⟨i0, ⟨i1, i2, i3⟩, ⟨i4, i5, i6⟩⟩ w11) := V10.out.go' bb11 hlo hlo2; have B11 : Hid (Below W5.heap.size W5 w11) := B10.out.trans bb11; clear sf bb11; obtain ⟨k0, k1, k2⟩ := BlkT.cs V11.out.box; obtain ⟨l0, l1, l2⟩ := BlkT.cs V11.out.cop)
      | (go_at_call 22; refine (ks2 _ _ _ (HT.bel B11.out H5.out) (HT.bel V11.out.bel HX.out)).mono ?_; rintro _ w12 ⟨rfl, gw⟩; have V12 : Hid (LX w ⟨xk, ⟨x1, x2, x3⟩, ⟨x4, x5, x6⟩⟩ w4.heap.size ⟨i0, ⟨i1, i2, i3⟩, ⟨i4, i5, i6⟩⟩ w12) := V11.out.go gw.below; clear gw))
    go_ret
    exact ⟨rfl, V12.out.bel⟩

end Go.Proofs.YtjjlkjfhhpogaaaDoor
