/-
  The walk of Times.
-/
import Derived.Test.YtjjlkjfhhpogaaaGreatDoorTm
import Derived.Test.YtjjlkjfhhpogaaaGreatDoorRw
import Derived.Test.YtjjlkjfhhpogaaaGreatDoorW2
namespace Go.Proofs.YtjjlkjfhhpogaaaGreatDoor
open Go.RowKit

/-- What Times comes to. -/
def PostT (q : Tree × Int) (w : World) (e : Ending) (w' : World) : Prop :=
  ∃ r : PC, e = .returned (.tuple #[r.v, .int .i64 q.2]) ∧ HO (fun g => w.heap.size ≤ g ∧ g < w'.heap.size) w' q.1 r ∧ Below w.heap.size w w'

/-- Between the steps: the pattern in its box, the result's cells. -/
structure TI (w : World) (x : PC) (W : World) : Prop where
  bel : Below w.heap.size w W
  box : Blk W w.heap.size (encT x).toArray 26
  res : Blk W (w.heap.size + 1) (encT ⟨0, ⟨none, 0, 0⟩, ⟨none, 0, 0⟩⟩).toArray 26
theorem TI.go {w : World} {x : PC} {W W' : World} (h : TI w x W) (g : Below W.heap.size W W') : TI w x W' := ⟨bstep h.bel g, h.box.bel g, h.res.bel g⟩
/-- An error, returned. -/
theorem TI.zero {w : World} {x : PC} {W : World} (h : TI w x W) (n : Int) (v0 v1 v2 : Value) :
    PostT (zeroT, n) w (.returned (.tuple #[PC.v ⟨0, ⟨none, 0, 0⟩, ⟨none, 0, 0⟩⟩, .int .i64 n])) (((W.setCell ⟨w.heap.size + 1, 0, none⟩ v0).setCell ⟨w.heap.size + 1, 1, none⟩ v1).setCell ⟨w.heap.size + 1, 2, none⟩ v2) :=
  ⟨_, rfl, HO_none 0, (((h.bel.setCell (by show w.heap.size ≤ w.heap.size + 1; omega) _).setCell (by show w.heap.size ≤ w.heap.size + 1; omega) _).setCell (by show w.heap.size ≤ w.heap.size + 1; omega) _)⟩

/-- What was put together, returned. -/
theorem TI.one {w : World} {x : PC} {W : World} (h : TI w x W) {t : Tree} {r : PC} {lo : Nat} (hr : HO (fun g => lo ≤ g ∧ g < W.heap.size) W t r) (hlo : w.heap.size + 1 < lo) (n : Int) (v0 v1 v2 : Value) :
    PostT (t, n) w (.returned (.tuple #[r.v, .int .i64 n])) (((W.setCell ⟨w.heap.size + 1, 0, none⟩ v0).setCell ⟨w.heap.size + 1, 1, none⟩ v1).setCell ⟨w.heap.size + 1, 2, none⟩ v2) := by
  have hheap : ∀ q, q ≠ w.heap.size + 1 → (((W.setCell ⟨w.heap.size + 1, 0, none⟩ v0).setCell ⟨w.heap.size + 1, 1, none⟩ v1).setCell ⟨w.heap.size + 1, 2, none⟩ v2).heap[q]? = W.heap[q]? := fun q hq => by
    rw [Below.heap_setCell _ _ _ _ hq, Below.heap_setCell _ _ _ _ hq, Below.heap_setCell _ _ _ _ hq]
  have hsz : (((W.setCell ⟨w.heap.size + 1, 0, none⟩ v0).setCell ⟨w.heap.size + 1, 1, none⟩ v1).setCell ⟨w.heap.size + 1, 2, none⟩ v2).heap.size = W.heap.size := by simp
  exact ⟨r, rfl, HO.same (fun q hq => ⟨by omega, by rw [hsz]; exact hq.2⟩) (fun q hq => hheap q (by omega)) hr, (((h.bel.setCell (by show w.heap.size ≤ w.heap.size + 1; omega) _).setCell (by show w.heap.size ≤ w.heap.size + 1; omega) _).setCell (by show w.heap.size ≤ w.heap.size + 1; omega) _)⟩
theorem HT.bel' {w w' : World} {t : Tree} {x : PC} (h : HT w t x) (hB : Below w.heap.size w w') : HT w' t x := HT.bel hB h

set_option maxRecDepth 100000 in
set_option maxHeartbeats 4000000 in
theorem times_any (t : Tree) (x : PC) (a b : Int) (w : World) (hok : okT t) (hx : HT w t x) (ha : -9223372036854775808 ≤ a ∧ a ≤ 9223372036854775807) (hb : -9223372036854775808 ≤ b ∧ b ≤ 9223372036854775807) :
    Calls Tryz.prog 117 #[x.v, .int .i64 a, .int .i64 b] w fun e w' => PostT (timesT t a b) w e w' := by
  have kr := fun W h => right_any t x W hok h
  have HX : Hid (HT w t x) := hx
  obtain ⟨xk, ⟨x1, x2, x3⟩, x4, x5, x6⟩ := x
  clear hx
  go_enter Tryz.func117, Tryz.ntmps117
  go_upto_region 1 with fail
  generalize hW : World.alloc _ _ = W
  have HI : Hid (TI w ⟨xk, ⟨x1, x2, x3⟩, ⟨x4, x5, x6⟩⟩ W) := by
    rw [← hW]
    exact ⟨((Below.refl _ _).alloc (Nat.le_refl _) _).alloc (by simp) _, (Blk.new _ _ _).alloc _, Blk.new' _ _ _ _ (by simp)⟩
  clear hW
  obtain ⟨z0, z1, z2⟩ := BlkT.cs HI.out.res
  have zf := HI.out.res.frozen
  obtain ⟨y0, y1, y2⟩ := BlkT.cs HI.out.box
  simp only at y0 y1 y2
  by_cases c1 : a < 0
  · have HQ : Hid (timesT t a b = (zeroT, 2)) := timesT_1 c1
    clear kr y0 y1 y2
    go_wp2_with fail
    refine bodyPost_ret (v := .tuple #[PC.v ⟨0, ⟨none, 0, 0⟩, ⟨none, 0, 0⟩⟩, .int .i64 2]) ?_ rfl (by rw [HQ.out]; exact HI.out.zero 2 _ _ _)
    have B := blk_put3 HI.out.res ⟨0, ⟨none, 0, 0⟩, ⟨none, 0, 0⟩⟩
    simp only at B
    generalize hW7 : World.setCell _ _ _ = W7 at B ⊢
    obtain ⟨b0, b1, b2⟩ := BlkT.cs B
    simp only at b0 b1 b2
    simp [results, Tryz.results117, go_sem, b0, b1, b2]
  by_cases c2 : rightT t = true
  case neg =>
    have c2' : rightT t = false := by simpa using c2
    have HQ : Hid (timesT t a b = (zeroT, 4)) := timesT_2 c1 c2'
    rw [c2'] at kr
    clear c2 c2'
    go_wp2_with (go_at_call 18; refine (kr _ (HT.bel HI.out.bel HX.out)).mono ?_; rintro _ w2 ⟨rfl, gw⟩; have I2 : Hid (TI w ⟨xk, ⟨x1, x2, x3⟩, ⟨x4, x5, x6⟩⟩ w2) := HI.out.go gw.below; clear gw; obtain ⟨a0, a1, a2⟩ := BlkT.cs I2.out.res; have af := I2.out.res.frozen)
    refine bodyPost_ret (v := .tuple #[PC.v ⟨0, ⟨none, 0, 0⟩, ⟨none, 0, 0⟩⟩, .int .i64 4]) ?_ rfl (by rw [HQ.out]; exact I2.out.zero 4 _ _ _)
    have B := blk_put3 I2.out.res ⟨0, ⟨none, 0, 0⟩, ⟨none, 0, 0⟩⟩
    simp only at B
    generalize hW7 : World.setCell _ _ _ = W7 at B ⊢
    obtain ⟨b0, b1, b2⟩ := BlkT.cs B
    simp only at b0 b1 b2
    simp [results, Tryz.results117, go_sem, b0, b1, b2]
  have HRt : Hid (rightT t = true) := c2
  rw [c2] at kr
  by_cases c3 : 0 ≤ b ∧ b < a
  · have HQ : Hid (timesT t a b = (zeroT, 2)) := timesT_3 c1 c2 c3
    obtain ⟨c4, c5⟩ := c3
    clear c2
    go_wp2_with (go_at_call 18; refine (kr _ (HT.bel HI.out.bel HX.out)).mono ?_; rintro _ w2 ⟨rfl, gw⟩; have I2 : Hid (TI w ⟨xk, ⟨x1, x2, x3⟩, ⟨x4, x5, x6⟩⟩ w2) := HI.out.go gw.below; clear gw; obtain ⟨a0, a1, a2⟩ := BlkT.cs I2.out.res; have af := I2.out.res.frozen)
    refine bodyPost_ret (v := .tuple #[PC.v ⟨0, ⟨none, 0, 0⟩, ⟨none, 0, 0⟩⟩, .int .i64 2]) ?_ rfl (by rw [HQ.out]; exact I2.out.zero 2 _ _ _)
    have B := blk_put3 I2.out.res ⟨0, ⟨none, 0, 0⟩, ⟨none, 0, 0⟩⟩
    simp only at B
    generalize hW7 : World.setCell _ _ _ = W7 at B ⊢
    obtain ⟨b0, b1, b2⟩ := BlkT.cs B
    simp only at b0 b1 b2
    simp [results, Tryz.results117, go_sem, b0, b1, b2]
  obtain ⟨hz, _, _⟩ := right_parts c2
  obtain ⟨A, rfl⟩ : ∃ A : Nat, a = A := ⟨a.toNat, by omega⟩
  have kp := fun W h => psize_any _ t ⟨xk, ⟨x1, x2, x3⟩, ⟨x4, x5, x6⟩⟩ W (Nat.le_refl _) (by omega) h
  have hp0 : (size t : Int) ≠ 0 := by have := size_pos t; omega
  obtain ⟨Dq, hDq⟩ : ∃ Dq : Nat, Dq = 200 / size t := ⟨_, rfl⟩
  have HD : Hid ((200 : Int) / size t = Dq) := by show _ = _; rw [hDq]; exact (Int.natCast_ediv 200 (size t)).symm
  have HD2 : Hid (Dq ≤ 200) := by rw [hDq]; exact Nat.div_le_self _ _
  have HD3 : Hid (Dq = 200 / size t) := hDq
  clear hDq
  have hd0 : ¬ (200 : Int) / size t < 0 := by have := HD.out; omega
  by_cases c4 : b < 0
  · have HQ : Hid (timesT t A b = if rightT (rowT t A 0 true) = true then (rowT t A 0 true, 0) else (zeroT, 6)) := timesT_4 c2 (by omega) (by rw [if_pos c4]; rfl) (by simp [c4])
    clear c2
    by_cases d1 : (200 : Int) / size t < A
    · have HQ2 : Hid (timesT t A b = (zeroT, 6)) := by show _ = _; rw [HQ.out, if_neg (by rw [row_great1 (by rw [← HD3.out]; have := HD.out; omega)]; decide)]
      clear HQ
      go_wp2_with (first
        | (go_at_call 18; refine (kr _ (HT.bel HI.out.bel HX.out)).mono ?_; rintro _ w2 ⟨rfl, gw⟩; have I2 : Hid (TI w ⟨xk, ⟨x1, x2, x3⟩, ⟨x4, x5, x6⟩⟩ w2) := HI.out.go gw.below; clear gw; obtain ⟨a0, a1, a2⟩ := BlkT.cs I2.out.res; have af := I2.out.res.frozen; obtain ⟨e0, e1, e2⟩ := BlkT.cs I2.out.box)
        | (go_at_call 130; refine (kp _ (HT.bel I2.out.bel HX.out)).mono ?_; rintro _ w3 ⟨⟨p, d, rfl, rfl, rfl⟩, gw⟩; have I3 : Hid (TI w ⟨xk, ⟨x1, x2, x3⟩, ⟨x4, x5, x6⟩⟩ w3) := I2.out.go gw.below; clear gw; obtain ⟨f0, f1, f2⟩ := BlkT.cs I3.out.res; have ff := I3.out.res.frozen; obtain ⟨g0, g1, g2⟩ := BlkT.cs I3.out.box))
      refine bodyPost_ret (v := .tuple #[PC.v ⟨0, ⟨none, 0, 0⟩, ⟨none, 0, 0⟩⟩, .int .i64 6]) ?_ rfl (by rw [HQ2.out]; exact I3.out.zero 6 _ _ _)
      have B := blk_put3 I3.out.res ⟨0, ⟨none, 0, 0⟩, ⟨none, 0, 0⟩⟩
      simp only at B
      generalize hW7 : World.setCell _ _ _ = W7 at B ⊢
      obtain ⟨b0, b1, b2⟩ := BlkT.cs B
      simp only at b0 b1 b2
      simp [results, Tryz.results117, go_sem, b0, b1, b2]
    have hA : A ≤ 200 := by have := HD.out; have := HD2.out; omega
    have krow := fun W h => row_any t ⟨xk, ⟨x1, x2, x3⟩, ⟨x4, x5, x6⟩⟩ A 0 true W (by omega) hok h (by omega) (by omega)
    have krr := fun r W h => right_any (rowT t A 0 true) r W (okT_row hok (by omega) (by omega) true) h
    cases hrr : rightT (rowT t A 0 true) with
    | false =>
      have HQ2 : Hid (timesT t A b = (zeroT, 6)) := by show _ = _; rw [HQ.out, hrr]; rfl
      rw [hrr] at krr
      clear HQ hrr
      go_wp2_with (first
        | (go_at_call 18; refine (krr _ _ (H4.out.held.bel' (bel_alloc _ _))).mono ?_; rintro _ w5 ⟨rfl, gw⟩; have I5 : Hid (TI w ⟨xk, ⟨x1, x2, x3⟩, ⟨x4, x5, x6⟩⟩ w5) := I4.out.go gw.below; have B5 : Hid (Blk w5 w4.heap.size (encT ⟨rk, ⟨ra, rn, rc⟩, rd, re, rf⟩).toArray 26) := (Blk.new _ _ _).gr gw; have H5 : Hid (HO (fun g => w3.heap.size ≤ g ∧ g < w5.heap.size) w5 (rowT t A 0 true) ⟨rk, ⟨ra, rn, rc⟩, rd, re, rf⟩) := (H4.out.bel (bel_alloc _ _)).bel gw.below; clear gw; obtain ⟨h0, h1, h2⟩ := BlkT.cs I5.out.res; have hf := I5.out.res.frozen; obtain ⟨i0, i1, i2⟩ := BlkT.cs B5.out)
        | (go_at_call 18; refine (kr _ (HT.bel HI.out.bel HX.out)).mono ?_; rintro _ w2 ⟨rfl, gw⟩; have I2 : Hid (TI w ⟨xk, ⟨x1, x2, x3⟩, ⟨x4, x5, x6⟩⟩ w2) := HI.out.go gw.below; clear gw; obtain ⟨a0, a1, a2⟩ := BlkT.cs I2.out.res; have af := I2.out.res.frozen; obtain ⟨e0, e1, e2⟩ := BlkT.cs I2.out.box)
        | (go_at_call 130; refine (kp _ (HT.bel I2.out.bel HX.out)).mono ?_; rintro _ w3 ⟨⟨p, d, rfl, rfl, rfl⟩, gw⟩; have I3 : Hid (TI w ⟨xk, ⟨x1, x2, x3⟩, ⟨x4, x5, x6⟩⟩ w3) := I2.out.go gw.below; clear gw; obtain ⟨f0, f1, f2⟩ := BlkT.cs I3.out.res; have ff := I3.out.res.frozen; obtain ⟨g0, g1, g2⟩ := BlkT.cs I3.out.box)
        | (go_at_call 131; refine (krow _ (HT.bel I3.out.bel HX.out)).mono ?_; rintro _ w4 ⟨r4, rfl, ho4, bb4⟩; obtain ⟨rk, ⟨ra, rn, rc⟩, rd, re, rf⟩ := r4; have I4 : Hid (TI w ⟨xk, ⟨x1, x2, x3⟩, ⟨x4, x5, x6⟩⟩ (w4.alloc (.cells #[.int .i64 rk, .slice ra rn rc, .slice rd re rf] 26))) := (I3.out.go bb4).go (bel_alloc _ _); have H4 : Hid (HO (fun g => w3.heap.size ≤ g ∧ g < w4.heap.size) w4 (rowT t A 0 true) ⟨rk, ⟨ra, rn, rc⟩, rd, re, rf⟩) := ho4; have Z3 : Hid (w.heap.size + 1 < w3.heap.size) := I3.out.res.lt; clear ho4 bb4))
      refine bodyPost_ret (v := .tuple #[PC.v ⟨0, ⟨none, 0, 0⟩, ⟨none, 0, 0⟩⟩, .int .i64 6]) ?_ rfl (by rw [HQ2.out]; exact I5.out.zero 6 _ _ _)
      have B := blk_put3 I5.out.res ⟨0, ⟨none, 0, 0⟩, ⟨none, 0, 0⟩⟩
      simp only at B
      generalize hW7 : World.setCell _ _ _ = W7 at B ⊢
      obtain ⟨b0, b1, b2⟩ := BlkT.cs B
      simp only at b0 b1 b2
      simp [results, Tryz.results117, go_sem, b0, b1, b2]
    | true =>
      have HQ2 : Hid (timesT t A b = (rowT t A 0 true, 0)) := by show _ = _; rw [HQ.out, hrr]; rfl
      rw [hrr] at krr
      clear HQ hrr
      go_wp2_with (first
        | (go_at_call 18; refine (krr _ _ (H4.out.held.bel' (bel_alloc _ _))).mono ?_; rintro _ w5 ⟨rfl, gw⟩; have I5 : Hid (TI w ⟨xk, ⟨x1, x2, x3⟩, ⟨x4, x5, x6⟩⟩ w5) := I4.out.go gw.below; have B5 : Hid (Blk w5 w4.heap.size (encT ⟨rk, ⟨ra, rn, rc⟩, rd, re, rf⟩).toArray 26) := (Blk.new _ _ _).gr gw; have H5 : Hid (HO (fun g => w3.heap.size ≤ g ∧ g < w5.heap.size) w5 (rowT t A 0 true) ⟨rk, ⟨ra, rn, rc⟩, rd, re, rf⟩) := (H4.out.bel (bel_alloc _ _)).bel gw.below; clear gw; obtain ⟨h0, h1, h2⟩ := BlkT.cs I5.out.res; have hf := I5.out.res.frozen; obtain ⟨i0, i1, i2⟩ := BlkT.cs B5.out)
        | (go_at_call 18; refine (kr _ (HT.bel HI.out.bel HX.out)).mono ?_; rintro _ w2 ⟨rfl, gw⟩; have I2 : Hid (TI w ⟨xk, ⟨x1, x2, x3⟩, ⟨x4, x5, x6⟩⟩ w2) := HI.out.go gw.below; clear gw; obtain ⟨a0, a1, a2⟩ := BlkT.cs I2.out.res; have af := I2.out.res.frozen; obtain ⟨e0, e1, e2⟩ := BlkT.cs I2.out.box)
        | (go_at_call 130; refine (kp _ (HT.bel I2.out.bel HX.out)).mono ?_; rintro _ w3 ⟨⟨p, d, rfl, rfl, rfl⟩, gw⟩; have I3 : Hid (TI w ⟨xk, ⟨x1, x2, x3⟩, ⟨x4, x5, x6⟩⟩ w3) := I2.out.go gw.below; clear gw; obtain ⟨f0, f1, f2⟩ := BlkT.cs I3.out.res; have ff := I3.out.res.frozen; obtain ⟨g0, g1, g2⟩ := BlkT.cs I3.out.box)
        | (go_at_call 131; refine (krow _ (HT.bel I3.out.bel HX.out)).mono ?_; rintro _ w4 ⟨r4, rfl, ho4, bb4⟩; obtain ⟨rk, ⟨ra, rn, rc⟩, rd, re, rf⟩ := r4; have I4 : Hid (TI w ⟨xk, ⟨x1, x2, x3⟩, ⟨x4, x5, x6⟩⟩ (w4.alloc (.cells #[.int .i64 rk, .slice ra rn rc, .slice rd re rf] 26))) := (I3.out.go bb4).go (bel_alloc _ _); have H4 : Hid (HO (fun g => w3.heap.size ≤ g ∧ g < w4.heap.size) w4 (rowT t A 0 true) ⟨rk, ⟨ra, rn, rc⟩, rd, re, rf⟩) := ho4; have Z3 : Hid (w.heap.size + 1 < w3.heap.size) := I3.out.res.lt; clear ho4 bb4))
      refine bodyPost_ret (v := .tuple #[PC.v ⟨rk, ⟨ra, rn, rc⟩, ⟨rd, re, rf⟩⟩, .int .i64 0]) ?_ rfl (by rw [HQ2.out]; exact I5.out.one H5.out Z3.out 0 _ _ _)
      have B := blk_put3 I5.out.res ⟨rk, ⟨ra, rn, rc⟩, ⟨rd, re, rf⟩⟩
      simp only at B
      generalize hW7 : World.setCell _ _ _ = W7 at B ⊢
      obtain ⟨b0, b1, b2⟩ := BlkT.cs B
      simp only at b0 b1 b2
      simp [results, Tryz.results117, go_sem, b0, b1, b2]
  · obtain ⟨M, hM0⟩ : ∃ M : Nat, b - (A : Int) = M := ⟨(b - A).toNat, by omega⟩
    have HQ : Hid (timesT t A b = if rightT (rowT t A M false) = true then (rowT t A M false, 0) else (zeroT, 6)) := timesT_4 c2 c3 (by rw [if_neg c4]; omega) (by simp; omega)
    have c6 : decide (b < A) = false := by simp; omega
    have c7 : 0 ≤ b := by omega
    have c8 : decide (b < 0) = false := by simp; omega
    clear c4 c3
    clear c2
    by_cases d1 : (200 : Int) / size t < A
    · have HQ2 : Hid (timesT t A b = (zeroT, 6)) := by show _ = _; rw [HQ.out, if_neg (by rw [row_great1 (by rw [← HD3.out]; have := HD.out; omega)]; decide)]
      clear HQ
      go_wp2_with (first
        | (go_at_call 18; refine (kr _ (HT.bel HI.out.bel HX.out)).mono ?_; rintro _ w2 ⟨rfl, gw⟩; have I2 : Hid (TI w ⟨xk, ⟨x1, x2, x3⟩, ⟨x4, x5, x6⟩⟩ w2) := HI.out.go gw.below; clear gw; obtain ⟨a0, a1, a2⟩ := BlkT.cs I2.out.res; have af := I2.out.res.frozen; obtain ⟨e0, e1, e2⟩ := BlkT.cs I2.out.box)
        | (go_at_call 130; refine (kp _ (HT.bel I2.out.bel HX.out)).mono ?_; rintro _ w3 ⟨⟨p, d, rfl, rfl, rfl⟩, gw⟩; have I3 : Hid (TI w ⟨xk, ⟨x1, x2, x3⟩, ⟨x4, x5, x6⟩⟩ w3) := I2.out.go gw.below; clear gw; obtain ⟨f0, f1, f2⟩ := BlkT.cs I3.out.res; have ff := I3.out.res.frozen; obtain ⟨g0, g1, g2⟩ := BlkT.cs I3.out.box))
      refine bodyPost_ret (v := .tuple #[PC.v ⟨0, ⟨none, 0, 0⟩, ⟨none, 0, 0⟩⟩, .int .i64 6]) ?_ rfl (by rw [HQ2.out]; exact I3.out.zero 6 _ _ _)
      have B := blk_put3 I3.out.res ⟨0, ⟨none, 0, 0⟩, ⟨none, 0, 0⟩⟩
      simp only at B
      generalize hW7 : World.setCell _ _ _ = W7 at B ⊢
      obtain ⟨b0, b1, b2⟩ := BlkT.cs B
      simp only at b0 b1 b2
      simp [results, Tryz.results117, go_sem, b0, b1, b2]
    by_cases d2 : (200 : Int) / size t < M
    · have HQ2 : Hid (timesT t A b = (zeroT, 6)) := by show _ = _; rw [HQ.out, if_neg (by rw [row_great2 (by rw [← HD3.out]; have := HD.out; omega)]; decide)]
      clear HQ
      go_wp2_with (first
        | (go_at_call 18; refine (kr _ (HT.bel HI.out.bel HX.out)).mono ?_; rintro _ w2 ⟨rfl, gw⟩; have I2 : Hid (TI w ⟨xk, ⟨x1, x2, x3⟩, ⟨x4, x5, x6⟩⟩ w2) := HI.out.go gw.below; clear gw; obtain ⟨a0, a1, a2⟩ := BlkT.cs I2.out.res; have af := I2.out.res.frozen; obtain ⟨e0, e1, e2⟩ := BlkT.cs I2.out.box)
        | (go_at_call 130; refine (kp _ (HT.bel I2.out.bel HX.out)).mono ?_; rintro _ w3 ⟨⟨p, d, rfl, rfl, rfl⟩, gw⟩; have I3 : Hid (TI w ⟨xk, ⟨x1, x2, x3⟩, ⟨x4, x5, x6⟩⟩ w3) := I2.out.go gw.below; clear gw; obtain ⟨f0, f1, f2⟩ := BlkT.cs I3.out.res; have ff := I3.out.res.frozen; obtain ⟨g0, g1, g2⟩ := BlkT.cs I3.out.box))
      refine bodyPost_ret (v := .tuple #[PC.v ⟨0, ⟨none, 0, 0⟩, ⟨none, 0, 0⟩⟩, .int .i64 6]) ?_ rfl (by rw [HQ2.out]; exact I3.out.zero 6 _ _ _)
      have B := blk_put3 I3.out.res ⟨0, ⟨none, 0, 0⟩, ⟨none, 0, 0⟩⟩
      simp only at B
      generalize hW7 : World.setCell _ _ _ = W7 at B ⊢
      obtain ⟨b0, b1, b2⟩ := BlkT.cs B
      simp only at b0 b1 b2
      simp [results, Tryz.results117, go_sem, b0, b1, b2]
    have hA : A ≤ 200 := by have := HD.out; have := HD2.out; omega
    have hM : M ≤ 200 := by have := HD.out; have := HD2.out; omega
    have krow := fun W h => row_any t ⟨xk, ⟨x1, x2, x3⟩, ⟨x4, x5, x6⟩⟩ A M false W (by omega) hok h (by omega) (by omega)
    have krr := fun r W h => right_any (rowT t A M false) r W (okT_row hok (by omega) (by omega) false) h
    cases hrr : rightT (rowT t A M false) with
    | false =>
      have HQ2 : Hid (timesT t A b = (zeroT, 6)) := by show _ = _; rw [HQ.out, hrr]; rfl
      rw [hrr] at krr
      clear HQ hrr
      go_wp2_with (first
        | (go_at_call 18; refine (krr _ _ (H4.out.held.bel' (bel_alloc _ _))).mono ?_; rintro _ w5 ⟨rfl, gw⟩; have I5 : Hid (TI w ⟨xk, ⟨x1, x2, x3⟩, ⟨x4, x5, x6⟩⟩ w5) := I4.out.go gw.below; have B5 : Hid (Blk w5 w4.heap.size (encT ⟨rk, ⟨ra, rn, rc⟩, rd, re, rf⟩).toArray 26) := (Blk.new _ _ _).gr gw; have H5 : Hid (HO (fun g => w3.heap.size ≤ g ∧ g < w5.heap.size) w5 (rowT t A M false) ⟨rk, ⟨ra, rn, rc⟩, rd, re, rf⟩) := (H4.out.bel (bel_alloc _ _)).bel gw.below; clear gw; obtain ⟨h0, h1, h2⟩ := BlkT.cs I5.out.res; have hf := I5.out.res.frozen; obtain ⟨i0, i1, i2⟩ := BlkT.cs B5.out)
        | (go_at_call 18; refine (kr _ (HT.bel HI.out.bel HX.out)).mono ?_; rintro _ w2 ⟨rfl, gw⟩; have I2 : Hid (TI w ⟨xk, ⟨x1, x2, x3⟩, ⟨x4, x5, x6⟩⟩ w2) := HI.out.go gw.below; clear gw; obtain ⟨a0, a1, a2⟩ := BlkT.cs I2.out.res; have af := I2.out.res.frozen; obtain ⟨e0, e1, e2⟩ := BlkT.cs I2.out.box)
        | (go_at_call 130; refine (kp _ (HT.bel I2.out.bel HX.out)).mono ?_; rintro _ w3 ⟨⟨p, d, rfl, rfl, rfl⟩, gw⟩; have I3 : Hid (TI w ⟨xk, ⟨x1, x2, x3⟩, ⟨x4, x5, x6⟩⟩ w3) := I2.out.go gw.below; clear gw; obtain ⟨f0, f1, f2⟩ := BlkT.cs I3.out.res; have ff := I3.out.res.frozen; obtain ⟨g0, g1, g2⟩ := BlkT.cs I3.out.box)
        | (go_at_call 131; refine (krow _ (HT.bel I3.out.bel HX.out)).mono ?_; rintro _ w4 ⟨r4, rfl, ho4, bb4⟩; obtain ⟨rk, ⟨ra, rn, rc⟩, rd, re, rf⟩ := r4; have I4 : Hid (TI w ⟨xk, ⟨x1, x2, x3⟩, ⟨x4, x5, x6⟩⟩ (w4.alloc (.cells #[.int .i64 rk, .slice ra rn rc, .slice rd re rf] 26))) := (I3.out.go bb4).go (bel_alloc _ _); have H4 : Hid (HO (fun g => w3.heap.size ≤ g ∧ g < w4.heap.size) w4 (rowT t A M false) ⟨rk, ⟨ra, rn, rc⟩, rd, re, rf⟩) := ho4; have Z3 : Hid (w.heap.size + 1 < w3.heap.size) := I3.out.res.lt; clear ho4 bb4))
      refine bodyPost_ret (v := .tuple #[PC.v ⟨0, ⟨none, 0, 0⟩, ⟨none, 0, 0⟩⟩, .int .i64 6]) ?_ rfl (by rw [HQ2.out]; exact I5.out.zero 6 _ _ _)
      have B := blk_put3 I5.out.res ⟨0, ⟨none, 0, 0⟩, ⟨none, 0, 0⟩⟩
      simp only at B
      generalize hW7 : World.setCell _ _ _ = W7 at B ⊢
      obtain ⟨b0, b1, b2⟩ := BlkT.cs B
      simp only at b0 b1 b2
      simp [results, Tryz.results117, go_sem, b0, b1, b2]
    | true =>
      have HQ2 : Hid (timesT t A b = (rowT t A M false, 0)) := by show _ = _; rw [HQ.out, hrr]; rfl
      rw [hrr] at krr
      clear HQ hrr
      go_wp2_with (first
        | (go_at_call 18; refine (krr _ _ (H4.out.held.bel' (bel_alloc _ _))).mono ?_; rintro _ w5 ⟨rfl, gw⟩; have I5 : Hid (TI w ⟨xk, ⟨x1, x2, x3⟩, ⟨x4, x5, x6⟩⟩ w5) := I4.out.go gw.below; have B5 : Hid (Blk w5 w4.heap.size (encT ⟨rk, ⟨ra, rn, rc⟩, rd, re, rf⟩).toArray 26) := (Blk.new _ _ _).gr gw; have H5 : Hid (HO (fun g => w3.heap.size ≤ g ∧ g < w5.heap.size) w5 (rowT t A M false) ⟨rk, ⟨ra, rn, rc⟩, rd, re, rf⟩) := (H4.out.bel (bel_alloc _ _)).bel gw.below; clear gw; obtain ⟨h0, h1, h2⟩ := BlkT.cs I5.out.res; have hf := I5.out.res.frozen; obtain ⟨i0, i1, i2⟩ := BlkT.cs B5.out)
        | (go_at_call 18; refine (kr _ (HT.bel HI.out.bel HX.out)).mono ?_; rintro _ w2 ⟨rfl, gw⟩; have I2 : Hid (TI w ⟨xk, ⟨x1, x2, x3⟩, ⟨x4, x5, x6⟩⟩ w2) := HI.out.go gw.below; clear gw; obtain ⟨a0, a1, a2⟩ := BlkT.cs I2.out.res; have af := I2.out.res.frozen; obtain ⟨e0, e1, e2⟩ := BlkT.cs I2.out.box)
        | (go_at_call 130; refine (kp _ (HT.bel I2.out.bel HX.out)).mono ?_; rintro _ w3 ⟨⟨p, d, rfl, rfl, rfl⟩, gw⟩; have I3 : Hid (TI w ⟨xk, ⟨x1, x2, x3⟩, ⟨x4, x5, x6⟩⟩ w3) := I2.out.go gw.below; clear gw; obtain ⟨f0, f1, f2⟩ := BlkT.cs I3.out.res; have ff := I3.out.res.frozen; obtain ⟨g0, g1, g2⟩ := BlkT.cs I3.out.box)
        | (go_at_call 131; refine (krow _ (HT.bel I3.out.bel HX.out)).mono ?_; rintro _ w4 ⟨r4, rfl, ho4, bb4⟩; obtain ⟨rk, ⟨ra, rn, rc⟩, rd, re, rf⟩ := r4; have I4 : Hid (TI w ⟨xk, ⟨x1, x2, x3⟩, ⟨x4, x5, x6⟩⟩ (w4.alloc (.cells #[.int .i64 rk, .slice ra rn rc, .slice rd re rf] 26))) := (I3.out.go bb4).go (bel_alloc _ _); have H4 : Hid (HO (fun g => w3.heap.size ≤ g ∧ g < w4.heap.size) w4 (rowT t A M false) ⟨rk, ⟨ra, rn, rc⟩, rd, re, rf⟩) := ho4; have Z3 : Hid (w.heap.size + 1 < w3.heap.size) := I3.out.res.lt; clear ho4 bb4))
      refine bodyPost_ret (v := .tuple #[PC.v ⟨rk, ⟨ra, rn, rc⟩, ⟨rd, re, rf⟩⟩, .int .i64 0]) ?_ rfl (by rw [HQ2.out]; exact I5.out.one H5.out Z3.out 0 _ _ _)
      have B := blk_put3 I5.out.res ⟨rk, ⟨ra, rn, rc⟩, ⟨rd, re, rf⟩⟩
      simp only at B
      generalize hW7 : World.setCell _ _ _ = W7 at B ⊢
      obtain ⟨b0, b1, b2⟩ := BlkT.cs B
      simp only at b0 b1 b2
      simp [results, Tryz.results117, go_sem, b0, b1, b2]

end Go.Proofs.YtjjlkjfhhpogaaaGreatDoor
