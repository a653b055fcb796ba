/-
  The walk of the document's Done.
-/
import Derived.Test.YtnohkbdmnalmcaaGreatDoorZm
namespace Go.Proofs.YtnohkbdmnalmcaaGreatDoor
open Go.RowKit

/-- The error's number behind all that was read. -/
def doneK (s : ByteArray) (i : Nat) (wr ou fu : Bool) : Int := if (wr || decide (i < s.size)) = true then 4 else if ou = true then 5 else if fu = true then 6 else 0
def PostDn (x : PC) (k : Int) (w : World) (e : Ending) (w' : World) : Prop :=
  ∃ r : PC, e = .returned (.tuple #[r.v, .int .i64 k]) ∧ (k = 0 → r = x) ∧ (k ≠ 0 → r = ⟨0, ⟨none, 0, 0⟩, ⟨none, 0, 0⟩⟩) ∧ Below w.heap.size w w'

set_option maxRecDepth 100000 in
set_option maxHeartbeats 4000000 in
theorem doneQ_any {s : ByteArray} {b i : Nat} {wr ou fu : Bool} {t : Tree} {x : PC} {w : World} (hb : BlkQ w b s i wr ou fu) (hi : i ≤ s.size) (hr : rightT t = true) (hx : HT w t x) :
    Calls Tryz.prog 32 #[.pointer (some ⟨b, 0, none⟩), x.v] w fun e w' => PostDn x (doneK s i wr ou fu) w e w' := by
  have hmx : Tryz.prog.follows .mixedOrders = true := by kernel_rfl
  have kr := fun W h => rright_any t x W (ok_right hr) h
  rw [hr] at kr
  have HX : Hid (HT w t x) := hx
  have HB : Hid (BlkQ w b s i wr ou fu) := hb
  have HI : Hid _ := KQ.start w x
  obtain ⟨xk, ⟨x1, x2, x3⟩, x4, x5, x6⟩ := x
  simp only at HI
  have hlt := hb.lt
  clear hb hx hr
  cases wr with
  | true =>
    rw [show doneK s i true ou fu = 4 from rfl]
    go_enter Tryz.func32, Tryz.ntmps32
    go_upto_region 1 with fail
    generalize hW : World.alloc _ _ = W0 at HI
    clear hW
    have B0 : Hid (BlkQ W0 b s i true ou fu) := HB.out.bel HI.out.bel
    have c0 := fun n os => (B0.out.grow n os).c 0
    have c1 := fun n os => (B0.out.grow n os).c 1
    have c2 := fun n os => (B0.out.grow n os).c 2
    simp at c0 c1 c2
    have bl := B0.out.lt
    refine wp_region_quiet_grownB (by assumption) (by kernel_rfl) ?_
    repeat (refine wpQuiet_stepB (fun K hK => ?_); go_simp; first | (refine hK _ ?_; clear hK K) | (apply Exists.intro; refine ⟨fun _ => ?_, hK _ ?_⟩; fail; clear hK K))
    refine wpQuiet_nilB ?_
    intro _ hw'
    obtain ⟨⟨nq, osq⟩, hw''⟩ := hw'
    subst hw''
    clear c0 c1 c2 bl
    have I2 : Hid (KQ w ⟨xk, ⟨x1, x2, x3⟩, ⟨x4, x5, x6⟩⟩ (Sort.grow (W0.drewN nq) osq)) := HI.out.go (Gr.below ⟨nq, osq, rfl⟩)
    generalize Sort.grow (W0.drewN nq) osq = W2 at I2 ⊢
    clear B0 HI
    have B2 : Hid (BlkQ W2 b s i true ou fu) := HB.out.bel I2.out.bel
    obtain ⟨m0, m1, m2⟩ := BlkT.cs I2.out.box
    simp only at m0 m1 m2
    obtain ⟨y0, y1, y2⟩ := BlkT.cs I2.out.res
    have z0 := I2.out.res.frozen
    have c3 := B2.out.c 3
    have c4 := B2.out.c 4
    simp at c3 c4
    go_wp2_with fail
    refine bodyPost_ret (v := .tuple #[PC.v ⟨0, ⟨none, 0, 0⟩, ⟨none, 0, 0⟩⟩, .int .i64 4]) ?_ rfl ⟨_, rfl, (fun h => by cases h), fun _ => rfl, set3_bel I2.out.bel (by omega) _ _ _⟩
    have B := blk_put3 I2.out.res ⟨0, ⟨none, 0, 0⟩, ⟨none, 0, 0⟩⟩
    simp only at B
    generalize hW7 : World.setCell _ _ _ = W7 at B ⊢
    obtain ⟨b0, b1, b2⟩ := BlkT.cs B
    simp only at b0 b1 b2
    simp [results, Tryz.results32, go_sem, b0, b1, b2]
  | false =>
  by_cases hlt2 : i < s.size
  · rw [show doneK s i false ou fu = 4 by unfold doneK; simp [hlt2]]
    have e1 : (i : Int) < (s.size : Int) := by omega
    go_enter Tryz.func32, Tryz.ntmps32
    go_upto_region 1 with fail
    generalize hW : World.alloc _ _ = W0 at HI
    clear hW
    have B0 : Hid (BlkQ W0 b s i false ou fu) := HB.out.bel HI.out.bel
    have c0 := fun n os => (B0.out.grow n os).c 0
    have c1 := fun n os => (B0.out.grow n os).c 1
    have c2 := fun n os => (B0.out.grow n os).c 2
    simp at c0 c1 c2
    have bl := B0.out.lt
    refine wp_region_quiet_grownB (by assumption) (by kernel_rfl) ?_
    repeat (refine wpQuiet_stepB (fun K hK => ?_); go_simp; first | (refine hK _ ?_; clear hK K) | (apply Exists.intro; refine ⟨fun _ => ?_, hK _ ?_⟩; fail; clear hK K))
    refine wpQuiet_nilB ?_
    intro _ hw'
    obtain ⟨⟨nq, osq⟩, hw''⟩ := hw'
    subst hw''
    clear c0 c1 c2 bl
    have I2 : Hid (KQ w ⟨xk, ⟨x1, x2, x3⟩, ⟨x4, x5, x6⟩⟩ (Sort.grow (W0.drewN nq) osq)) := HI.out.go (Gr.below ⟨nq, osq, rfl⟩)
    generalize Sort.grow (W0.drewN nq) osq = W2 at I2 ⊢
    clear B0 HI
    have B2 : Hid (BlkQ W2 b s i false ou fu) := HB.out.bel I2.out.bel
    obtain ⟨m0, m1, m2⟩ := BlkT.cs I2.out.box
    simp only at m0 m1 m2
    obtain ⟨y0, y1, y2⟩ := BlkT.cs I2.out.res
    have z0 := I2.out.res.frozen
    have c3 := B2.out.c 3
    have c4 := B2.out.c 4
    simp at c3 c4
    go_wp2_with fail
    refine bodyPost_ret (v := .tuple #[PC.v ⟨0, ⟨none, 0, 0⟩, ⟨none, 0, 0⟩⟩, .int .i64 4]) ?_ rfl ⟨_, rfl, (fun h => by cases h), fun _ => rfl, set3_bel I2.out.bel (by omega) _ _ _⟩
    have B := blk_put3 I2.out.res ⟨0, ⟨none, 0, 0⟩, ⟨none, 0, 0⟩⟩
    simp only at B
    generalize hW7 : World.setCell _ _ _ = W7 at B ⊢
    obtain ⟨b0, b1, b2⟩ := BlkT.cs B
    simp only at b0 b1 b2
    simp [results, Tryz.results32, go_sem, b0, b1, b2]
  have e1 : decide ((i : Int) < (s.size : Int)) = false := by simp; omega
  have e1n : decide (i < s.size) = false := by simp; omega
  cases ou with
  | true =>
    rw [show doneK s i false true fu = 5 by unfold doneK; simp [hlt2]]
    clear hlt2
    go_enter Tryz.func32, Tryz.ntmps32
    go_upto_region 1 with fail
    generalize hW : World.alloc _ _ = W0 at HI
    clear hW
    have B0 : Hid (BlkQ W0 b s i false true fu) := HB.out.bel HI.out.bel
    have c0 := fun n os => (B0.out.grow n os).c 0
    have c1 := fun n os => (B0.out.grow n os).c 1
    have c2 := fun n os => (B0.out.grow n os).c 2
    simp at c0 c1 c2
    have bl := B0.out.lt
    refine wp_region_quiet_grownB (by assumption) (by kernel_rfl) ?_
    repeat (refine wpQuiet_stepB (fun K hK => ?_); go_simp; first | (refine hK _ ?_; clear hK K) | (apply Exists.intro; refine ⟨fun _ => ?_, hK _ ?_⟩; fail; clear hK K))
    refine wpQuiet_nilB ?_
    intro _ hw'
    obtain ⟨⟨nq, osq⟩, hw''⟩ := hw'
    subst hw''
    clear c0 c1 c2 bl
    have I2 : Hid (KQ w ⟨xk, ⟨x1, x2, x3⟩, ⟨x4, x5, x6⟩⟩ (Sort.grow (W0.drewN nq) osq)) := HI.out.go (Gr.below ⟨nq, osq, rfl⟩)
    generalize Sort.grow (W0.drewN nq) osq = W2 at I2 ⊢
    clear B0 HI
    have B2 : Hid (BlkQ W2 b s i false true fu) := HB.out.bel I2.out.bel
    obtain ⟨m0, m1, m2⟩ := BlkT.cs I2.out.box
    simp only at m0 m1 m2
    obtain ⟨y0, y1, y2⟩ := BlkT.cs I2.out.res
    have z0 := I2.out.res.frozen
    have c3 := B2.out.c 3
    have c4 := B2.out.c 4
    simp at c3 c4
    go_wp2_with fail
    refine bodyPost_ret (v := .tuple #[PC.v ⟨0, ⟨none, 0, 0⟩, ⟨none, 0, 0⟩⟩, .int .i64 5]) ?_ rfl ⟨_, rfl, (fun h => by cases h), fun _ => rfl, set3_bel I2.out.bel (by omega) _ _ _⟩
    have B := blk_put3 I2.out.res ⟨0, ⟨none, 0, 0⟩, ⟨none, 0, 0⟩⟩
    simp only at B
    generalize hW7 : World.setCell _ _ _ = W7 at B ⊢
    obtain ⟨b0, b1, b2⟩ := BlkT.cs B
    simp only at b0 b1 b2
    simp [results, Tryz.results32, go_sem, b0, b1, b2]
  | false =>
  cases fu with
  | true =>
    rw [show doneK s i false false true = 6 by unfold doneK; simp [hlt2]]
    clear hlt2
    go_enter Tryz.func32, Tryz.ntmps32
    go_upto_region 1 with fail
    generalize hW : World.alloc _ _ = W0 at HI
    clear hW
    have B0 : Hid (BlkQ W0 b s i false false true) := HB.out.bel HI.out.bel
    have c0 := fun n os => (B0.out.grow n os).c 0
    have c1 := fun n os => (B0.out.grow n os).c 1
    have c2 := fun n os => (B0.out.grow n os).c 2
    simp at c0 c1 c2
    have bl := B0.out.lt
    refine wp_region_quiet_grownB (by assumption) (by kernel_rfl) ?_
    repeat (refine wpQuiet_stepB (fun K hK => ?_); go_simp; first | (refine hK _ ?_; clear hK K) | (apply Exists.intro; refine ⟨fun _ => ?_, hK _ ?_⟩; fail; clear hK K))
    refine wpQuiet_nilB ?_
    intro _ hw'
    obtain ⟨⟨nq, osq⟩, hw''⟩ := hw'
    subst hw''
    clear c0 c1 c2 bl
    have I2 : Hid (KQ w ⟨xk, ⟨x1, x2, x3⟩, ⟨x4, x5, x6⟩⟩ (Sort.grow (W0.drewN nq) osq)) := HI.out.go (Gr.below ⟨nq, osq, rfl⟩)
    generalize Sort.grow (W0.drewN nq) osq = W2 at I2 ⊢
    clear B0 HI
    have B2 : Hid (BlkQ W2 b s i false false true) := HB.out.bel I2.out.bel
    obtain ⟨m0, m1, m2⟩ := BlkT.cs I2.out.box
    simp only at m0 m1 m2
    obtain ⟨y0, y1, y2⟩ := BlkT.cs I2.out.res
    have z0 := I2.out.res.frozen
    have c3 := B2.out.c 3
    have c4 := B2.out.c 4
    simp at c3 c4
    go_wp2_with fail
    refine bodyPost_ret (v := .tuple #[PC.v ⟨0, ⟨none, 0, 0⟩, ⟨none, 0, 0⟩⟩, .int .i64 6]) ?_ rfl ⟨_, rfl, (fun h => by cases h), fun _ => rfl, set3_bel I2.out.bel (by omega) _ _ _⟩
    have B := blk_put3 I2.out.res ⟨0, ⟨none, 0, 0⟩, ⟨none, 0, 0⟩⟩
    simp only at B
    generalize hW7 : World.setCell _ _ _ = W7 at B ⊢
    obtain ⟨b0, b1, b2⟩ := BlkT.cs B
    simp only at b0 b1 b2
    simp [results, Tryz.results32, go_sem, b0, b1, b2]
  | false =>
    rw [show doneK s i false false false = 0 by unfold doneK; simp [hlt2]]
    clear hlt2
    go_enter Tryz.func32, Tryz.ntmps32
    go_upto_region 1 with fail
    generalize hW : World.alloc _ _ = W0 at HI
    clear hW
    have B0 : Hid (BlkQ W0 b s i false false false) := HB.out.bel HI.out.bel
    have c0 := fun n os => (B0.out.grow n os).c 0
    have c1 := fun n os => (B0.out.grow n os).c 1
    have c2 := fun n os => (B0.out.grow n os).c 2
    simp at c0 c1 c2
    have bl := B0.out.lt
    refine wp_region_quiet_grownB (by assumption) (by kernel_rfl) ?_
    repeat (refine wpQuiet_stepB (fun K hK => ?_); go_simp; first | (refine hK _ ?_; clear hK K) | (apply Exists.intro; refine ⟨fun _ => ?_, hK _ ?_⟩; fail; clear hK K))
    refine wpQuiet_nilB ?_
    intro _ hw'
    obtain ⟨⟨nq, osq⟩, hw''⟩ := hw'
    subst hw''
    clear c0 c1 c2 bl
    have I2 : Hid (KQ w ⟨xk, ⟨x1, x2, x3⟩, ⟨x4, x5, x6⟩⟩ (Sort.grow (W0.drewN nq) osq)) := HI.out.go (Gr.below ⟨nq, osq, rfl⟩)
    generalize Sort.grow (W0.drewN nq) osq = W2 at I2 ⊢
    clear B0 HI
    have B2 : Hid (BlkQ W2 b s i false false false) := HB.out.bel I2.out.bel
    obtain ⟨m0, m1, m2⟩ := BlkT.cs I2.out.box
    simp only at m0 m1 m2
    obtain ⟨y0, y1, y2⟩ := BlkT.cs I2.out.res
    have z0 := I2.out.res.frozen
    have c3 := B2.out.c 3
    have c4 := B2.out.c 4
    simp at c3 c4
    go_wp2_with (go_at_call 37; refine (kr _ (HT.bel I2.out.bel HX.out)).mono ?_; rintro _ w5 ⟨rfl, gw⟩; have I5 : Hid (KQ w ⟨xk, ⟨x1, x2, x3⟩, ⟨x4, x5, x6⟩⟩ w5) := I2.out.go gw.below; clear gw m0 m1 m2 y0 y1 y2 z0; obtain ⟨m0, m1, m2⟩ := BlkT.cs I5.out.box; simp only at m0 m1 m2; obtain ⟨y0, y1, y2⟩ := BlkT.cs I5.out.res; have z0 := I5.out.res.frozen)
    refine bodyPost_ret (v := .tuple #[PC.v ⟨xk, ⟨x1, x2, x3⟩, ⟨x4, x5, x6⟩⟩, .int .i64 0]) ?_ rfl ⟨_, rfl, (fun _ => rfl), fun h => absurd rfl h, set3_bel I5.out.bel (by omega) _ _ _⟩
    have B := blk_put3 I5.out.res ⟨xk, ⟨x1, x2, x3⟩, ⟨x4, x5, x6⟩⟩
    simp only at B
    generalize hW7 : World.setCell _ _ _ = W7 at B ⊢
    obtain ⟨b0, b1, b2⟩ := BlkT.cs B
    simp only at b0 b1 b2
    simp [results, Tryz.results32, go_sem, b0, b1, b2]
end Go.Proofs.YtnohkbdmnalmcaaGreatDoor
