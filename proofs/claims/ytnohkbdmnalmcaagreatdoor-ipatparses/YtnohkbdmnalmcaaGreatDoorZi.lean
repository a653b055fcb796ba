/-
  The walk of the document's item.
-/
import Derived.Test.YtnohkbdmnalmcaaGreatDoorZa
namespace Go.Proofs.YtnohkbdmnalmcaaGreatDoor
open Go.RowKit

theorem IQ.bel {s : ByteArray} {b : Nat} {w : World} {b3 i : Nat} {wr ou fu : Bool} {t : Tree} {x : PC} {W W' : World} (h : IQ s b w b3 i wr ou fu t x W) (g : Below W.heap.size W W') : IQ s b w b3 i wr ou fu t x W' := h.go (.of_bel g) (h.ax.rd.bel g) h.le

set_option maxRecDepth 100000 in
set_option maxHeartbeats 8000000 in
theorem qitem_any {s : ByteArray} {b n : Nat} {alt : Bs → Option Rd} (hs : s.size ≤ 3000) (ka : CQ s b 84 false (atomM alt) n) : CQ s b 69 false (itemM alt) n := by
  intro i wr ou fu w hi hlim hb
  have HA := AQ.start hb
  have HKA := ka i wr ou fu _ hi hlim HA.rd
  have kN : ∀ (c : UInt8) (b3 j : Nat) (wr' ou' fu' : Bool) (t : Tree) (x : PC) (W : World), headIs c (s.data.toList.drop j) = false → IQ s b w b3 j wr' ou' fu' t x W → Calls Tryz.prog 28 #[.pointer (some ⟨b, 0, none⟩), .int .u8 c.toNat] W fun e w' => e = .returned (.bool false) ∧ IQ s b w b3 j wr' ou' fu' t x w' := fun c b3 j wr' ou' fu' t x W h a => (take_no a.le a.ax.rd h).mono fun _ _ h => ⟨h.1, a.go (.of_gr h.2) (a.ax.rd.gr h.2) a.le⟩
  have kY : ∀ (c : UInt8) (b3 j : Nat) (wr' ou' fu' : Bool) (t : Tree) (x : PC) (W : World), headIs c (s.data.toList.drop j) = true → IQ s b w b3 j wr' ou' fu' t x W → Calls Tryz.prog 28 #[.pointer (some ⟨b, 0, none⟩), .int .u8 c.toNat] W fun e w' => e = .returned (.bool true) ∧ IQ s b w b3 (j + 1) wr' ou' fu' t x w' := fun c b3 j wr' ou' fu' t x W h a => (take_yes hs a.ax.rd h).mono fun _ _ h' => ⟨h'.1, a.go h'.2.1 h'.2.2 (headIs_drop h).2⟩
  generalize hW : w.alloc (.cells #[.int .i64 0, .slice none 0 0, .slice none 0 0] 26) = W0 at HA HKA
  have HI : Hid (AQ s b w i wr ou fu W0) := HA
  clear hb HA hi hs ka hlim
  go_enter Tryz.func69, Tryz.ntmps69
  go_upto_region 1 with fail
  clear hW
  go_wp2_with (go_at_call 84; refine HKA.mono ?_; rintro _ w4 ⟨⟨r0, ⟨r1, r2, r3⟩, r4, r5, r6⟩, t4, i4, wr4, ou4, fu4, rfl, ho4, hk4, ex4, b4, le4, le5, d4⟩; have I4 : Hid (IQ s b w w4.heap.size i4 wr4 ou4 fu4 t4 ⟨r0, ⟨r1, r2, r3⟩, r4, r5, r6⟩ (w4.alloc (.cells #[.int .i64 r0, .slice r1 r2 r3, .slice r4 r5 r6] 26))) := IQ.start (HI.out.go ex4 b4) (ho4.low (by have := HI.out.res.lt; omega)) hk4 le5; have D4 : Hid (SignQ s wr ou fu (itemM alt (s.data.toList.drop i)) t4 i4 wr4 ou4 fu4) := SignQ.start d4; have L4 : Hid (i ≤ i4) := le4; clear ho4 hk4 ex4 b4 le4 le5 d4)
  generalize w4.heap.size = b3 at I4 ⊢
  go_loopw [12, 20, 28] (fun _ _ _ wr0 => ∃ (i5 : Nat) (wr5 ou5 fu5 : Bool) (t5 : Tree) (x5 : PC), Hid (IQ s b w b3 i5 wr5 ou5 fu5 t5 x5 wr0) ∧ Hid (SignQ s wr ou fu (itemM alt (s.data.toList.drop i)) t5 i5 wr5 ou5 fu5) ∧ Hid (i ≤ i5)) (fun _ _ _ wr0 => s.size - posOf b wr0)
  case atStart => exact ⟨i4, wr4, ou4, fu4, t4, _, I4, D4, L4⟩
  case round =>
    clear I4 D4 L4 HKA HI
    obtain ⟨i5, wr5, ou5, fu5, t5, ⟨q0, ⟨q1, q2, q3⟩, q4, q5, q6⟩, I5, D5, L5⟩ := hrel
    have HP : Hid (posOf b _ = i5) := posOf_blkQ I5.out.ax.rd
    have c2 := I5.out.ax.rd.c 2
    simp at c2
    cases wr5 with
    | true =>
      obtain ⟨m0, m1, m2⟩ := BlkT.cs I5.out.me
      simp only at m0 m1 m2
      obtain ⟨y0, y1, y2⟩ := BlkT.cs I5.out.ax.res
      have z0 := I5.out.ax.res.frozen
      clear kN kY
      go_wp2_with fail
      refine bodyPost_ret (v := PC.v ⟨q0, ⟨q1, q2, q3⟩, ⟨q4, q5, q6⟩⟩) ?_ rfl (I5.out.ax.fin (I5.out.ho.imp' (fun g hg => ⟨hg.1, hg.2.1⟩)) I5.out.rt L5.out I5.out.le D5.out.bad _ _ _)
      simp [results, Tryz.results69]
      have B := blk_put3 I5.out.ax.res ⟨q0, ⟨q1, q2, q3⟩, ⟨q4, q5, q6⟩⟩
      simp only at B
      generalize hW7 : World.setCell _ _ _ = W7 at B ⊢
      exact run_ptv B
    | false =>
      cases h42 : headIs 42 (s.data.toList.drop i5) with
      | true =>
        have kY42 : ∀ W, IQ s b w b3 i5 false ou5 fu5 t5 ⟨q0, ⟨q1, q2, q3⟩, q4, q5, q6⟩ W → Calls Tryz.prog 28 #[.pointer (some ⟨b, 0, none⟩), .int .u8 42] W fun e w' => e = .returned (.bool true) ∧ IQ s b w b3 (i5 + 1) false ou5 fu5 t5 ⟨q0, ⟨q1, q2, q3⟩, q4, q5, q6⟩ w' := fun W a => kY 42 _ _ _ _ _ _ _ W h42 a
        clear kN kY
        go_upto_region 5 with (first
          | (go_at_call 28; (with_reducible refine (kY42 _ I5.out).mono ?_); rintro _ w7 ⟨rfl, a2⟩; have I7 : Hid (IQ s b w b3 (i5 + 1) false ou5 fu5 t5 ⟨q0, ⟨q1, q2, q3⟩, q4, q5, q6⟩ w7) := a2; obtain ⟨m0, m1, m2⟩ := BlkT.cs I7.out.me; simp only at m0 m1 m2; have mf := I7.out.me.frozen; have ml := I7.out.me.lt; clear a2))
        have J7 : Hid (IQ s b w b3 (i5 + 1) false ou5 fu5 t5 ⟨q0, ⟨q1, q2, q3⟩, q4, q5, q6⟩ (w7.drewN 1)) := I7.out.bel (below_drewN (Below.refl _ _) 1)
        have Z7 : Hid (b3 < (w7.drewN 1).heap.size) := J7.out.me.lt
        go_region_law
          (go_simp; go_at_call 30; refine (rstar_any (P := fun g => w.heap.size + 1 ≤ g ∧ g < (w7.drewN 1).heap.size ∧ g ≠ b3) J7.out.ax.rd J7.out.rt (fun g hg => hg.2.1) J7.out.ho).mono ?_; rintro _ w9 ⟨⟨p0, ⟨p1, p2, p3⟩, p4, p5, p6⟩, rfl, ho9, ex9, b9⟩; have S9 : Hid (IQ s b w b3 (i5 + 1) false ou5 (fu5 || (keptM (stT t5)).2) (keptM (stT t5)).1 ⟨p0, ⟨p1, p2, p3⟩, p4, p5, p6⟩ (((w9.setCell ⟨b3, 0, none⟩ (.int .i64 p0)).setCell ⟨b3, 1, none⟩ (.slice p1 p2 p3)).setCell ⟨b3, 2, none⟩ (.slice p4 p5 p6))) := J7.out.step ex9 b9 (ho9.imp' (fun g hg => (by have h1 := ex9.size; have h2 := Z7.out; have h3 := J7.out.hb3; omega))) (right_kept _); have M9 : Hid (Blk w9 b3 (encT ⟨q0, ⟨q1, q2, q3⟩, q4, q5, q6⟩).toArray 26) := Blk.ex ex9 J7.out.me (by have := J7.out.ax.lt; have := J7.out.hb3; omega); obtain ⟨n0, n1, n2⟩ := BlkT.cs M9.out; simp only at n0 n1 n2; have nf := M9.out.frozen; clear ho9 ex9 b9)
        all_goals
          have S10' := S9.out
          generalize hW10 : World.setCell _ _ _ = W10 at S10' ⊢
          have S10 : Hid (IQ s b w b3 (i5 + 1) false ou5 (fu5 || (keptM (stT t5)).2) (keptM (stT t5)).1 ⟨p0, ⟨p1, p2, p3⟩, p4, p5, p6⟩ W10) := S10'
          clear hW10 S9 S10' n0 n1 n2 nf M9 m0 m1 m2 mf
          go_wp2_with fail
          go_roundw
          case rel => exact ⟨i5 + 1, false, ou5, _, _, _, S10, SignQ.step (c := 42) (F := stT) signs_42 D5.out h42 rfl (fun _ => rfl), by have := L5.out; exact (by omega : i ≤ i5 + 1)⟩
          case measure => rw [posOf_blkQ S10.out.ax.rd, HP.out]; have := (headIs_drop h42).2; omega
      | false =>
      cases h43 : headIs 43 (s.data.toList.drop i5) with
      | true =>
        have kN42 : ∀ W, IQ s b w b3 i5 false ou5 fu5 t5 ⟨q0, ⟨q1, q2, q3⟩, q4, q5, q6⟩ W → Calls Tryz.prog 28 #[.pointer (some ⟨b, 0, none⟩), .int .u8 42] W fun e w' => e = .returned (.bool false) ∧ IQ s b w b3 i5 false ou5 fu5 t5 ⟨q0, ⟨q1, q2, q3⟩, q4, q5, q6⟩ w' := fun W a => kN 42 _ _ _ _ _ _ _ W h42 a
        have kY43 : ∀ W, IQ s b w b3 i5 false ou5 fu5 t5 ⟨q0, ⟨q1, q2, q3⟩, q4, q5, q6⟩ W → Calls Tryz.prog 28 #[.pointer (some ⟨b, 0, none⟩), .int .u8 43] W fun e w' => e = .returned (.bool true) ∧ IQ s b w b3 (i5 + 1) false ou5 fu5 t5 ⟨q0, ⟨q1, q2, q3⟩, q4, q5, q6⟩ w' := fun W a => kY 43 _ _ _ _ _ _ _ W h43 a
        clear kN kY
        go_upto_region 7 with (first
          | (go_at_call 28; (with_reducible refine (kN42 _ I5.out).mono ?_); rintro _ w8 ⟨rfl, a2⟩; have I8 : Hid (IQ s b w b3 i5 false ou5 fu5 t5 ⟨q0, ⟨q1, q2, q3⟩, q4, q5, q6⟩ w8) := a2; obtain ⟨m0, m1, m2⟩ := BlkT.cs I8.out.me; simp only at m0 m1 m2; clear a2)
          | (go_at_call 28; (with_reducible refine (kY43 _ I8.out).mono ?_); rintro _ w7 ⟨rfl, a2⟩; have I7 : Hid (IQ s b w b3 (i5 + 1) false ou5 fu5 t5 ⟨q0, ⟨q1, q2, q3⟩, q4, q5, q6⟩ w7) := a2; obtain ⟨m0, m1, m2⟩ := BlkT.cs I7.out.me; simp only at m0 m1 m2; have mf := I7.out.me.frozen; have ml := I7.out.me.lt; clear a2))
        have J7 : Hid (IQ s b w b3 (i5 + 1) false ou5 fu5 t5 ⟨q0, ⟨q1, q2, q3⟩, q4, q5, q6⟩ (w7.drewN 1)) := I7.out.bel (below_drewN (Below.refl _ _) 1)
        have Z7 : Hid (b3 < (w7.drewN 1).heap.size) := J7.out.me.lt
        go_region_law
          (go_simp; go_at_call 85; refine (rplus_any (P := fun g => w.heap.size + 1 ≤ g ∧ g < (w7.drewN 1).heap.size ∧ g ≠ b3) J7.out.ax.rd J7.out.rt (fun g hg => ⟨hg.2.1, by have := J7.out.ax.lt; omega⟩) J7.out.ho).mono ?_; rintro _ w9 ⟨⟨p0, ⟨p1, p2, p3⟩, p4, p5, p6⟩, t9, rfl, ho9, ex9, b9, k9, e9⟩; have S9 : Hid (IQ s b w b3 (i5 + 1) false ou5 (fu5 || (keptM (plusT t5)).2) t9 ⟨p0, ⟨p1, p2, p3⟩, p4, p5, p6⟩ (((w9.setCell ⟨b3, 0, none⟩ (.int .i64 p0)).setCell ⟨b3, 1, none⟩ (.slice p1 p2 p3)).setCell ⟨b3, 2, none⟩ (.slice p4 p5 p6))) := J7.out.step ex9 b9 (ho9.imp' (fun g hg => (by have h1 := ex9.size; have h2 := Z7.out; have h3 := J7.out.hb3; omega))) k9; have M9 : Hid (Blk w9 b3 (encT ⟨q0, ⟨q1, q2, q3⟩, q4, q5, q6⟩).toArray 26) := Blk.ex ex9 J7.out.me (by have := J7.out.ax.lt; have := J7.out.hb3; omega); obtain ⟨n0, n1, n2⟩ := BlkT.cs M9.out; simp only at n0 n1 n2; have nf := M9.out.frozen; have E9 : Hid ((fu5 || (keptM (plusT t5)).2) = false → t9 = (keptM (plusT t5)).1) := e9; clear ho9 ex9 b9)
        all_goals
          have S10' := S9.out
          generalize hW10 : World.setCell _ _ _ = W10 at S10' ⊢
          have S10 : Hid (IQ s b w b3 (i5 + 1) false ou5 (fu5 || (keptM (plusT t5)).2) t9 ⟨p0, ⟨p1, p2, p3⟩, p4, p5, p6⟩ W10) := S10'
          clear hW10 S9 S10' n0 n1 n2 nf M9 m0 m1 m2 mf
          go_wp2_with fail
          go_roundw
          case rel => exact ⟨i5 + 1, false, ou5, _, _, _, S10, SignQ.step (c := 43) (F := plusT) signs_43 D5.out h43 rfl (E9.out), by have := L5.out; exact (by omega : i ≤ i5 + 1)⟩
          case measure => rw [posOf_blkQ S10.out.ax.rd, HP.out]; have := (headIs_drop h43).2; omega
      | false =>
      cases h63 : headIs 63 (s.data.toList.drop i5) with
      | true =>
        have kN42 : ∀ W, IQ s b w b3 i5 false ou5 fu5 t5 ⟨q0, ⟨q1, q2, q3⟩, q4, q5, q6⟩ W → Calls Tryz.prog 28 #[.pointer (some ⟨b, 0, none⟩), .int .u8 42] W fun e w' => e = .returned (.bool false) ∧ IQ s b w b3 i5 false ou5 fu5 t5 ⟨q0, ⟨q1, q2, q3⟩, q4, q5, q6⟩ w' := fun W a => kN 42 _ _ _ _ _ _ _ W h42 a
        have kN43 : ∀ W, IQ s b w b3 i5 false ou5 fu5 t5 ⟨q0, ⟨q1, q2, q3⟩, q4, q5, q6⟩ W → Calls Tryz.prog 28 #[.pointer (some ⟨b, 0, none⟩), .int .u8 43] W fun e w' => e = .returned (.bool false) ∧ IQ s b w b3 i5 false ou5 fu5 t5 ⟨q0, ⟨q1, q2, q3⟩, q4, q5, q6⟩ w' := fun W a => kN 43 _ _ _ _ _ _ _ W h43 a
        have kY63 : ∀ W, IQ s b w b3 i5 false ou5 fu5 t5 ⟨q0, ⟨q1, q2, q3⟩, q4, q5, q6⟩ W → Calls Tryz.prog 28 #[.pointer (some ⟨b, 0, none⟩), .int .u8 63] W fun e w' => e = .returned (.bool true) ∧ IQ s b w b3 (i5 + 1) false ou5 fu5 t5 ⟨q0, ⟨q1, q2, q3⟩, q4, q5, q6⟩ w' := fun W a => kY 63 _ _ _ _ _ _ _ W h63 a
        clear kN kY
        go_upto_region 9 with (first
          | (go_at_call 28; (with_reducible refine (kN42 _ I5.out).mono ?_); rintro _ w8 ⟨rfl, a2⟩; have I8 : Hid (IQ s b w b3 i5 false ou5 fu5 t5 ⟨q0, ⟨q1, q2, q3⟩, q4, q5, q6⟩ w8) := a2; obtain ⟨m0, m1, m2⟩ := BlkT.cs I8.out.me; simp only at m0 m1 m2; clear a2)
          | (go_at_call 28; (with_reducible refine (kN43 _ I8.out).mono ?_); rintro _ w9 ⟨rfl, a2⟩; have I9 : Hid (IQ s b w b3 i5 false ou5 fu5 t5 ⟨q0, ⟨q1, q2, q3⟩, q4, q5, q6⟩ w9) := a2; obtain ⟨m0, m1, m2⟩ := BlkT.cs I9.out.me; simp only at m0 m1 m2; clear a2)
          | (go_at_call 28; (with_reducible refine (kY63 _ I9.out).mono ?_); rintro _ w7 ⟨rfl, a2⟩; have I7 : Hid (IQ s b w b3 (i5 + 1) false ou5 fu5 t5 ⟨q0, ⟨q1, q2, q3⟩, q4, q5, q6⟩ w7) := a2; obtain ⟨m0, m1, m2⟩ := BlkT.cs I7.out.me; simp only at m0 m1 m2; have mf := I7.out.me.frozen; have ml := I7.out.me.lt; clear a2))
        have J7 : Hid (IQ s b w b3 (i5 + 1) false ou5 fu5 t5 ⟨q0, ⟨q1, q2, q3⟩, q4, q5, q6⟩ (w7.drewN 1)) := I7.out.bel (below_drewN (Below.refl _ _) 1)
        have Z7 : Hid (b3 < (w7.drewN 1).heap.size) := J7.out.me.lt
        go_region_law
          (go_simp; go_at_call 86; refine (ropt_any (P := fun g => w.heap.size + 1 ≤ g ∧ g < (w7.drewN 1).heap.size ∧ g ≠ b3) J7.out.ax.rd J7.out.rt (fun g hg => hg.2.1) J7.out.ho).mono ?_; rintro _ w9 ⟨⟨p0, ⟨p1, p2, p3⟩, p4, p5, p6⟩, rfl, ho9, ex9, b9⟩; have S9 : Hid (IQ s b w b3 (i5 + 1) false ou5 (fu5 || (keptM (optT t5)).2) (keptM (optT t5)).1 ⟨p0, ⟨p1, p2, p3⟩, p4, p5, p6⟩ (((w9.setCell ⟨b3, 0, none⟩ (.int .i64 p0)).setCell ⟨b3, 1, none⟩ (.slice p1 p2 p3)).setCell ⟨b3, 2, none⟩ (.slice p4 p5 p6))) := J7.out.step ex9 b9 (ho9.imp' (fun g hg => (by have h1 := ex9.size; have h2 := Z7.out; have h3 := J7.out.hb3; omega))) (right_kept _); have M9 : Hid (Blk w9 b3 (encT ⟨q0, ⟨q1, q2, q3⟩, q4, q5, q6⟩).toArray 26) := Blk.ex ex9 J7.out.me (by have := J7.out.ax.lt; have := J7.out.hb3; omega); obtain ⟨n0, n1, n2⟩ := BlkT.cs M9.out; simp only at n0 n1 n2; have nf := M9.out.frozen; clear ho9 ex9 b9)
        all_goals
          have S10' := S9.out
          generalize hW10 : World.setCell _ _ _ = W10 at S10' ⊢
          have S10 : Hid (IQ s b w b3 (i5 + 1) false ou5 (fu5 || (keptM (optT t5)).2) (keptM (optT t5)).1 ⟨p0, ⟨p1, p2, p3⟩, p4, p5, p6⟩ W10) := S10'
          clear hW10 S9 S10' n0 n1 n2 nf M9 m0 m1 m2 mf
          go_wp2_with fail
          go_roundw
          case rel => exact ⟨i5 + 1, false, ou5, _, _, _, S10, SignQ.step (c := 63) (F := optT) signs_63 D5.out h63 rfl (fun _ => rfl), by have := L5.out; exact (by omega : i ≤ i5 + 1)⟩
          case measure => rw [posOf_blkQ S10.out.ax.rd, HP.out]; have := (headIs_drop h63).2; omega
      | false =>
        have kN42 : ∀ W, IQ s b w b3 i5 false ou5 fu5 t5 ⟨q0, ⟨q1, q2, q3⟩, q4, q5, q6⟩ W → Calls Tryz.prog 28 #[.pointer (some ⟨b, 0, none⟩), .int .u8 42] W fun e w' => e = .returned (.bool false) ∧ IQ s b w b3 i5 false ou5 fu5 t5 ⟨q0, ⟨q1, q2, q3⟩, q4, q5, q6⟩ w' := fun W a => kN 42 _ _ _ _ _ _ _ W h42 a
        have kN43 : ∀ W, IQ s b w b3 i5 false ou5 fu5 t5 ⟨q0, ⟨q1, q2, q3⟩, q4, q5, q6⟩ W → Calls Tryz.prog 28 #[.pointer (some ⟨b, 0, none⟩), .int .u8 43] W fun e w' => e = .returned (.bool false) ∧ IQ s b w b3 i5 false ou5 fu5 t5 ⟨q0, ⟨q1, q2, q3⟩, q4, q5, q6⟩ w' := fun W a => kN 43 _ _ _ _ _ _ _ W h43 a
        have kN63 : ∀ W, IQ s b w b3 i5 false ou5 fu5 t5 ⟨q0, ⟨q1, q2, q3⟩, q4, q5, q6⟩ W → Calls Tryz.prog 28 #[.pointer (some ⟨b, 0, none⟩), .int .u8 63] W fun e w' => e = .returned (.bool false) ∧ IQ s b w b3 i5 false ou5 fu5 t5 ⟨q0, ⟨q1, q2, q3⟩, q4, q5, q6⟩ w' := fun W a => kN 63 _ _ _ _ _ _ _ W h63 a
        clear kN kY
        go_wp2_with (first
          | (go_at_call 28; (with_reducible refine (kN42 _ I5.out).mono ?_); rintro _ w8 ⟨rfl, a2⟩; have I8 : Hid (IQ s b w b3 i5 false ou5 fu5 t5 ⟨q0, ⟨q1, q2, q3⟩, q4, q5, q6⟩ w8) := a2; obtain ⟨m0, m1, m2⟩ := BlkT.cs I8.out.me; simp only at m0 m1 m2; clear a2)
          | (go_at_call 28; (with_reducible refine (kN43 _ I8.out).mono ?_); rintro _ w9 ⟨rfl, a2⟩; have I9 : Hid (IQ s b w b3 i5 false ou5 fu5 t5 ⟨q0, ⟨q1, q2, q3⟩, q4, q5, q6⟩ w9) := a2; obtain ⟨m0, m1, m2⟩ := BlkT.cs I9.out.me; simp only at m0 m1 m2; clear a2)
          | (go_at_call 28; (with_reducible refine (kN63 _ I9.out).mono ?_); rintro _ w7 ⟨rfl, a2⟩; have I7 : Hid (IQ s b w b3 i5 false ou5 fu5 t5 ⟨q0, ⟨q1, q2, q3⟩, q4, q5, q6⟩ w7) := a2; obtain ⟨m0, m1, m2⟩ := BlkT.cs I7.out.me; simp only at m0 m1 m2; obtain ⟨y0, y1, y2⟩ := BlkT.cs I7.out.ax.res; have z0 := I7.out.ax.res.frozen; clear a2))
        refine bodyPost_ret (v := PC.v ⟨q0, ⟨q1, q2, q3⟩, ⟨q4, q5, q6⟩⟩) ?_ rfl (I7.out.ax.fin (I7.out.ho.imp' (fun g hg => ⟨hg.1, hg.2.1⟩)) I7.out.rt L5.out I7.out.le (D5.out.fin h42 h43 h63) _ _ _)
        simp [results, Tryz.results69]
        have B := blk_put3 I7.out.ax.res ⟨q0, ⟨q1, q2, q3⟩, ⟨q4, q5, q6⟩⟩
        simp only at B
        generalize hW7 : World.setCell _ _ _ = W7 at B ⊢
        exact run_ptv B

end Go.Proofs.YtnohkbdmnalmcaaGreatDoor
