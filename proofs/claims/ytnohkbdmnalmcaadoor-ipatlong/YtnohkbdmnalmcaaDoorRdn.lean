/-
  The reader's Done and NewReader, walks.
-/
import Derived.Test.YtnohkbdmnalmcaaDoorRd
namespace Go.Proofs.YtnohkbdmnalmcaaDoor
open Go.RowKit

/-- What Done answers. -/
def doneM (s : ByteArray) (i : Nat) (wr ou fu : Bool) (t : Tree) : Tree × Int :=
  if wr = true ∨ i < s.size then (zeT, 4) else if ou = true then (zeT, 5) else if fu = true then (zeT, 6) else (t, 0)

set_option maxRecDepth 100000 in
set_option maxHeartbeats 4000000 in
theorem done_any {P : Nat → Prop} {s : ByteArray} {b i : Nat} {wr ou fu : Bool} {t : Tree} {x : PC} {w : World} (hb : BlkR w b s i wr ou fu) (hP : ∀ g, P g → g < w.heap.size) (hx : HO P w t x) :
    Calls Tryd.prog 9 #[.pointer (some ⟨b, 0, none⟩), x.v] w fun e w' => ∃ r : PC, e = .returned (.tuple #[r.v, .int .i64 (doneM s i wr ou fu t).2]) ∧ HO P w' (doneM s i wr ou fu t).1 r ∧ Below w.heap.size w w' := by
  have hmx : Tryd.prog.follows .mixedOrders = true := by kernel_rfl
  have HX : Hid (HO P w t x) := hx
  have HPp : Hid (∀ g, P g → g < w.heap.size) := hP
  have HM : Hid (doneM s i wr ou fu t = if wr = true ∨ i < s.size then (zeT, 4) else if ou = true then (zeT, 5) else if fu = true then (zeT, 6) else (t, 0)) := rfl
  obtain ⟨xk, ⟨x1, x2, x3⟩, x4, x5, x6⟩ := x
  have HI0 : Hid (KI b s i wr ou fu w ⟨xk, ⟨x1, x2, x3⟩, ⟨x4, x5, x6⟩⟩ ((w.alloc (.cells #[.int .i64 xk, .slice x1 x2 x3, .slice x4 x5 x6] 26)).alloc (.cells #[.int .i64 0, .slice none 0 0, .slice none 0 0] 26))) :=
    ⟨bstep (bel_alloc _ _) (bel_alloc _ _), (Blk.new _ _ _).alloc _, Blk.new' _ _ _ _ (by simp)⟩
  have HR0 : Hid (BlkR ((w.alloc (.cells #[.int .i64 xk, .slice x1 x2 x3, .slice x4 x5 x6] 26)).alloc (.cells #[.int .i64 0, .slice none 0 0, .slice none 0 0] 26)) b s i wr ou fu) := (hb.alloc _).alloc _
  clear hx hb hP
  generalize doneM s i wr ou fu t = dm at *
  go_enter Tryd.func9, Tryd.ntmps9
  go_upto_region 1 with fail
  generalize hW : World.alloc _ _ = W0 at HI0 HR0 ⊢
  have HI : Hid (KI b s i wr ou fu w ⟨xk, ⟨x1, x2, x3⟩, ⟨x4, x5, x6⟩⟩ W0) := HI0.out
  have HR : Hid (BlkR W0 b s i wr ou fu) := HR0.out
  clear HI0 HR0 hW
  have c0 := fun n os => (HR.out.grow n os).c 0
  have c1 := fun n os => (HR.out.grow n os).c 1
  have c2 := fun n os => (HR.out.grow n os).c 2
  simp at c0 c1 c2
  have bl := HR.out.lt
  obtain ⟨qe, hqe⟩ : ∃ q, decide (i < s.size) = q := ⟨_, rfl⟩
  have hqe2 : decide ((i : Int) < (s.size : Int)) = qe := by rw [← hqe]; apply Bool.eq_iff_iff.2; simp
  have HQE : Hid (i < s.size ↔ qe = true) := by show _ ↔ _; rw [← hqe]; simp
  cases wr <;> cases qe
  case false.false =>
    have HM1 : Hid (dm = if ou = true then (zeT, 5) else if fu = true then (zeT, 6) else (t, 0)) := by show _ = _; rw [HM.out, if_neg (by simp [HQE.out])]
    clear HM HQE
    refine wp_region_quiet_grownB (by assumption) (by kernel_rfl) ?_
    repeat (refine wpQuiet_stepB (fun K hK => ?_); go_simp; first | (refine hK _ ?_; clear hK K) | (apply Exists.intro; refine ⟨fun _ => ?_, hK _ ?_⟩; fail; clear hK K))
    refine wpQuiet_nilB ?_
    intro _ hw'
    obtain ⟨⟨nq, osq⟩, hw''⟩ := hw'
    subst hw''
    have K2 : Hid (KI b s i false ou fu w ⟨xk, ⟨x1, x2, x3⟩, ⟨x4, x5, x6⟩⟩ (Sort.grow (W0.drewN nq) osq)) := ⟨bstep HI.out.bel (Gr.below ⟨nq, osq, rfl⟩), HI.out.box.gr ⟨nq, osq, rfl⟩, HI.out.res.gr ⟨nq, osq, rfl⟩⟩
    have R2 : Hid (BlkR (Sort.grow (W0.drewN nq) osq) b s i false ou fu) := HR.out.gr ⟨nq, osq, rfl⟩
    generalize Sort.grow (W0.drewN nq) osq = V at K2 R2 ⊢
    have g3 := R2.out.c 3
    have g4 := R2.out.c 4
    simp at g3 g4
    obtain ⟨y0, y1, y2⟩ := BlkT.cs K2.out.res
    have z0 := K2.out.res.frozen
    obtain ⟨m0, m1, m2⟩ := BlkT.cs K2.out.box
    simp only at m0 m1 m2
    clear c0 c1 c2 hqe2 hqe
    cases ou with
    | true =>
      have HM2 : Hid (dm = (zeT, 5)) := HM1.out
      clear HM1
      go_wp2_with fail
      refine bodyPost_ret (v := .tuple #[PC.v ⟨0, ⟨none, 0, 0⟩, ⟨none, 0, 0⟩⟩, .int .i64 5]) ?_ rfl ⟨⟨0, ⟨none, 0, 0⟩, ⟨none, 0, 0⟩⟩, by rw [HM2.out], by rw [HM2.out]; exact HO_none 0, set3_bel K2.out.bel (by omega) _ _ _⟩
      have B := blk_put3 K2.out.res ⟨0, ⟨none, 0, 0⟩, ⟨none, 0, 0⟩⟩
      simp only at B
      generalize hW7 : World.setCell _ _ _ = W7 at B ⊢
      obtain ⟨b0, b1, b2⟩ := BlkT.cs B
      simp only at b0 b1 b2
      simp [results, Tryd.results9, go_sem, b0, b1, b2]
    | false =>
    cases fu with
    | true =>
      have HM2 : Hid (dm = (zeT, 6)) := HM1.out
      clear HM1
      go_wp2_with fail
      refine bodyPost_ret (v := .tuple #[PC.v ⟨0, ⟨none, 0, 0⟩, ⟨none, 0, 0⟩⟩, .int .i64 6]) ?_ rfl ⟨⟨0, ⟨none, 0, 0⟩, ⟨none, 0, 0⟩⟩, by rw [HM2.out], by rw [HM2.out]; exact HO_none 0, set3_bel K2.out.bel (by omega) _ _ _⟩
      have B := blk_put3 K2.out.res ⟨0, ⟨none, 0, 0⟩, ⟨none, 0, 0⟩⟩
      simp only at B
      generalize hW7 : World.setCell _ _ _ = W7 at B ⊢
      obtain ⟨b0, b1, b2⟩ := BlkT.cs B
      simp only at b0 b1 b2
      simp [results, Tryd.results9, go_sem, b0, b1, b2]
    | false =>
      have HM2 : Hid (dm = (t, 0)) := HM1.out
      clear HM1
      go_wp2_with fail
      refine bodyPost_ret (v := .tuple #[PC.v ⟨xk, ⟨x1, x2, x3⟩, ⟨x4, x5, x6⟩⟩, .int .i64 0]) ?_ rfl ⟨⟨xk, ⟨x1, x2, x3⟩, ⟨x4, x5, x6⟩⟩, by rw [HM2.out], by rw [HM2.out]; exact HO.same (fun _ h => h) (fun g hg => (set3_bel K2.out.bel (g := w.heap.size + 1) (by omega) _ _ _).block g (HPp.out g hg)) HX.out, set3_bel K2.out.bel (by omega) _ _ _⟩
      have B := blk_put3 K2.out.res ⟨xk, ⟨x1, x2, x3⟩, ⟨x4, x5, x6⟩⟩
      simp only at B
      generalize hW7 : World.setCell _ _ _ = W7 at B ⊢
      obtain ⟨b0, b1, b2⟩ := BlkT.cs B
      simp only at b0 b1 b2
      simp [results, Tryd.results9, go_sem, b0, b1, b2]
  all_goals
    have HM2 : Hid (dm = (zeT, 4)) := by show _ = _; rw [HM.out, if_pos (by simp [HQE.out])]
    clear HM HQE
    refine wp_region_quiet_grownB (by assumption) (by kernel_rfl) ?_
    repeat (refine wpQuiet_stepB (fun K hK => ?_); go_simp; first | (refine hK _ ?_; clear hK K) | (apply Exists.intro; refine ⟨fun _ => ?_, hK _ ?_⟩; fail; clear hK K))
    refine wpQuiet_nilB ?_
    intro _ hw'
    obtain ⟨⟨nq, osq⟩, hw''⟩ := hw'
    subst hw''
    have K2 : Hid (KI b s i false ou fu w ⟨xk, ⟨x1, x2, x3⟩, ⟨x4, x5, x6⟩⟩ (Sort.grow (W0.drewN nq) osq)) := ⟨bstep HI.out.bel (Gr.below ⟨nq, osq, rfl⟩), HI.out.box.gr ⟨nq, osq, rfl⟩, HI.out.res.gr ⟨nq, osq, rfl⟩⟩
    have R2 : Hid (BlkR (Sort.grow (W0.drewN nq) osq) b s i _ ou fu) := HR.out.gr ⟨nq, osq, rfl⟩
    generalize Sort.grow (W0.drewN nq) osq = V at K2 R2 ⊢
    have g3 := R2.out.c 3
    have g4 := R2.out.c 4
    simp at g3 g4
    obtain ⟨y0, y1, y2⟩ := BlkT.cs K2.out.res
    have z0 := K2.out.res.frozen
    obtain ⟨m0, m1, m2⟩ := BlkT.cs K2.out.box
    simp only at m0 m1 m2
    clear c0 c1 c2 hqe2 hqe
    go_wp2_with fail
    refine bodyPost_ret (v := .tuple #[PC.v ⟨0, ⟨none, 0, 0⟩, ⟨none, 0, 0⟩⟩, .int .i64 4]) ?_ rfl ⟨⟨0, ⟨none, 0, 0⟩, ⟨none, 0, 0⟩⟩, by rw [HM2.out], by rw [HM2.out]; exact HO_none 0, set3_bel K2.out.bel (by omega) _ _ _⟩
    have B := blk_put3 K2.out.res ⟨0, ⟨none, 0, 0⟩, ⟨none, 0, 0⟩⟩
    simp only at B
    generalize hW7 : World.setCell _ _ _ = W7 at B ⊢
    obtain ⟨b0, b1, b2⟩ := BlkT.cs B
    simp only at b0 b1 b2
    simp [results, Tryd.results9, go_sem, b0, b1, b2]

theorem Ex.toBel {b : Nat} {w W w' : World} (h : Ex b W w') (hB : Below w.heap.size w W) (hb : w.heap.size ≤ b) : Below w.heap.size w w' :=
  ⟨h.os.trans hB.os, h.tape.trans hB.tape, h.output.trans hB.output, Nat.le_trans hB.size h.size, fun k hk => (h.block k (Nat.lt_of_lt_of_le hk hB.size) (by omega)).trans (hB.block k hk)⟩

/-- A parser's frame: its result's cells. -/
structure QP (w : World) (W : World) : Prop where
  bel : Below w.heap.size w W
  res : Blk W w.heap.size (encT ⟨0, ⟨none, 0, 0⟩, ⟨none, 0, 0⟩⟩).toArray 26
theorem QP.go {w W W' : World} (h : QP w W) (g : Below W.heap.size W W') : QP w W' := ⟨bstep h.bel g, h.res.bel g⟩

set_option maxRecDepth 100000 in
theorem newReader_any (s : ByteArray) (w : World) : Calls Tryd.prog 8 #[.string s] w fun e w' => e = .returned (.agg #[.string s, .int .i64 0, .bool false, .bool false, .bool false]) ∧ Below w.heap.size w w' := by
  go_enter Tryd.func8, Tryd.ntmps8
  go_wp2_with fail
  refine bodyPost_ret (v := .agg #[.string s, .int .i64 0, .bool false, .bool false, .bool false]) ?_ rfl ⟨rfl, bel_alloc _ _⟩
  simp [results, Tryd.results8, go_sem]

theorem done_right {s : ByteArray} {t : Tree} {i : Nat} {wr ou fu : Bool} (h : rightT t = true) (h0 : (doneM s i wr ou fu t).2 = 0) : rightT (doneM s i wr ou fu t).1 = true := by
  unfold doneM at h0 ⊢
  split at h0
  · cases h0
  · rename_i h1
    rw [if_neg h1]
    split at h0
    · cases h0
    · rename_i h2
      rw [if_neg h2]
      split at h0
      · cases h0
      · rename_i h3
        rw [if_neg h3]
        exact h

end Go.Proofs.YtnohkbdmnalmcaaDoor
