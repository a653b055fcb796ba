/-
  The walk of Meet.
-/
import Derived.Test.YtdilnelfkbeamaaW5
namespace Go.Proofs.Ytdilnelfkbeamaa
open Go.RowKit

theorem max3_any (x y z : Int) (w : World) : (Builtin.max_ #[3, 3, 3] 3 #[.int .i64 x, .int .i64 y, .int .i64 z]).run Try.prog w = .ok (.int .i64 (max (max x y) z)) w := by
  simp [Builtin.max_, Builtin.max2]
  omega
theorem min2_any (x y : Int) (w : World) : (Builtin.min_ #[3, 3] 3 #[.int .i64 x, .int .i64 y]).run Try.prog w = .ok (.int .i64 (min x y)) w := by
  simp [Builtin.min_, Builtin.min2]
  omega

theorem set4_gr {w W : World} (h : Gr w W) {b : Nat} (hb : w.heap.size ≤ b) (x y z u : Value) : Gr w ((((W.setCell ⟨b, 0, none⟩ x).setCell ⟨b, 1, none⟩ y).setCell ⟨b, 2, none⟩ z).setCell ⟨b, 3, none⟩ u) :=
  (((h.setCell hb _).setCell hb _).setCell hb _).setCell hb _

set_option maxHeartbeats 2000000 in
theorem meet_any (a b : Rg) (ha : Num a.addr) (hb : Num b.addr) (w : World) :
    Calls Try.prog 17 #[gv a, gv b] w fun e' w' => e' = .returned (.tuple #[gv (if meetOk a b then meetX a b else ⟨0, 0, 0, 0⟩), .bool (meetOk a b)]) ∧ Gr w w' := by
  obtain ⟨a0, a1, a2, a3⟩ := a
  obtain ⟨b0, b1, b2, b3⟩ := b
  simp only at ha hb
  by_cases hab : a1 < b1
  · obtain ⟨G, hG⟩ : ∃ G, G = max (max a2 b2) b1 := ⟨_, rfl⟩
    obtain ⟨E, hE⟩ : ∃ E, E = min a3 b3 := ⟨_, rfl⟩
    have hmax := fun W => max3_any a2 b2 b1 W
    have hmin := fun W => min2_any a3 b3 W
    rw [← hG] at hmax
    rw [← hE] at hmin
    have k1 := fun W => in_any ⟨a0, a1, a2, a3⟩ ⟨b0, G⟩ ha hb W
    have k2 := fun W => in_any ⟨b0, b1, b2, b3⟩ ⟨b0, G⟩ hb hb W
    have HX : Hid (meetX ⟨a0, a1, a2, a3⟩ ⟨b0, b1, b2, b3⟩ = ⟨b0, b1, G, E⟩) := by
      unfold Hid meetX
      simp [hab, hG, hE]
    have HM : Hid (meetOk ⟨a0, a1, a2, a3⟩ ⟨b0, b1, b2, b3⟩ = (inR ⟨a0, a1, a2, a3⟩ ⟨b0, G⟩ && inR ⟨b0, b1, b2, b3⟩ ⟨b0, G⟩)) := by
      unfold Hid meetOk
      rw [HX.out]
    rw [HX.out, HM.out]
    clear hG hE HX HM
    obtain ⟨W, hW⟩ : ∃ W, W = (((((w.alloc (.cells #[.int .u32 a0, .int .i64 a1, .int .i64 a2, .int .i64 a3] 28)).alloc (.cells #[.int .u32 b0, .int .i64 b1, .int .i64 b2, .int .i64 b3] 28)).alloc (.cells #[.int .u32 0, .int .i64 0, .int .i64 0, .int .i64 0] 28)).alloc (.cells #[.int .u32 b0, .int .i64 b1] 25)).alloc (.cells #[.int .u32 b0, .int .i64 b1, .int .i64 G, .int .i64 E] 28)).alloc (.cells #[.int .u32 b0, .int .i64 G] 25) := ⟨_, rfl⟩
    have HA : Hid (BlkG W w.heap.size a0 a1 a2 a3) := by rw [hW]; exact (((((Blk.new _ _ _).alloc _).alloc _).alloc _).alloc _).alloc _
    have HB : Hid (BlkG W (w.heap.size + 1) b0 b1 b2 b3) := by rw [hW]; exact ((((Blk.new' _ _ _ _ (by simp)).alloc _).alloc _).alloc _).alloc _
    have HZ : Hid (BlkG W (w.heap.size + 1 + 1) 0 0 0 0) := by rw [hW]; exact (((Blk.new' _ _ _ _ (by simp)).alloc _).alloc _).alloc _
    have HM : Hid (BlkG W (w.heap.size + 1 + 1 + 1 + 1) b0 b1 G E) := by rw [hW]; exact (Blk.new' _ _ _ _ (by simp)).alloc _
    have HF : Hid (BlkP W (w.heap.size + 1 + 1 + 1 + 1 + 1) b0 G) := by rw [hW]; exact Blk.new' _ _ _ _ (by simp)
    have HW : Hid (Gr w W) := by rw [hW]; exact ((((((Gr.refl _).alloc _).alloc _).alloc _).alloc _).alloc _).alloc _
    have HW2 : Hid ((((((w.alloc (.cells #[.int .u32 a0, .int .i64 a1, .int .i64 a2, .int .i64 a3] 28)).alloc (.cells #[.int .u32 b0, .int .i64 b1, .int .i64 b2, .int .i64 b3] 28)).alloc (.cells #[.int .u32 0, .int .i64 0, .int .i64 0, .int .i64 0] 28)).alloc (.cells #[.int .u32 b0, .int .i64 b1] 25)).alloc (.cells #[.int .u32 b0, .int .i64 b1, .int .i64 G, .int .i64 E] 28)).alloc (.cells #[.int .u32 b0, .int .i64 G] 25) = W) := hW.symm
    clear hW
    generalize inR ⟨a0, a1, a2, a3⟩ ⟨b0, G⟩ = q1 at *
    generalize inR ⟨b0, b1, b2, b3⟩ ⟨b0, G⟩ = q2 at *
    go_enter Try.func17, Try.ntmps17
    go_wp2_with fail
    rw [HW2.out]
    clear HW2
    refine (k1 W).mono ?_
    rintro e1 w1 ⟨rfl, g1⟩
    have G1 : Hid (Gr W w1) := g1
    clear g1
    cases q1
    case false =>
      obtain ⟨z0, z1, z2, z3⟩ := BlkG.cs (HZ.out.gr G1.out)
      have zf := (HZ.out.gr G1.out).frozen
      go_wp2_with fail
      refine bodyPost_ret (v := .tuple #[.agg #[.int .u32 0, .int .i64 0, .int .i64 0, .int .i64 0], .bool false]) (by simp [results, Try.results17, go_sem, z0, z1, z2, z3]) rfl ⟨rfl, ?_⟩
      exact set4_gr (HW.out.trans G1.out) (by omega) _ _ _ _
    obtain ⟨b0', b1', b2', b3'⟩ := BlkG.cs (HB.out.gr G1.out)
    obtain ⟨f0, f1⟩ := BlkP.cs (HF.out.gr G1.out)
    cases q2
    case true =>
      go_wp2_with (go_at_call 13; refine (k2 _).mono ?_; rintro e2 w2 ⟨rfl, g2⟩; have G2 : Hid (Gr W w2) := G1.out.trans g2; clear g2; obtain ⟨z0, z1, z2, z3⟩ := BlkG.cs (HZ.out.gr G2.out); have zf := (HZ.out.gr G2.out).frozen; obtain ⟨y0, y1, y2, y3⟩ := BlkG.cs (HM.out.gr G2.out); clear b0' b1' b2' b3' f0 f1)
      refine bodyPost_ret (v := .tuple #[.agg #[.int .u32 b0, .int .i64 b1, .int .i64 G, .int .i64 E], .bool true]) (by simp [results, Try.results17, go_sem, z0, z1, z2, z3]) rfl ⟨rfl, ?_⟩
      exact set4_gr (HW.out.trans G2.out) (by omega) _ _ _ _
    case false =>
      go_wp2_with (go_at_call 13; refine (k2 _).mono ?_; rintro e2 w2 ⟨rfl, g2⟩; have G2 : Hid (Gr W w2) := G1.out.trans g2; clear g2; obtain ⟨z0, z1, z2, z3⟩ := BlkG.cs (HZ.out.gr G2.out); have zf := (HZ.out.gr G2.out).frozen; obtain ⟨y0, y1, y2, y3⟩ := BlkG.cs (HM.out.gr G2.out); clear b0' b1' b2' b3' f0 f1)
      refine bodyPost_ret (v := .tuple #[.agg #[.int .u32 0, .int .i64 0, .int .i64 0, .int .i64 0], .bool false]) (by simp [results, Try.results17, go_sem, z0, z1, z2, z3]) rfl ⟨rfl, ?_⟩
      exact set4_gr (HW.out.trans G2.out) (by omega) _ _ _ _
  · obtain ⟨G, hG⟩ : ∃ G, G = max (max a2 b2) a1 := ⟨_, rfl⟩
    obtain ⟨E, hE⟩ : ∃ E, E = min a3 b3 := ⟨_, rfl⟩
    have hmax := fun W => max3_any a2 b2 a1 W
    have hmin := fun W => min2_any a3 b3 W
    rw [← hG] at hmax
    rw [← hE] at hmin
    have k1 := fun W => in_any ⟨a0, a1, a2, a3⟩ ⟨a0, G⟩ ha ha W
    have k2 := fun W => in_any ⟨b0, b1, b2, b3⟩ ⟨a0, G⟩ hb ha W
    have HX : Hid (meetX ⟨a0, a1, a2, a3⟩ ⟨b0, b1, b2, b3⟩ = ⟨a0, a1, G, E⟩) := by
      unfold Hid meetX
      simp [hab, hG, hE]
    have HM : Hid (meetOk ⟨a0, a1, a2, a3⟩ ⟨b0, b1, b2, b3⟩ = (inR ⟨a0, a1, a2, a3⟩ ⟨a0, G⟩ && inR ⟨b0, b1, b2, b3⟩ ⟨a0, G⟩)) := by
      unfold Hid meetOk
      rw [HX.out]
    rw [HX.out, HM.out]
    clear hG hE HX HM
    obtain ⟨W, hW⟩ : ∃ W, W = (((((w.alloc (.cells #[.int .u32 a0, .int .i64 a1, .int .i64 a2, .int .i64 a3] 28)).alloc (.cells #[.int .u32 b0, .int .i64 b1, .int .i64 b2, .int .i64 b3] 28)).alloc (.cells #[.int .u32 0, .int .i64 0, .int .i64 0, .int .i64 0] 28)).alloc (.cells #[.int .u32 a0, .int .i64 a1] 25)).alloc (.cells #[.int .u32 a0, .int .i64 a1, .int .i64 G, .int .i64 E] 28)).alloc (.cells #[.int .u32 a0, .int .i64 G] 25) := ⟨_, rfl⟩
    have HA : Hid (BlkG W w.heap.size a0 a1 a2 a3) := by rw [hW]; exact (((((Blk.new _ _ _).alloc _).alloc _).alloc _).alloc _).alloc _
    have HB : Hid (BlkG W (w.heap.size + 1) b0 b1 b2 b3) := by rw [hW]; exact ((((Blk.new' _ _ _ _ (by simp)).alloc _).alloc _).alloc _).alloc _
    have HZ : Hid (BlkG W (w.heap.size + 1 + 1) 0 0 0 0) := by rw [hW]; exact (((Blk.new' _ _ _ _ (by simp)).alloc _).alloc _).alloc _
    have HM : Hid (BlkG W (w.heap.size + 1 + 1 + 1 + 1) a0 a1 G E) := by rw [hW]; exact (Blk.new' _ _ _ _ (by simp)).alloc _
    have HF : Hid (BlkP W (w.heap.size + 1 + 1 + 1 + 1 + 1) a0 G) := by rw [hW]; exact Blk.new' _ _ _ _ (by simp)
    have HW : Hid (Gr w W) := by rw [hW]; exact ((((((Gr.refl _).alloc _).alloc _).alloc _).alloc _).alloc _).alloc _
    have HW2 : Hid ((((((w.alloc (.cells #[.int .u32 a0, .int .i64 a1, .int .i64 a2, .int .i64 a3] 28)).alloc (.cells #[.int .u32 b0, .int .i64 b1, .int .i64 b2, .int .i64 b3] 28)).alloc (.cells #[.int .u32 0, .int .i64 0, .int .i64 0, .int .i64 0] 28)).alloc (.cells #[.int .u32 a0, .int .i64 a1] 25)).alloc (.cells #[.int .u32 a0, .int .i64 a1, .int .i64 G, .int .i64 E] 28)).alloc (.cells #[.int .u32 a0, .int .i64 G] 25) = W) := hW.symm
    clear hW
    generalize inR ⟨a0, a1, a2, a3⟩ ⟨a0, G⟩ = q1 at *
    generalize inR ⟨b0, b1, b2, b3⟩ ⟨a0, G⟩ = q2 at *
    go_enter Try.func17, Try.ntmps17
    go_wp2_with fail
    rw [HW2.out]
    clear HW2
    refine (k1 W).mono ?_
    rintro e1 w1 ⟨rfl, g1⟩
    have G1 : Hid (Gr W w1) := g1
    clear g1
    cases q1
    case false =>
      obtain ⟨z0, z1, z2, z3⟩ := BlkG.cs (HZ.out.gr G1.out)
      have zf := (HZ.out.gr G1.out).frozen
      go_wp2_with fail
      refine bodyPost_ret (v := .tuple #[.agg #[.int .u32 0, .int .i64 0, .int .i64 0, .int .i64 0], .bool false]) (by simp [results, Try.results17, go_sem, z0, z1, z2, z3]) rfl ⟨rfl, ?_⟩
      exact set4_gr (HW.out.trans G1.out) (by omega) _ _ _ _
    obtain ⟨b0', b1', b2', b3'⟩ := BlkG.cs (HB.out.gr G1.out)
    obtain ⟨f0, f1⟩ := BlkP.cs (HF.out.gr G1.out)
    cases q2
    case true =>
      go_wp2_with (go_at_call 13; refine (k2 _).mono ?_; rintro e2 w2 ⟨rfl, g2⟩; have G2 : Hid (Gr W w2) := G1.out.trans g2; clear g2; obtain ⟨z0, z1, z2, z3⟩ := BlkG.cs (HZ.out.gr G2.out); have zf := (HZ.out.gr G2.out).frozen; obtain ⟨y0, y1, y2, y3⟩ := BlkG.cs (HM.out.gr G2.out); clear b0' b1' b2' b3' f0 f1)
      refine bodyPost_ret (v := .tuple #[.agg #[.int .u32 a0, .int .i64 a1, .int .i64 G, .int .i64 E], .bool true]) (by simp [results, Try.results17, go_sem, z0, z1, z2, z3]) rfl ⟨rfl, ?_⟩
      exact set4_gr (HW.out.trans G2.out) (by omega) _ _ _ _
    case false =>
      go_wp2_with (go_at_call 13; refine (k2 _).mono ?_; rintro e2 w2 ⟨rfl, g2⟩; have G2 : Hid (Gr W w2) := G1.out.trans g2; clear g2; obtain ⟨z0, z1, z2, z3⟩ := BlkG.cs (HZ.out.gr G2.out); have zf := (HZ.out.gr G2.out).frozen; obtain ⟨y0, y1, y2, y3⟩ := BlkG.cs (HM.out.gr G2.out); clear b0' b1' b2' b3' f0 f1)
      refine bodyPost_ret (v := .tuple #[.agg #[.int .u32 0, .int .i64 0, .int .i64 0, .int .i64 0], .bool false]) (by simp [results, Try.results17, go_sem, z0, z1, z2, z3]) rfl ⟨rfl, ?_⟩
      exact set4_gr (HW.out.trans G2.out) (by omega) _ _ _ _

end Go.Proofs.Ytdilnelfkbeamaa
