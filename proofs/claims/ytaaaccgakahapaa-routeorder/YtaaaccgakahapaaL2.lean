/-
  The walks of the laws RouteCmp and RouteOrder.
-/
import Derived.Test.YtaaaccgakahapaaAlv
namespace Go.Proofs.Ytaaaccgakahapaa
open Go.RowKit

theorem wrap_small {q : Int} (h : -1 ≤ q ∧ q ≤ 1) : IntKind.i64.wrap (-q) = -q := by
  rw [IntKind.wrap_i64]
  omega

set_option maxHeartbeats 4000000 in
theorem law_cmp (x y : Rt) (u v u' v' : Value) (w : World) (hx : Ok x) (hy : Ok y) (sx : Short x) (sy : Short y) (rx : Rts w x u v) (ry : Rts w y u' v') :
    Calls Try.prog 5 #[rv x u v, rv y u' v'] w fun e w' => e = .returned (.bool true) ∧ Below w.heap.size w w' := by
  obtain ⟨ao1, cap1, rfl⟩ := rx.p.form
  obtain ⟨ao2, cap2, rfl⟩ := rx.c.form
  obtain ⟨ao3, cap3, rfl⟩ := ry.p.form
  obtain ⟨ao4, cap4, rfl⟩ := ry.c.form
  obtain ⟨W, hW⟩ : ∃ W, W = (w.alloc (.cells #[.int .u32 x.addr, .int .i64 x.len, .slice ao1 x.path.length cap1, .slice ao2 x.comms.length cap2, .int .u32 x.pref, .int .u32 x.med, .int .i64 x.origin, .int .u32 x.hop] 27)).alloc (.cells #[.int .u32 y.addr, .int .i64 y.len, .slice ao3 y.path.length cap3, .slice ao4 y.comms.length cap4, .int .u32 y.pref, .int .u32 y.med, .int .i64 y.origin, .int .u32 y.hop] 27) := ⟨_, rfl⟩
  have HW2 : Hid ((w.alloc (.cells #[.int .u32 x.addr, .int .i64 x.len, .slice ao1 x.path.length cap1, .slice ao2 x.comms.length cap2, .int .u32 x.pref, .int .u32 x.med, .int .i64 x.origin, .int .u32 x.hop] 27)).alloc (.cells #[.int .u32 y.addr, .int .i64 y.len, .slice ao3 y.path.length cap3, .slice ao4 y.comms.length cap4, .int .u32 y.pref, .int .u32 y.med, .int .i64 y.origin, .int .u32 y.hop] 27) = W) := hW.symm
  have BW : Below w.heap.size w W := by rw [hW]; exact ((Below.refl _ _).alloc (Nat.le_refl _) _).alloc (by simp) _
  have k0 : Hid (BlkR W w.heap.size x (.slice ao1 x.path.length cap1) (.slice ao2 x.comms.length cap2)) := by rw [hW]; exact (BlkR.new w x (.slice ao1 x.path.length cap1) (.slice ao2 x.comms.length cap2)).alloc _
  have k1 : Hid (BlkR W (w.heap.size + 1) y (.slice ao3 y.path.length cap3) (.slice ao4 y.comms.length cap4)) := by
    have := BlkR.new (w.alloc (.cells (rcells x (.slice ao1 x.path.length cap1) (.slice ao2 x.comms.length cap2)) 27)) y (.slice ao3 y.path.length cap3) (.slice ao4 y.comms.length cap4)
    rw [show (w.alloc (.cells (rcells x (.slice ao1 x.path.length cap1) (.slice ao2 x.comms.length cap2)) 27)).heap.size = w.heap.size + 1 from by simp] at this
    rw [hW]; exact this
  have h1 := alive_any W
  have HRX : Hid (Rts W x (.slice ao1 x.path.length cap1) (.slice ao2 x.comms.length cap2)) := rx.bel BW
  have HRY : Hid (Rts W y (.slice ao3 y.path.length cap3) (.slice ao4 y.comms.length cap4)) := ry.bel BW
  have HB : Hid (Below w.heap.size w W) := BW
  have HX : Hid (Ok x) := hx
  have HY : Hid (Ok y) := hy
  have SX : Hid (Short x) := sx
  have SY : Hid (Short y) := sy
  clear BW hW rx hx sx ry hy sy
  unfold rv
  go_enter Try.func5, Try.ntmps5
  go_wp2_with fail
  rw [HW2.out]
  clear HW2
  refine h1.mono ?_
  rintro e w1 ⟨rfl, B1⟩
  have h2 := cmp_any x y (.slice ao1 x.path.length cap1) (.slice ao2 x.comms.length cap2) (.slice ao3 y.path.length cap3) (.slice ao4 y.comms.length cap4) w1 SX.out SY.out (HRX.out.bel B1) (HRY.out.bel B1)
  obtain ⟨_, a0, a1, a2, a3, a4, a5, a6, a7⟩ := (k0.out.bel B1).held
  obtain ⟨_, b0, b1, b2, b3, b4, b5, b6, b7⟩ := (k1.out.bel B1).held
  have C1 : Hid (Below W.heap.size W w1) := B1
  unfold rv at h2
  clear h1 B1
  go_wp2_with fail
  refine h2.mono ?_
  rintro e w2 ⟨rfl, G2⟩
  have C2 : Hid (Below W.heap.size W w2) := C1.out.trans (G2.below.mono C1.out.size)
  have h3 := rcmp_any x y (.slice ao1 x.path.length cap1) (.slice ao2 x.comms.length cap2) (.slice ao3 y.path.length cap3) (.slice ao4 y.comms.length cap4) w2 HX.out HY.out SX.out SY.out (HRX.out.bel C2.out) (HRY.out.bel C2.out)
  clear a0 a1 a2 a3 a4 a5 a6 a7 b0 b1 b2 b3 b4 b5 b6 b7
  obtain ⟨_, a0, a1, a2, a3, a4, a5, a6, a7⟩ := (k0.out.bel C2.out).held
  obtain ⟨_, b0, b1, b2, b3, b4, b5, b6, b7⟩ := (k1.out.bel C2.out).held
  have QN : Hid (cmpR y x = -cmpR x y) := cmpR_neg x y
  have hw := wrap_small (cmpR_range x y)
  unfold rv at h3
  generalize cmpR x y = q at *
  have hqq : (q == q) = true := by simp
  have hqn : (-q == -q) = true := by simp
  clear h2 G2 C1
  go_wp2_with fail
  refine h3.mono ?_
  rintro e w3 ⟨rfl, G3⟩
  have C3 : Hid (Below W.heap.size W w3) := C2.out.trans (G3.below.mono C2.out.size)
  have h4 := cmp_any y x (.slice ao3 y.path.length cap3) (.slice ao4 y.comms.length cap4) (.slice ao1 x.path.length cap1) (.slice ao2 x.comms.length cap2) w3 SY.out SX.out (HRY.out.bel C3.out) (HRX.out.bel C3.out)
  rw [QN.out] at h4
  clear a0 a1 a2 a3 a4 a5 a6 a7 b0 b1 b2 b3 b4 b5 b6 b7
  obtain ⟨_, a0, a1, a2, a3, a4, a5, a6, a7⟩ := (k0.out.bel C3.out).held
  obtain ⟨_, b0, b1, b2, b3, b4, b5, b6, b7⟩ := (k1.out.bel C3.out).held
  unfold rv at h4
  clear h3 G3 C2
  go_wp2_with fail
  refine h4.mono ?_
  rintro e w4 ⟨rfl, G4⟩
  have C4 : Hid (Below W.heap.size W w4) := C3.out.trans (G4.below.mono C3.out.size)
  have h5 := cmp_any x x (.slice ao1 x.path.length cap1) (.slice ao2 x.comms.length cap2) (.slice ao1 x.path.length cap1) (.slice ao2 x.comms.length cap2) w4 SX.out SX.out (HRX.out.bel C4.out) (HRX.out.bel C4.out)
  rw [cmpR_self] at h5
  clear a0 a1 a2 a3 a4 a5 a6 a7 b0 b1 b2 b3 b4 b5 b6 b7
  obtain ⟨_, a0, a1, a2, a3, a4, a5, a6, a7⟩ := (k0.out.bel C4.out).held
  unfold rv at h5
  clear h4 G4 C3
  go_wp2_with fail
  refine h5.mono ?_
  rintro e w5 ⟨rfl, G5⟩
  have C5 : Hid (Below W.heap.size W w5) := C4.out.trans (G5.below.mono C4.out.size)
  clear h5 G5 C4
  go_wp2_with fail
  go_ret
  exact ⟨rfl, HB.out.trans (C5.out.mono HB.out.size)⟩

set_option maxHeartbeats 4000000 in
theorem law_order (x y z : Rt) (u v u' v' u2 v2 : Value) (w : World) (sx : Short x) (sy : Short y) (sz : Short z) (rx : Rts w x u v) (ry : Rts w y u' v') (rz : Rts w z u2 v2) :
    Calls Try.prog 6 #[rv x u v, rv y u' v', rv z u2 v2] w fun e w' => e = .returned (.bool true) ∧ Below w.heap.size w w' := by
  obtain ⟨ao1, cap1, rfl⟩ := rx.p.form
  obtain ⟨ao2, cap2, rfl⟩ := rx.c.form
  obtain ⟨ao3, cap3, rfl⟩ := ry.p.form
  obtain ⟨ao4, cap4, rfl⟩ := ry.c.form
  obtain ⟨ao5, cap5, rfl⟩ := rz.p.form
  obtain ⟨ao6, cap6, rfl⟩ := rz.c.form
  obtain ⟨W, hW⟩ : ∃ W, W = ((w.alloc (.cells #[.int .u32 x.addr, .int .i64 x.len, .slice ao1 x.path.length cap1, .slice ao2 x.comms.length cap2, .int .u32 x.pref, .int .u32 x.med, .int .i64 x.origin, .int .u32 x.hop] 27)).alloc (.cells #[.int .u32 y.addr, .int .i64 y.len, .slice ao3 y.path.length cap3, .slice ao4 y.comms.length cap4, .int .u32 y.pref, .int .u32 y.med, .int .i64 y.origin, .int .u32 y.hop] 27)).alloc (.cells #[.int .u32 z.addr, .int .i64 z.len, .slice ao5 z.path.length cap5, .slice ao6 z.comms.length cap6, .int .u32 z.pref, .int .u32 z.med, .int .i64 z.origin, .int .u32 z.hop] 27) := ⟨_, rfl⟩
  have HW2 : Hid (((w.alloc (.cells #[.int .u32 x.addr, .int .i64 x.len, .slice ao1 x.path.length cap1, .slice ao2 x.comms.length cap2, .int .u32 x.pref, .int .u32 x.med, .int .i64 x.origin, .int .u32 x.hop] 27)).alloc (.cells #[.int .u32 y.addr, .int .i64 y.len, .slice ao3 y.path.length cap3, .slice ao4 y.comms.length cap4, .int .u32 y.pref, .int .u32 y.med, .int .i64 y.origin, .int .u32 y.hop] 27)).alloc (.cells #[.int .u32 z.addr, .int .i64 z.len, .slice ao5 z.path.length cap5, .slice ao6 z.comms.length cap6, .int .u32 z.pref, .int .u32 z.med, .int .i64 z.origin, .int .u32 z.hop] 27) = W) := hW.symm
  have BW : Below w.heap.size w W := by rw [hW]; exact (((Below.refl _ _).alloc (Nat.le_refl _) _).alloc (by simp) _).alloc (by simp; omega) _
  have k0 : Hid (BlkR W w.heap.size x (.slice ao1 x.path.length cap1) (.slice ao2 x.comms.length cap2)) := by rw [hW]; exact ((BlkR.new w x (.slice ao1 x.path.length cap1) (.slice ao2 x.comms.length cap2)).alloc _).alloc _
  have k1 : Hid (BlkR W (w.heap.size + 1) y (.slice ao3 y.path.length cap3) (.slice ao4 y.comms.length cap4)) := by
    have := (BlkR.new (w.alloc (.cells (rcells x (.slice ao1 x.path.length cap1) (.slice ao2 x.comms.length cap2)) 27)) y (.slice ao3 y.path.length cap3) (.slice ao4 y.comms.length cap4)).alloc (.cells (rcells z (.slice ao5 z.path.length cap5) (.slice ao6 z.comms.length cap6)) 27)
    rw [show (w.alloc (.cells (rcells x (.slice ao1 x.path.length cap1) (.slice ao2 x.comms.length cap2)) 27)).heap.size = w.heap.size + 1 from by simp] at this
    rw [hW]; exact this
  have k2 : Hid (BlkR W (w.heap.size + 1 + 1) z (.slice ao5 z.path.length cap5) (.slice ao6 z.comms.length cap6)) := by
    have := BlkR.new ((w.alloc (.cells (rcells x (.slice ao1 x.path.length cap1) (.slice ao2 x.comms.length cap2)) 27)).alloc (.cells (rcells y (.slice ao3 y.path.length cap3) (.slice ao4 y.comms.length cap4)) 27)) z (.slice ao5 z.path.length cap5) (.slice ao6 z.comms.length cap6)
    rw [show ((w.alloc (.cells (rcells x (.slice ao1 x.path.length cap1) (.slice ao2 x.comms.length cap2)) 27)).alloc (.cells (rcells y (.slice ao3 y.path.length cap3) (.slice ao4 y.comms.length cap4)) 27)).heap.size = w.heap.size + 1 + 1 from by simp] at this
    rw [hW]; exact this
  have h1 := alive_any W
  have HRX : Hid (Rts W x (.slice ao1 x.path.length cap1) (.slice ao2 x.comms.length cap2)) := rx.bel BW
  have HRY : Hid (Rts W y (.slice ao3 y.path.length cap3) (.slice ao4 y.comms.length cap4)) := ry.bel BW
  have HRZ : Hid (Rts W z (.slice ao5 z.path.length cap5) (.slice ao6 z.comms.length cap6)) := rz.bel BW
  have HB : Hid (Below w.heap.size w W) := BW
  have SX : Hid (Short x) := sx
  have SY : Hid (Short y) := sy
  have SZ : Hid (Short z) := sz
  clear BW hW rx sx ry sy rz sz
  unfold rv
  go_enter Try.func6, Try.ntmps6
  go_wp2_with fail
  rw [HW2.out]
  clear HW2
  refine h1.mono ?_
  rintro e w1 ⟨rfl, B1⟩
  have h2 := cmp_any x y (.slice ao1 x.path.length cap1) (.slice ao2 x.comms.length cap2) (.slice ao3 y.path.length cap3) (.slice ao4 y.comms.length cap4) w1 SX.out SY.out (HRX.out.bel B1) (HRY.out.bel B1)
  obtain ⟨_, a0, a1, a2, a3, a4, a5, a6, a7⟩ := (k0.out.bel B1).held
  obtain ⟨_, b0, b1, b2, b3, b4, b5, b6, b7⟩ := (k1.out.bel B1).held
  have C1 : Hid (Below W.heap.size W w1) := B1
  have HO : Hid (cmpR x y ≤ 0 → cmpR y z ≤ 0 → cmpR x z ≤ 0) := cmpR_le
  unfold rv at h2
  generalize cmpR x y = p at *
  clear h1 B1
  go_wp2_with fail
  refine h2.mono ?_
  rintro e w2 ⟨rfl, G2⟩
  have C2 : Hid (Below W.heap.size W w2) := C1.out.trans (G2.below.mono C1.out.size)
  have h3 := cmp_any y z (.slice ao3 y.path.length cap3) (.slice ao4 y.comms.length cap4) (.slice ao5 z.path.length cap5) (.slice ao6 z.comms.length cap6) w2 SY.out SZ.out (HRY.out.bel C2.out) (HRZ.out.bel C2.out)
  clear a0 a1 a2 a3 a4 a5 a6 a7 b0 b1 b2 b3 b4 b5 b6 b7
  obtain ⟨_, b0, b1, b2, b3, b4, b5, b6, b7⟩ := (k1.out.bel C2.out).held
  obtain ⟨_, a0, a1, a2, a3, a4, a5, a6, a7⟩ := (k2.out.bel C2.out).held
  unfold rv at h3
  generalize cmpR y z = q at *
  clear h2 G2 C1
  by_cases hp : p ≤ 0
  case neg =>
    have hp' : decide (p ≤ 0) = false := decide_eq_false hp
    go_wp2_with fail
    go_ret
    exact ⟨rfl, HB.out.trans (C2.out.mono HB.out.size)⟩
  go_wp2_with fail
  refine h3.mono ?_
  rintro e w3 ⟨rfl, G3⟩
  have C3 : Hid (Below W.heap.size W w3) := C2.out.trans (G3.below.mono C2.out.size)
  have h4 := cmp_any x z (.slice ao1 x.path.length cap1) (.slice ao2 x.comms.length cap2) (.slice ao5 z.path.length cap5) (.slice ao6 z.comms.length cap6) w3 SX.out SZ.out (HRX.out.bel C3.out) (HRZ.out.bel C3.out)
  clear a0 a1 a2 a3 a4 a5 a6 a7 b0 b1 b2 b3 b4 b5 b6 b7
  obtain ⟨_, b0, b1, b2, b3, b4, b5, b6, b7⟩ := (k0.out.bel C3.out).held
  obtain ⟨_, a0, a1, a2, a3, a4, a5, a6, a7⟩ := (k2.out.bel C3.out).held
  unfold rv at h4
  generalize cmpR x z = r at *
  clear h3 G3 C2
  by_cases hq : q ≤ 0
  case neg =>
    have hq' : decide (q ≤ 0) = false := decide_eq_false hq
    go_wp2_with fail
    go_ret
    exact ⟨rfl, HB.out.trans (C3.out.mono HB.out.size)⟩
  have hr : r ≤ 0 := HO.out hp hq
  go_wp2_with fail
  refine h4.mono ?_
  rintro e w4 ⟨rfl, G4⟩
  have C4 : Hid (Below W.heap.size W w4) := C3.out.trans (G4.below.mono C3.out.size)
  clear h4 G4 C3
  go_wp2_with fail
  go_ret
  exact ⟨rfl, HB.out.trans (C4.out.mono HB.out.size)⟩
end Go.Proofs.Ytaaaccgakahapaa
