/-
  The walk of the document's own Canon.
-/
import Derived.Test.YtaaaccgakahapaaW13
import Derived.Test.YtaaaccgakahapaaW14
namespace Go.Proofs.Ytaaaccgakahapaa
open Go.RowKit

/-- This block holds eight values. -/
def Blk8 (w : World) (b : Nat) (c0 c1 c2 c3 c4 c5 c6 c7 : Value) : Prop := w.heap[b]? = some (.cells #[c0, c1, c2, c3, c4, c5, c6, c7] 27 (0, 0))
theorem Blk8.s0 {w : World} {b : Nat} {c0 c1 c2 c3 c4 c5 c6 c7 : Value} (h : Blk8 w b c0 c1 c2 c3 c4 c5 c6 c7) (z : Value) : Blk8 (w.setCell ⟨b, 0, none⟩ z) b z c1 c2 c3 c4 c5 c6 c7 := heap_setCell_same w b 0 _ 27 z h
theorem Blk8.s1 {w : World} {b : Nat} {c0 c1 c2 c3 c4 c5 c6 c7 : Value} (h : Blk8 w b c0 c1 c2 c3 c4 c5 c6 c7) (z : Value) : Blk8 (w.setCell ⟨b, 1, none⟩ z) b c0 z c2 c3 c4 c5 c6 c7 := heap_setCell_same w b 1 _ 27 z h
theorem Blk8.s2 {w : World} {b : Nat} {c0 c1 c2 c3 c4 c5 c6 c7 : Value} (h : Blk8 w b c0 c1 c2 c3 c4 c5 c6 c7) (z : Value) : Blk8 (w.setCell ⟨b, 2, none⟩ z) b c0 c1 z c3 c4 c5 c6 c7 := heap_setCell_same w b 2 _ 27 z h
theorem Blk8.s3 {w : World} {b : Nat} {c0 c1 c2 c3 c4 c5 c6 c7 : Value} (h : Blk8 w b c0 c1 c2 c3 c4 c5 c6 c7) (z : Value) : Blk8 (w.setCell ⟨b, 3, none⟩ z) b c0 c1 c2 z c4 c5 c6 c7 := heap_setCell_same w b 3 _ 27 z h
theorem Blk8.s4 {w : World} {b : Nat} {c0 c1 c2 c3 c4 c5 c6 c7 : Value} (h : Blk8 w b c0 c1 c2 c3 c4 c5 c6 c7) (z : Value) : Blk8 (w.setCell ⟨b, 4, none⟩ z) b c0 c1 c2 c3 z c5 c6 c7 := heap_setCell_same w b 4 _ 27 z h
theorem Blk8.s5 {w : World} {b : Nat} {c0 c1 c2 c3 c4 c5 c6 c7 : Value} (h : Blk8 w b c0 c1 c2 c3 c4 c5 c6 c7) (z : Value) : Blk8 (w.setCell ⟨b, 5, none⟩ z) b c0 c1 c2 c3 c4 z c6 c7 := heap_setCell_same w b 5 _ 27 z h
theorem Blk8.s6 {w : World} {b : Nat} {c0 c1 c2 c3 c4 c5 c6 c7 : Value} (h : Blk8 w b c0 c1 c2 c3 c4 c5 c6 c7) (z : Value) : Blk8 (w.setCell ⟨b, 6, none⟩ z) b c0 c1 c2 c3 c4 c5 z c7 := heap_setCell_same w b 6 _ 27 z h
theorem Blk8.s7 {w : World} {b : Nat} {c0 c1 c2 c3 c4 c5 c6 c7 : Value} (h : Blk8 w b c0 c1 c2 c3 c4 c5 c6 c7) (z : Value) : Blk8 (w.setCell ⟨b, 7, none⟩ z) b c0 c1 c2 c3 c4 c5 c6 z := heap_setCell_same w b 7 _ 27 z h
theorem blkR_put8 {w : World} {b : Nat} {x : Rt} {u v : Value} (h : BlkR w b x u v) (y : Rt) (u' v' : Value) : BlkR (put8 w b y u' v') b y u' v' := by
  have h' : Blk8 w b (.int .u32 x.addr) (.int .i64 x.len) u v (.int .u32 x.pref) (.int .u32 x.med) (.int .i64 x.origin) (.int .u32 x.hop) := h
  have h7 := (((((((h'.s0 (.int .u32 y.addr)).s1 (.int .i64 y.len)).s2 u').s3 v').s4 (.int .u32 y.pref)).s5 (.int .u32 y.med)).s6 (.int .i64 y.origin)).s7 (.int .u32 y.hop)
  unfold Blk8 at h7
  exact h7
theorem blkR_put8_other {w : World} {b c : Nat} {x : Rt} {u v : Value} (h : BlkR w b x u v) (hb : b ≠ c) (y : Rt) (u' v' : Value) : BlkR (put8 w c y u' v') b x u v :=
  (((((((h.other hb _).other hb _).other hb _).other hb _).other hb _).other hb _).other hb _).other hb _

set_option maxHeartbeats 2000000 in
theorem rcanon_any (x : Rt) (u v : Value) (w : World) (hx : Num x.addr) (hp : x.path.length ≤ 100000) (hc : x.comms.length ≤ 100000) (rx : Rts w x u v) :
    Calls Try.prog 18 #[rv x u v] w (Canoned w x) := by
  unfold Canoned
  obtain ⟨ao1, cap1, rfl⟩ := rx.p.form
  obtain ⟨ao2, cap2, rfl⟩ := rx.c.form
  obtain ⟨W, hW⟩ : ∃ W, W = (w.alloc (.cells #[.int .u32 x.addr, .int .i64 x.len, .slice ao1 x.path.length cap1, .slice ao2 x.comms.length cap2, .int .u32 x.pref, .int .u32 x.med, .int .i64 x.origin, .int .u32 x.hop] 27)).alloc (.cells #[.int .u32 0, .int .i64 0, .slice none 0 0, .slice none 0 0, .int .u32 0, .int .u32 0, .int .i64 0, .int .u32 0] 27) := ⟨_, rfl⟩
  have HW2 : Hid ((w.alloc (.cells #[.int .u32 x.addr, .int .i64 x.len, .slice ao1 x.path.length cap1, .slice ao2 x.comms.length cap2, .int .u32 x.pref, .int .u32 x.med, .int .i64 x.origin, .int .u32 x.hop] 27)).alloc (.cells #[.int .u32 0, .int .i64 0, .slice none 0 0, .slice none 0 0, .int .u32 0, .int .u32 0, .int .i64 0, .int .u32 0] 27) = W) := hW.symm
  have BW : Below w.heap.size w W := by rw [hW]; exact ((Below.refl _ _).alloc (Nat.le_refl _) _).alloc (by simp) _
  have HSW : Hid (W.heap.size = w.heap.size + 2) := by rw [hW]; simp [Hid]
  have k0 : Hid (BlkR W w.heap.size x (.slice ao1 x.path.length cap1) (.slice ao2 x.comms.length cap2)) := by rw [hW]; exact (BlkR.new w x (.slice ao1 x.path.length cap1) (.slice ao2 x.comms.length cap2)).alloc _
  have k1 : Hid (BlkR W (w.heap.size + 1) zeroR nilV nilV) := by
    have := BlkR.new (w.alloc (.cells (rcells x (.slice ao1 x.path.length cap1) (.slice ao2 x.comms.length cap2)) 27)) zeroR nilV nilV
    rw [show (w.alloc (.cells (rcells x (.slice ao1 x.path.length cap1) (.slice ao2 x.comms.length cap2)) 27)).heap.size = w.heap.size + 1 from by simp] at this
    rw [hW]; exact this
  have h1 := rcopy_any x (.slice ao1 x.path.length cap1) (.slice ao2 x.comms.length cap2) W hp hc (rx.bel BW)
  have HB : Hid (Below w.heap.size w W) := BW
  have HX : Hid (Num x.addr) := hx
  clear BW hW rx hx
  unfold rv at h1 ⊢
  go_enter Try.func18, Try.ntmps18
  go_wp2_with fail
  rw [HW2.out]
  clear HW2
  refine h1.mono ?_
  rintro e w1 ⟨u1, v1, B, rfl, o1, o2, hB, hlt, B1⟩
  obtain ⟨a1, c1, rfl⟩ := o1.form
  obtain ⟨a2, c2, rfl⟩ := o2.form
  have j0 : Hid (BlkR w1 w.heap.size x (.slice ao1 x.path.length cap1) (.slice ao2 x.comms.length cap2)) := k0.out.bel B1
  have j1 : Hid (BlkR w1 (w.heap.size + 1) zeroR nilV nilV) := k1.out.bel B1
  have O1 : Hid (Own1 (w.heap.size + 2) w1 (.slice a1 x.path.length c1) x.path) := by rw [← HSW.out]; exact o1
  have O2 : Hid (Own1 (w.heap.size + 2) w1 (.slice a2 x.comms.length c2) x.comms) := by rw [← HSW.out]; exact o2.lower hB
  have D1 : Hid (Below w.heap.size w w1) := HB.out.trans (B1.mono HB.out.size)
  have L1 : Hid (∀ g, (Value.slice a1 x.path.length c1).ownBlock = some g → g < w1.heap.size) := fun g hg => (o1.lt hg).2
  have S1 : Hid (w.heap.size + 2 ≤ w1.heap.size) := by rw [← HSW.out]; exact B1.size
  obtain ⟨_, f0, f1, f2, f3, f4, f5, f6, f7⟩ := j0.out.held
  have ff := j0.out.frozen
  clear h1 o1 o2 hB hlt B1 k0 k1 HB
  go_wp2_with fail
  have kp : BlkR ((((((((w1.setCell ⟨w.heap.size, 0, none⟩ (.int .u32 x.addr)).setCell ⟨w.heap.size, 1, none⟩ (.int .i64 x.len)).setCell ⟨w.heap.size, 2, none⟩ (.slice a1 x.path.length c1)).setCell ⟨w.heap.size, 3, none⟩ (.slice a2 x.comms.length c2)).setCell ⟨w.heap.size, 4, none⟩ (.int .u32 x.pref)).setCell ⟨w.heap.size, 5, none⟩ (.int .u32 x.med)).setCell ⟨w.heap.size, 6, none⟩ (.int .i64 x.origin)).setCell ⟨w.heap.size, 7, none⟩ (.int .u32 x.hop)) w.heap.size x (.slice a1 x.path.length c1) (.slice a2 x.comms.length c2) := blkR_put8 j0.out x (.slice a1 x.path.length c1) (.slice a2 x.comms.length c2)
  have kq : BlkR ((((((((w1.setCell ⟨w.heap.size, 0, none⟩ (.int .u32 x.addr)).setCell ⟨w.heap.size, 1, none⟩ (.int .i64 x.len)).setCell ⟨w.heap.size, 2, none⟩ (.slice a1 x.path.length c1)).setCell ⟨w.heap.size, 3, none⟩ (.slice a2 x.comms.length c2)).setCell ⟨w.heap.size, 4, none⟩ (.int .u32 x.pref)).setCell ⟨w.heap.size, 5, none⟩ (.int .u32 x.med)).setCell ⟨w.heap.size, 6, none⟩ (.int .i64 x.origin)).setCell ⟨w.heap.size, 7, none⟩ (.int .u32 x.hop)) (w.heap.size + 1) zeroR nilV nilV := blkR_put8_other j1.out (by omega) x (.slice a1 x.path.length c1) (.slice a2 x.comms.length c2)
  have op1 : Own1 (w.heap.size + 2) ((((((((w1.setCell ⟨w.heap.size, 0, none⟩ (.int .u32 x.addr)).setCell ⟨w.heap.size, 1, none⟩ (.int .i64 x.len)).setCell ⟨w.heap.size, 2, none⟩ (.slice a1 x.path.length c1)).setCell ⟨w.heap.size, 3, none⟩ (.slice a2 x.comms.length c2)).setCell ⟨w.heap.size, 4, none⟩ (.int .u32 x.pref)).setCell ⟨w.heap.size, 5, none⟩ (.int .u32 x.med)).setCell ⟨w.heap.size, 6, none⟩ (.int .i64 x.origin)).setCell ⟨w.heap.size, 7, none⟩ (.int .u32 x.hop)) (.slice a1 x.path.length c1) x.path := O1.out.put8 (by omega) x (.slice a1 x.path.length c1) (.slice a2 x.comms.length c2)
  have op2 : Own1 (w.heap.size + 2) ((((((((w1.setCell ⟨w.heap.size, 0, none⟩ (.int .u32 x.addr)).setCell ⟨w.heap.size, 1, none⟩ (.int .i64 x.len)).setCell ⟨w.heap.size, 2, none⟩ (.slice a1 x.path.length c1)).setCell ⟨w.heap.size, 3, none⟩ (.slice a2 x.comms.length c2)).setCell ⟨w.heap.size, 4, none⟩ (.int .u32 x.pref)).setCell ⟨w.heap.size, 5, none⟩ (.int .u32 x.med)).setCell ⟨w.heap.size, 6, none⟩ (.int .i64 x.origin)).setCell ⟨w.heap.size, 7, none⟩ (.int .u32 x.hop)) (.slice a2 x.comms.length c2) x.comms := O2.out.put8 (by omega) x (.slice a1 x.path.length c1) (.slice a2 x.comms.length c2)
  have dp : Below w.heap.size w ((((((((w1.setCell ⟨w.heap.size, 0, none⟩ (.int .u32 x.addr)).setCell ⟨w.heap.size, 1, none⟩ (.int .i64 x.len)).setCell ⟨w.heap.size, 2, none⟩ (.slice a1 x.path.length c1)).setCell ⟨w.heap.size, 3, none⟩ (.slice a2 x.comms.length c2)).setCell ⟨w.heap.size, 4, none⟩ (.int .u32 x.pref)).setCell ⟨w.heap.size, 5, none⟩ (.int .u32 x.med)).setCell ⟨w.heap.size, 6, none⟩ (.int .i64 x.origin)).setCell ⟨w.heap.size, 7, none⟩ (.int .u32 x.hop)) := below_put8 D1.out (Nat.le_refl _) x (.slice a1 x.path.length c1) (.slice a2 x.comms.length c2)
  have sp : ((((((((w1.setCell ⟨w.heap.size, 0, none⟩ (.int .u32 x.addr)).setCell ⟨w.heap.size, 1, none⟩ (.int .i64 x.len)).setCell ⟨w.heap.size, 2, none⟩ (.slice a1 x.path.length c1)).setCell ⟨w.heap.size, 3, none⟩ (.slice a2 x.comms.length c2)).setCell ⟨w.heap.size, 4, none⟩ (.int .u32 x.pref)).setCell ⟨w.heap.size, 5, none⟩ (.int .u32 x.med)).setCell ⟨w.heap.size, 6, none⟩ (.int .i64 x.origin)).setCell ⟨w.heap.size, 7, none⟩ (.int .u32 x.hop)).heap.size = w1.heap.size := by simp
  clear f0 f1 f2 f3 f4 f5 f6 f7 ff j0 j1 O1 O2 D1
  generalize ((((((((w1.setCell ⟨w.heap.size, 0, none⟩ (.int .u32 x.addr)).setCell ⟨w.heap.size, 1, none⟩ (.int .i64 x.len)).setCell ⟨w.heap.size, 2, none⟩ (.slice a1 x.path.length c1)).setCell ⟨w.heap.size, 3, none⟩ (.slice a2 x.comms.length c2)).setCell ⟨w.heap.size, 4, none⟩ (.int .u32 x.pref)).setCell ⟨w.heap.size, 5, none⟩ (.int .u32 x.med)).setCell ⟨w.heap.size, 6, none⟩ (.int .i64 x.origin)).setCell ⟨w.heap.size, 7, none⟩ (.int .u32 x.hop)) = V at *
  have h2 := rmask_any x.addr x.len HX.out V
  refine h2.mono ?_
  rintro e w2 ⟨rfl, G2⟩
  have kp2 : Hid (BlkR w2 w.heap.size x (.slice a1 x.path.length c1) (.slice a2 x.comms.length c2)) := kp.bel G2.below
  have kq2 : Hid (BlkR w2 (w.heap.size + 1) zeroR nilV nilV) := kq.bel G2.below
  have op12 : Hid (Own1 (w.heap.size + 2) w2 (.slice a1 x.path.length c1) x.path) := op1.bel G2.below
  have op22 : Hid (Own1 (w.heap.size + 2) w2 (.slice a2 x.comms.length c2) x.comms) := op2.bel G2.below
  have dp2 : Hid (Below w.heap.size w w2) := dp.trans (G2.below.mono dp.size)
  have S2 : Hid (w1.heap.size ≤ w2.heap.size) := by rw [← sp]; exact G2.below.size
  obtain ⟨_, f0, f1, f2, f3, f4, f5, f6, f7⟩ := kp2.out.held
  have ff := kp2.out.frozen
  clear h2 G2 kp kq op1 op2 dp sp
  go_wp2_with fail
  have kp3 : BlkR ((w2.setCell ⟨w.heap.size, 0, none⟩ (.int .u32 (maskA x.addr x.len))).setCell ⟨w.heap.size, 1, none⟩ (.int .i64 (clampL x.len))) w.heap.size (canonW x x.comms) (.slice a1 x.path.length c1) (.slice a2 x.comms.length c2) := kp2.out.set01 _ _
  have kq3 : BlkR ((w2.setCell ⟨w.heap.size, 0, none⟩ (.int .u32 (maskA x.addr x.len))).setCell ⟨w.heap.size, 1, none⟩ (.int .i64 (clampL x.len))) (w.heap.size + 1) zeroR nilV nilV := (kq2.out.other (by simp) _).other (by simp) _
  have op13 : Own1 (w.heap.size + 2) ((w2.setCell ⟨w.heap.size, 0, none⟩ (.int .u32 (maskA x.addr x.len))).setCell ⟨w.heap.size, 1, none⟩ (.int .i64 (clampL x.len))) (.slice a1 x.path.length c1) x.path := (op12.out.setOther (by simp) _).setOther (by simp) _
  have op23 : Own1 (w.heap.size + 2) ((w2.setCell ⟨w.heap.size, 0, none⟩ (.int .u32 (maskA x.addr x.len))).setCell ⟨w.heap.size, 1, none⟩ (.int .i64 (clampL x.len))) (.slice a2 x.comms.length c2) x.comms := (op22.out.setOther (by simp) _).setOther (by simp) _
  have dp3 : Below w.heap.size w ((w2.setCell ⟨w.heap.size, 0, none⟩ (.int .u32 (maskA x.addr x.len))).setCell ⟨w.heap.size, 1, none⟩ (.int .i64 (clampL x.len))) := (dp2.out.setCell (Nat.le_refl _) _).setCell (Nat.le_refl _) _
  have sp3 : ((w2.setCell ⟨w.heap.size, 0, none⟩ (.int .u32 (maskA x.addr x.len))).setCell ⟨w.heap.size, 1, none⟩ (.int .i64 (clampL x.len))).heap.size = w2.heap.size := by simp
  clear f0 f1 f2 f3 f4 f5 f6 f7 ff kp2 kq2 op12 op22 dp2
  generalize ((w2.setCell ⟨w.heap.size, 0, none⟩ (.int .u32 (maskA x.addr x.len))).setCell ⟨w.heap.size, 1, none⟩ (.int .i64 (clampL x.len))) = V3 at *
  have h3 := sorted_any _ x.comms V3 hc (Row1.of_owns op23)
  refine h3.mono ?_
  rintro e w4 ⟨u4, r, rfl, hset, hrl, o4, B4⟩
  obtain ⟨a4, c4, rfl⟩ := o4.form
  have kp4 : Hid (BlkR w4 w.heap.size (canonW x x.comms) (.slice a1 x.path.length c1) (.slice a2 x.comms.length c2)) := kp3.bel B4
  have kq4 : Hid (BlkR w4 (w.heap.size + 1) zeroR nilV nilV) := kq3.bel B4
  have op14 : Hid (Own1 (w.heap.size + 2) w4 (.slice a1 x.path.length c1) x.path) := op13.bel B4
  have O4 : Hid (Own1 w2.heap.size w4 (.slice a4 r.length c4) r) := by rw [← sp3]; exact o4
  have D4 : Hid (Below w.heap.size w w4) := dp3.trans (B4.mono dp3.size)
  have HSET : Hid (IsSet x.comms r) := hset
  have HRL : Hid (r.length ≤ x.comms.length) := hrl
  obtain ⟨_, f0, f1, f2, f3, f4, f5, f6, f7⟩ := kp4.out.held
  obtain ⟨_, g0, g1, g2, g3, g4, g5, g6, g7⟩ := kq4.out.held
  have ff := kp4.out.frozen
  have gf := kq4.out.frozen
  clear h3 hset hrl o4 B4 kp3 kq3 op13 op23 dp3 sp3
  simp only [canonW] at f0 f1 f4 f5 f6 f7
  go_wp2_with fail
  refine bodyPost_ret (v := .agg #[.int .u32 (maskA x.addr x.len), .int .i64 (clampL x.len), .slice a1 x.path.length c1, .slice a4 r.length c4, .int .u32 x.pref, .int .u32 x.med, .int .i64 x.origin, .int .u32 x.hop]) (by simp [results, Try.results18, go_sem, g0, g1, g2, g3, g4, g5, g6, g7]) rfl ⟨_, _, w2.heap.size, r, rfl, HSET.out, HRL.out, ?_, ?_, ?_, ?_, ?_⟩
  · exact (((op14.out.setOther (by simp) _).put8 (by omega) (canonW x r) _ _).lower (by omega))
  · have h1 := S1.out
    have h2 := S2.out
    exact (O4.out.setOther (by simp only; omega) _).put8 (by omega) (canonW x r) _ _
  · have h1 := S1.out
    have h2 := S2.out
    omega
  · intro g hg
    have h1 := L1.out g hg
    have h2 := S2.out
    omega
  · exact below_put8 (D4.out.setCell (Nat.le_refl _) _) (by omega) (canonW x r) _ _
end Go.Proofs.Ytaaaccgakahapaa
