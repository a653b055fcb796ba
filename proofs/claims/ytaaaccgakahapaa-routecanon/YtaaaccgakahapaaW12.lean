/-
  The walk of the document's own Copy.
-/
import Derived.Test.YtaaaccgakahapaaW11
namespace Go.Proofs.Ytaaaccgakahapaa
open Go.RowKit

/-- What a Copy answers. -/
def Copied (w : World) (x : Rt) (e : Ending) (w' : World) : Prop := ∃ u' v' B, e = .returned (rv x u' v') ∧ Own1 w.heap.size w' u' x.path ∧ Own1 B w' v' x.comms ∧ w.heap.size ≤ B ∧ (∀ g, u'.ownBlock = some g → g < B) ∧ Below w.heap.size w w'

theorem Own1.setApart {base : Nat} {w : World} {v : Value} {l : List Int} (h : Own1 base w v l) {p : Addr} (hp : v.ownBlock ≠ some p.block) (z : Value) : Own1 base (w.setCell p z) v l :=
  h.same fun g hg => Below.heap_setCell _ _ _ _ (fun e => hp (by rw [hg, e]))
theorem own_put8Apart {base : Nat} {w : World} {v : Value} {l : List Int} (h : Own1 base w v l) {b : Nat} (hb : v.ownBlock ≠ some b) (x : Rt) (u v' : Value) : Own1 base (put8 w b x u v') v l :=
  (((((((h.setApart hb _).setApart hb _).setApart hb _).setApart hb _).setApart hb _).setApart hb _).setApart hb _).setApart hb _

set_option maxHeartbeats 1000000 in
theorem rcopy_any (x : Rt) (u v : Value) (w : World) (hp : x.path.length ≤ 100000) (hc : x.comms.length ≤ 100000) (rx : Rts w x u v) :
    Calls Try.prog 14 #[rv x u v] w (Copied w x) := by
  unfold Copied
  obtain ⟨ao1, cap1, rfl⟩ := rx.p.form
  obtain ⟨ao2, cap2, rfl⟩ := rx.c.form
  have HR : Hid (Rts w x (.slice ao1 x.path.length cap1) (.slice ao2 x.comms.length cap2)) := rx
  clear rx
  obtain ⟨W, hW⟩ : ∃ W, W = ((w.alloc (.cells #[.int .u32 x.addr, .int .i64 x.len, .slice ao1 x.path.length cap1, .slice ao2 x.comms.length cap2, .int .u32 x.pref, .int .u32 x.med, .int .i64 x.origin, .int .u32 x.hop] 27)).alloc (.cells #[.int .u32 0, .int .i64 0, .slice none 0 0, .slice none 0 0, .int .u32 0, .int .u32 0, .int .i64 0, .int .u32 0] 27)) := ⟨_, rfl⟩
  have HW2 : Hid (((w.alloc (.cells #[.int .u32 x.addr, .int .i64 x.len, .slice ao1 x.path.length cap1, .slice ao2 x.comms.length cap2, .int .u32 x.pref, .int .u32 x.med, .int .i64 x.origin, .int .u32 x.hop] 27)).alloc (.cells #[.int .u32 0, .int .i64 0, .slice none 0 0, .slice none 0 0, .int .u32 0, .int .u32 0, .int .i64 0, .int .u32 0] 27)) = W) := hW.symm
  have BW : Below w.heap.size w W := by rw [hW]; exact ((Below.refl _ _).alloc (Nat.le_refl _) _).alloc (by simp) _
  have HSW : Hid (w.heap.size + 1 + 1 = W.heap.size) := by rw [hW]; simp [Hid]
  have k0 : Hid (BlkR W w.heap.size x (.slice ao1 x.path.length cap1) (.slice ao2 x.comms.length cap2)) := by rw [hW]; exact (BlkR.new w x (.slice ao1 x.path.length cap1) (.slice ao2 x.comms.length cap2)).alloc _
  have k1 : Hid (BlkR W (w.heap.size + 1) zeroR nilV nilV) := by
    have := BlkR.new (w.alloc (.cells (rcells x (.slice ao1 x.path.length cap1) (.slice ao2 x.comms.length cap2)) 27)) zeroR nilV nilV
    rw [show (w.alloc (.cells (rcells x (.slice ao1 x.path.length cap1) (.slice ao2 x.comms.length cap2)) 27)).heap.size = w.heap.size + 1 from by simp] at this
    rw [hW]; exact this
  have E2 : Hid (Own1 (w.heap.size + 1 + 1) (((w.alloc (.cells #[.int .u32 x.addr, .int .i64 x.len, .slice ao1 x.path.length cap1, .slice ao2 x.comms.length cap2, .int .u32 x.pref, .int .u32 x.med, .int .i64 x.origin, .int .u32 x.hop] 27)).alloc (.cells #[.int .u32 0, .int .i64 0, .slice none 0 0, .slice none 0 0, .int .u32 0, .int .u32 0, .int .i64 0, .int .u32 0] 27)).alloc (.cells #[] 22)) (.slice (some ⟨w.heap.size + 1 + 1, 0, none⟩) 0 0) []) := by
    have := Own1.empty W.heap.size W (Nat.le_refl _)
    rw [← HSW.out, ← HW2.out] at this
    exact this
  have R2 : Hid (Row1 (((w.alloc (.cells #[.int .u32 x.addr, .int .i64 x.len, .slice ao1 x.path.length cap1, .slice ao2 x.comms.length cap2, .int .u32 x.pref, .int .u32 x.med, .int .i64 x.origin, .int .u32 x.hop] 27)).alloc (.cells #[.int .u32 0, .int .i64 0, .slice none 0 0, .slice none 0 0, .int .u32 0, .int .u32 0, .int .i64 0, .int .u32 0] 27)).alloc (.cells #[] 22)) (.slice ao1 x.path.length cap1) x.path) := by
    have := (HR.out.p.bel BW).alloc (.cells #[] 22)
    rw [← HW2.out] at this
    exact this
  have SZ : Hid (w.heap.size + 1 + 1 ≤ (((w.alloc (.cells #[.int .u32 x.addr, .int .i64 x.len, .slice ao1 x.path.length cap1, .slice ao2 x.comms.length cap2, .int .u32 x.pref, .int .u32 x.med, .int .i64 x.origin, .int .u32 x.hop] 27)).alloc (.cells #[.int .u32 0, .int .i64 0, .slice none 0 0, .slice none 0 0, .int .u32 0, .int .u32 0, .int .i64 0, .int .u32 0] 27)).alloc (.cells #[] 22)).heap.size) := by
    rw [HW2.out, HSW.out]
    simp [Hid]
  have HB : Hid (Below w.heap.size w W) := BW
  have LP : Hid (([] : List Int).length + x.path.length ≤ 1000000) := by simp [Hid]; omega
  have LC : Hid (([] : List Int).length + x.comms.length ≤ 1000000) := by simp [Hid]; omega
  unfold rv
  clear BW hW
  go_enter Try.func14, Try.ntmps14
  go_wp2_with (first
    | (at_builtin; refine wp_appAll rfl _ _ rfl (w.heap.size + 1 + 1) _ [] rfl E2.out _ x.path rfl R2.out LP.out SZ.out ?_; intro u1 w1 o1 B1
       rw [HW2.out, HSW.out] at B1
       rw [HSW.out] at o1
       have C1 : Hid (Below W.heap.size W w1) := ((Below.refl W.heap.size W).alloc (Nat.le_refl _) _).trans B1
       have K0 : Hid (BlkR w1 w.heap.size x (.slice ao1 x.path.length cap1) (.slice ao2 x.comms.length cap2)) := k0.out.bel C1.out
       have K1 : Hid (BlkR w1 (w.heap.size + 1) zeroR nilV nilV) := k1.out.bel C1.out
       have O1 : Hid (Own1 W.heap.size w1 u1 x.path) := o1
       obtain ⟨a1, c1, rfl⟩ := O1.out.form
       have z2 := K0.out.held.c2
       have z3 := ((K0.out.set2 (.slice a1 x.path.length c1)).alloc (.cells #[] 22)).held.c3
       have zf := K0.out.frozen
       have BW1 : Hid (Below w.heap.size w w1) := HB.out.trans (C1.out.mono HB.out.size)
       have BW2 : Hid (Below w.heap.size w (w1.setCell ⟨w.heap.size, 2, none⟩ (.slice a1 x.path.length c1))) := BW1.out.setCell (p := ⟨w.heap.size, 2, none⟩) (Nat.le_refl _) _
       have SV : Hid ((w1.setCell ⟨w.heap.size, 2, none⟩ (.slice a1 x.path.length c1)).heap.size = w1.heap.size) := by simp [Hid]
       have E3 : Hid (Own1 w1.heap.size ((w1.setCell ⟨w.heap.size, 2, none⟩ (.slice a1 x.path.length c1)).alloc (.cells #[] 22)) (.slice (some ⟨w1.heap.size, 0, none⟩) 0 0) []) := by
         have := Own1.empty w1.heap.size (w1.setCell ⟨w.heap.size, 2, none⟩ (.slice a1 x.path.length c1)) (by rw [SV.out]; exact Nat.le_refl _)
         rw [SV.out] at this
         exact this
       have R3 : Hid (Row1 ((w1.setCell ⟨w.heap.size, 2, none⟩ (.slice a1 x.path.length c1)).alloc (.cells #[] 22)) (.slice ao2 x.comms.length cap2) x.comms) := (HR.out.c.kept BW2.out (Nat.le_refl _)).alloc _
       have SZ3 : Hid (w1.heap.size ≤ ((w1.setCell ⟨w.heap.size, 2, none⟩ (.slice a1 x.path.length c1)).alloc (.cells #[] 22)).heap.size) := by simp [Hid]
       clear o1 B1)
    | (at_builtin; refine wp_appAll rfl _ _ rfl w1.heap.size _ [] rfl E3.out _ x.comms rfl R3.out LC.out SZ3.out ?_; intro u2 w2 o2 B2
       have C2 : Hid (Below w1.heap.size (w1.setCell ⟨w.heap.size, 2, none⟩ (.slice a1 x.path.length c1)) w2) := ((Below.refl w1.heap.size _).alloc (by rw [SV.out]; exact Nat.le_refl _) _).trans B2
       have C2' : Hid (Below (w1.setCell ⟨w.heap.size, 2, none⟩ (.slice a1 x.path.length c1)).heap.size (w1.setCell ⟨w.heap.size, 2, none⟩ (.slice a1 x.path.length c1)) w2) := by rw [SV.out]; exact C2.out
       have J0 : Hid (BlkR w2 w.heap.size x (.slice a1 x.path.length c1) (.slice ao2 x.comms.length cap2)) := (K0.out.set2 _).bel C2'.out
       have J1 : Hid (BlkR w2 (w.heap.size + 1) zeroR nilV nilV) := (K1.out.other (by simp) _).bel C2'.out
       have P1 : Hid (Own1 W.heap.size w2 (.slice a1 x.path.length c1) x.path) := (O1.out.setOther (by rw [← HSW.out]; simp only; omega) _).bel C2'.out
       have O2 : Hid (Own1 w1.heap.size w2 u2 x.comms) := o2
       have B2' : Hid (Below w.heap.size w w2) := BW2.out.trans (C2'.out.mono BW2.out.size)
       obtain ⟨a2, c2, rfl⟩ := O2.out.form
       obtain ⟨_, e0, e1, e2, e3, e4, e5, e6, e7⟩ := J0.out.held
       obtain ⟨_, g0, g1, g2, g3, g4, g5, g6, g7⟩ := J1.out.held
       have ef := J0.out.frozen
       have gf := J1.out.frozen
       clear o2 B2 z2 z3 zf))
  have LN : w.heap.size + 1 + 1 ≤ w1.heap.size := by have := C1.out.size; rw [← HSW.out] at this; exact this
  refine bodyPost_ret (v := .agg #[.int .u32 x.addr, .int .i64 x.len, .slice a1 x.path.length c1, .slice a2 x.comms.length c2, .int .u32 x.pref, .int .u32 x.med, .int .i64 x.origin, .int .u32 x.hop]) (by simp [results, Try.results14, go_sem, g0, g1, g2, g3, g4, g5, g6, g7]) rfl ⟨_, _, w1.heap.size, rfl, ?_, ?_, ?_, fun g hg => (O1.out.lt hg).2, ?_⟩
  · exact (((P1.out.setOther (by rw [← HSW.out]; simp only; omega) _).put8 (by rw [← HSW.out]; omega) x _ _).lower (by rw [← HSW.out]; omega))
  · exact (O2.out.setOther (by simp only; omega) _).put8 (by omega) x _ _
  · omega
  · exact below_put8 (B2'.out.setCell (by simp only; omega) _) (by omega) x _ _
end Go.Proofs.Ytaaaccgakahapaa
