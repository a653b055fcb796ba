/-
  The walks of renew and of the two Copies.
-/
import Derived.Test.YtaaaccgakahapaaW8
import Derived.Test.YtaaaccgakahapaaOwn1
namespace Go.Proofs.Ytaaaccgakahapaa
open Go.RowKit

theorem Own1.same {base : Nat} {w w' : World} {v : Value} {l : List Int} (h : Own1 base w v l) (hs : ∀ g, v.ownBlock = some g → w'.heap[g]? = w.heap[g]?) : Own1 base w' v l := by
  refine ⟨h.1, ?_⟩
  rcases h.2 with h | ⟨g, cap, cur, rfl, hb, hg, h1⟩
  · exact .inl h
  · exact .inr ⟨g, cap, cur, rfl, hb, (hs g rfl).trans hg, h1⟩

theorem Own1.lower {base base' : Nat} {w : World} {v : Value} {l : List Int} (h : Own1 base' w v l) (hb : base ≤ base') : Own1 base w v l := by
  refine ⟨h.1, ?_⟩
  rcases h.2 with h | ⟨g, cap, cur, rfl, hg, h1⟩
  · exact .inl h
  · exact .inr ⟨g, cap, cur, rfl, Nat.le_trans hb hg, h1⟩

theorem Own1.lt {base : Nat} {w : World} {v : Value} {l : List Int} (h : Own1 base w v l) {g : Nat} (hg : v.ownBlock = some g) : base ≤ g ∧ g < w.heap.size := World.ownsRow.lt h g hg

theorem Own1.bel {base : Nat} {w w' : World} {v : Value} {l : List Int} (h : Own1 base w v l) (hB : Below w.heap.size w w') : Own1 base w' v l :=
  h.same fun g hg => hB.block g (h.lt hg).2

set_option maxHeartbeats 1000000 in
theorem renew_any (v : Value) (l : List Int) (w : World) (hl : l.length ≤ 100000) (hv : Row1 w v l) :
    Calls Try.prog 29 #[v] w fun e w' => ∃ u, e = .returned u ∧ Own1 w.heap.size w' u l ∧ Below w.heap.size w w' := by
  have HV : Hid (Row1 w v l) := hv
  obtain ⟨ao, cap, rfl⟩ := hv.form
  clear hv
  go_enter Try.func29, Try.ntmps29
  go_wp2_with (at_builtin; refine wp_appAll rfl _ _ rfl w.heap.size _ [] rfl (Own1.nil _ _) _ l rfl HV.out (by simp; omega) (Nat.le_refl _) ?_; intro u w' how hB)
  go_ret
  exact ⟨_, rfl, how, hB⟩

/-- This block holds the route. -/
def BlkR (w : World) (b : Nat) (x : Rt) (u v : Value) : Prop := w.heap[b]? = some (.cells (rcells x u v) 27 (0, 0))

/-- Nothing. -/
def zeroR : Rt := ⟨0, 0, [], [], 0, 0, 0, 0⟩
abbrev nilV : Value := .slice none 0 0

theorem BlkR.lt {w : World} {b : Nat} {x : Rt} {u v : Value} (h : BlkR w b x u v) : b < w.heap.size := (Array.getElem?_eq_some_iff.1 h).1
theorem BlkR.new (w : World) (x : Rt) (u v : Value) : BlkR (w.alloc (.cells (rcells x u v) 27)) w.heap.size x u v := heap_alloc_new w _
theorem BlkR.bel {w w' : World} {b : Nat} {x : Rt} {u v : Value} (h : BlkR w b x u v) (hB : Below w.heap.size w w') : BlkR w' b x u v := (hB.block b h.lt).trans h
theorem BlkR.alloc {w : World} {b : Nat} {x : Rt} {u v : Value} (h : BlkR w b x u v) (o : Obj) : BlkR (w.alloc o) b x u v := h.bel ((Below.refl _ _).alloc (Nat.le_refl _) o)
theorem BlkR.other {w : World} {b : Nat} {x : Rt} {u v : Value} (h : BlkR w b x u v) {p : Addr} (hp : b ≠ p.block) (z : Value) : BlkR (w.setCell p z) b x u v := (Below.heap_setCell _ _ _ _ hp).trans h
theorem BlkR.frozen {w : World} {b : Nat} {x : Rt} {u v : Value} (h : BlkR w b x u v) (o : Nat) : w.frozen? ⟨b, o, none⟩ = false := by
  unfold BlkR at h
  simp [World.frozen?, h]
theorem BlkR.held {w : World} {b : Nat} {x : Rt} {u v : Value} (h : BlkR w b x u v) : HeldR w b x u v := by
  have hl := h.lt
  unfold BlkR at h
  refine ⟨hl, ?_, ?_, ?_, ?_, ?_, ?_, ?_, ?_⟩ <;> simp [World.cell?, h]
theorem BlkR.set2 {w : World} {b : Nat} {x : Rt} {u v : Value} (h : BlkR w b x u v) (z : Value) : BlkR (w.setCell ⟨b, 2, none⟩ z) b x z v := heap_setCell_same w b 2 _ 27 z h
theorem BlkR.set3 {w : World} {b : Nat} {x : Rt} {u v : Value} (h : BlkR w b x u v) (z : Value) : BlkR (w.setCell ⟨b, 3, none⟩ z) b x u z := heap_setCell_same w b 3 _ 27 z h

/-- The route put into a block, cell by cell. -/
abbrev put8 (w : World) (b : Nat) (x : Rt) (u v : Value) : World := (((((((w.setCell ⟨b, 0, none⟩ (.int .u32 x.addr)).setCell ⟨b, 1, none⟩ (.int .i64 x.len)).setCell ⟨b, 2, none⟩ u).setCell ⟨b, 3, none⟩ v).setCell ⟨b, 4, none⟩ (.int .u32 x.pref)).setCell ⟨b, 5, none⟩ (.int .u32 x.med)).setCell ⟨b, 6, none⟩ (.int .i64 x.origin)).setCell ⟨b, 7, none⟩ (.int .u32 x.hop)

theorem Own1.setOther {base : Nat} {w : World} {v : Value} {l : List Int} (h : Own1 base w v l) {p : Addr} (hp : p.block < base) (z : Value) : Own1 base (w.setCell p z) v l :=
  h.same fun g hg => Below.heap_setCell _ _ _ _ (by have := (h.lt hg).1; omega)
theorem Own1.put8 {base : Nat} {w : World} {v : Value} {l : List Int} (h : Own1 base w v l) {b : Nat} (hb : b < base) (x : Rt) (u v' : Value) : Own1 base (put8 w b x u v') v l :=
  (((((((h.setOther hb _).setOther hb _).setOther hb _).setOther hb _).setOther hb _).setOther hb _).setOther hb _).setOther hb _
theorem below_put8 {B : Nat} {a w : World} (h : Below B a w) {b : Nat} (hb : B ≤ b) (x : Rt) (u v : Value) : Below B a (put8 w b x u v) :=
  (((((((h.setCell hb _).setCell hb _).setCell hb _).setCell hb _).setCell hb _).setCell hb _).setCell hb _).setCell hb _

set_option maxHeartbeats 1000000 in
theorem copy_any (x : Rt) (u v : Value) (w : World) (hp : x.path.length ≤ 100000) (hc : x.comms.length ≤ 100000) (rx : Rts w x u v) :
    Calls Try.prog 16 #[rv x u v] w fun e w' => ∃ u' v' B, e = .returned (rv x u' v') ∧ Own1 w.heap.size w' u' x.path ∧ Own1 B w' v' x.comms ∧ w.heap.size ≤ B ∧ (∀ g, u'.ownBlock = some g → g < B) ∧ Below w.heap.size w w' := by
  obtain ⟨ao1, cap1, rfl⟩ := rx.p.form
  obtain ⟨ao2, cap2, rfl⟩ := rx.c.form
  have HR : Hid (Rts w x (.slice ao1 x.path.length cap1) (.slice ao2 x.comms.length cap2)) := rx
  clear rx
  obtain ⟨n, hn⟩ : ∃ n, n = w.heap.size := ⟨_, rfl⟩
  obtain ⟨W, hW⟩ : ∃ W, W = ((w.alloc (.cells (rcells x (.slice ao1 x.path.length cap1) (.slice ao2 x.comms.length cap2)) 27)).alloc (.cells (rcells zeroR nilV nilV) 27)).alloc (.cells (rcells x (.slice ao1 x.path.length cap1) (.slice ao2 x.comms.length cap2)) 27) := ⟨_, rfl⟩
  have BW : Below w.heap.size w W := by rw [hW]; exact (((Below.refl _ _).alloc (Nat.le_refl _) _).alloc (by simp) _).alloc (by simp; omega) _
  have SW : W.heap.size = n + 3 := by rw [hW, hn]; simp
  have k0 : BlkR W n x (.slice ao1 x.path.length cap1) (.slice ao2 x.comms.length cap2) := by rw [hW, hn]; exact ((BlkR.new w _ _ _).alloc _).alloc _
  have k1 : BlkR W (n + 1) zeroR nilV nilV := by
    have := (BlkR.new (w.alloc (.cells (rcells x (.slice ao1 x.path.length cap1) (.slice ao2 x.comms.length cap2)) 27)) zeroR nilV nilV).alloc (.cells (rcells x (.slice ao1 x.path.length cap1) (.slice ao2 x.comms.length cap2)) 27)
    rw [show (w.alloc (.cells (rcells x (.slice ao1 x.path.length cap1) (.slice ao2 x.comms.length cap2)) 27)).heap.size = n + 1 from by rw [hn]; simp] at this
    rw [hW]; exact this
  have k2 : BlkR W (n + 1 + 1) x (.slice ao1 x.path.length cap1) (.slice ao2 x.comms.length cap2) := by
    have := BlkR.new ((w.alloc (.cells (rcells x (.slice ao1 x.path.length cap1) (.slice ao2 x.comms.length cap2)) 27)).alloc (.cells (rcells zeroR nilV nilV) 27)) x (.slice ao1 x.path.length cap1) (.slice ao2 x.comms.length cap2)
    rw [show ((w.alloc (.cells (rcells x (.slice ao1 x.path.length cap1) (.slice ao2 x.comms.length cap2)) 27)).alloc (.cells (rcells zeroR nilV nilV) 27)).heap.size = n + 1 + 1 from by rw [hn]; simp] at this
    rw [hW]; exact this
  have h1 := renew_any _ x.path W hp (HR.out.p.bel BW)
  have RC : Hid (Row1 w (.slice ao2 x.comms.length cap2) x.comms) := HR.out.c
  have HB : Hid (Below w.heap.size w W) := BW
  have HS : Hid (W.heap.size = n + 3) := SW
  have HN : Hid (n = w.heap.size) := hn
  clear BW SW HR
  unfold rv
  have HW2 : Hid (((w.alloc (.cells #[.int .u32 x.addr, .int .i64 x.len, .slice ao1 x.path.length cap1, .slice ao2 x.comms.length cap2, .int .u32 x.pref, .int .u32 x.med, .int .i64 x.origin, .int .u32 x.hop] 27)).alloc (.cells #[.int .u32 0, .int .i64 0, .slice none 0 0, .slice none 0 0, .int .u32 0, .int .u32 0, .int .i64 0, .int .u32 0] 27)).alloc (.cells #[.int .u32 x.addr, .int .i64 x.len, .slice ao1 x.path.length cap1, .slice ao2 x.comms.length cap2, .int .u32 x.pref, .int .u32 x.med, .int .i64 x.origin, .int .u32 x.hop] 27) = W) := hW.symm
  clear hW hn
  go_enter Try.func16, Try.ntmps16
  go_wp2_with fail
  rw [HW2.out, ← HN.out]
  clear HW2
  refine h1.mono ?_
  rintro e w1 ⟨u1, rfl, o1, B1⟩
  have K0 : Hid (BlkR w1 n x (.slice ao1 x.path.length cap1) (.slice ao2 x.comms.length cap2)) := k0.bel B1
  have K1 : Hid (BlkR w1 (n + 1) zeroR nilV nilV) := k1.bel B1
  have K2 : Hid (BlkR w1 (n + 1 + 1) x (.slice ao1 x.path.length cap1) (.slice ao2 x.comms.length cap2)) := k2.bel B1
  have O1 : Hid (Own1 W.heap.size w1 u1 x.path) := o1
  have HB1 : Hid (Below W.heap.size W w1) := B1
  obtain ⟨a1, c1, rfl⟩ := o1.form
  have z3 := K0.out.held.c3
  have f2 := K2.out.held.c2
  have f2f := K2.out.frozen 2
  clear h1 k0 k1 k2 o1 B1 K0
  go_wp2_with fail
  have BW1 : Below w.heap.size w w1 := HB.out.trans (HB1.out.mono HB.out.size)
  have BW2 : Below w.heap.size w (w1.setCell ⟨n + 1 + 1, 2, none⟩ (.slice a1 x.path.length c1)) := BW1.setCell (p := ⟨n + 1 + 1, 2, none⟩) (by have := HN.out; simp only; omega) _
  have S2 : (w1.setCell ⟨n + 1 + 1, 2, none⟩ (.slice a1 x.path.length c1)).heap.size = w1.heap.size := by simp
  have j1 : BlkR (w1.setCell ⟨n + 1 + 1, 2, none⟩ (.slice a1 x.path.length c1)) (n + 1) zeroR nilV nilV := K1.out.other (by simp) _
  have j2 : BlkR (w1.setCell ⟨n + 1 + 1, 2, none⟩ (.slice a1 x.path.length c1)) (n + 1 + 1) x (.slice a1 x.path.length c1) (.slice ao2 x.comms.length cap2) := K2.out.set2 _
  have p1 : Own1 (n + 3) (w1.setCell ⟨n + 1 + 1, 2, none⟩ (.slice a1 x.path.length c1)) (.slice a1 x.path.length c1) x.path := by
    have := O1.out
    rw [HS.out] at this
    exact this.setOther (by simp) _
  have L1 : Hid (∀ g, (Value.slice a1 x.path.length c1).ownBlock = some g → g < w1.heap.size) := fun g hg => (O1.out.lt hg).2
  have LN : Hid (n + 3 ≤ w1.heap.size) := by have := HB1.out.size; rw [HS.out] at this; exact this
  clear z3 f2 f2f K1 K2 O1 HB1 HB HS BW1
  generalize w1.setCell ⟨n + 1 + 1, 2, none⟩ (.slice a1 x.path.length c1) = W2 at *
  have h2 := renew_any _ x.comms W2 hc (RC.out.kept BW2 (Nat.le_refl _))
  refine h2.mono ?_
  rintro e w2 ⟨u2, rfl, o2, B2⟩
  have J1 : Hid (BlkR w2 (n + 1) zeroR nilV nilV) := j1.bel B2
  have J2 : Hid (BlkR w2 (n + 1 + 1) x (.slice a1 x.path.length c1) (.slice ao2 x.comms.length cap2)) := j2.bel B2
  have P1 : Hid (Own1 (n + 3) w2 (.slice a1 x.path.length c1) x.path) := p1.bel B2
  have O2 : Hid (Own1 w1.heap.size w2 u2 x.comms) := by rw [← S2]; exact o2
  have B2' : Hid (Below w.heap.size w w2) := BW2.trans (B2.mono BW2.size)
  obtain ⟨a2, c2, rfl⟩ := o2.form
  obtain ⟨_, e0, e1, e2, e3, e4, e5, e6, e7⟩ := J2.out.held
  obtain ⟨_, g0, g1, g2, g3, g4, g5, g6, g7⟩ := J1.out.held
  have ef := J2.out.frozen
  have gf := J1.out.frozen
  clear h2 j1 j2 p1 o2 B2 S2 BW2 RC J1 J2
  go_wp2_with fail
  refine bodyPost_ret (v := .agg #[.int .u32 x.addr, .int .i64 x.len, .slice a1 x.path.length c1, .slice a2 x.comms.length c2, .int .u32 x.pref, .int .u32 x.med, .int .i64 x.origin, .int .u32 x.hop]) (by simp [results, Try.results16, go_sem, g0, g1, g2, g3, g4, g5, g6, g7]) rfl ⟨_, _, w1.heap.size, rfl, ?_, ?_, ?_, L1.out, ?_⟩
  · have := HN.out
    exact (((P1.out.setOther (by simp) _).put8 (by omega) x _ _).lower (by omega))
  · have := LN.out
    exact (O2.out.setOther (by simp only; omega) _).put8 (by omega) x _ _
  · have := LN.out
    have := HN.out
    omega
  · have := HN.out
    exact below_put8 (B2'.out.setCell (by simp only; omega) _) (by omega) x _ _
end Go.Proofs.Ytaaaccgakahapaa
