/-
  The walk of route.Canon.
-/
import Derived.Test.YtaaaccgakahapaaW12
import Derived.Test.YtaaaccgakahapaaSrt
namespace Go.Proofs.Ytaaaccgakahapaa
open Go.RowKit

theorem BlkR.set01 {w : World} {b : Nat} {x : Rt} {u v : Value} (h : BlkR w b x u v) (p q : Int) : BlkR ((w.setCell ⟨b, 0, none⟩ (.int .u32 p)).setCell ⟨b, 1, none⟩ (.int .i64 q)) b { x with addr := p, len := q } u v :=
  heap_setCell_same _ b 1 _ 27 _ (heap_setCell_same w b 0 _ 27 _ h)

theorem Own1.grown {base : Nat} {w w' : World} {v : Value} {l : List Int} {o : Option Nat} (h : Own1 base w v l) (hg : w.grownBy w' o) (hne : ∀ g, v.ownBlock = some g → some g ≠ o) : Own1 base w' v l :=
  h.same fun g e => hg.block g (h.lt e).2 (hne g e)
theorem BlkR.grown {w w' : World} {b : Nat} {x : Rt} {u v : Value} {o : Option Nat} (h : BlkR w b x u v) (hg : w.grownBy w' o) (hne : some b ≠ o) : BlkR w' b x u v := (hg.block b h.lt hne).trans h
theorem below_grownBy {B : Nat} {a w w' : World} {o : Option Nat} (h : Below B a w) (hg : w.grownBy w' o) (hs : B ≤ w.heap.size) (ho : ∀ g, o = some g → B ≤ g) : Below B a w' := h.grown hg hs ho

/-- What a Canon answers. -/
def Canoned (w : World) (x : Rt) (e : Ending) (w' : World) : Prop := ∃ u' v' B r, e = .returned (rv (canonW x r) u' v') ∧ IsSet x.comms r ∧ r.length ≤ x.comms.length ∧ Own1 w.heap.size w' u' x.path ∧ Own1 B w' v' r ∧ w.heap.size ≤ B ∧ (∀ g, u'.ownBlock = some g → g < B) ∧ Below w.heap.size w w'

theorem isSet_perm {l l' r : List Int} (h : l'.Perm l) (k : IsSet l' r) : IsSet l r := ⟨k.1, fun x => (k.2 x).trans h.mem_iff⟩

set_option maxHeartbeats 2000000 in
theorem canon_any (x : Rt) (u v : Value) (w : World) (hx : Num x.addr) (hp : x.path.length ≤ 100000) (hc : x.comms.length ≤ 100000) (rx : Rts w x u v) :
    Calls Try.prog 15 #[rv x u v] w (Canoned w x) := by
  unfold Canoned
  obtain ⟨ao1, cap1, rfl⟩ := rx.p.form
  obtain ⟨ao2, cap2, rfl⟩ := rx.c.form
  obtain ⟨W, hW⟩ : ∃ W, W = (w.alloc (.cells #[.int .u32 x.addr, .int .i64 x.len, .slice ao1 x.path.length cap1, .slice ao2 x.comms.length cap2, .int .u32 x.pref, .int .u32 x.med, .int .i64 x.origin, .int .u32 x.hop] 27)).alloc (.cells #[.int .u32 0, .int .i64 0, .slice none 0 0, .slice none 0 0, .int .u32 0, .int .u32 0, .int .i64 0, .int .u32 0] 27) := ⟨_, rfl⟩
  have HW2 : Hid ((w.alloc (.cells #[.int .u32 x.addr, .int .i64 x.len, .slice ao1 x.path.length cap1, .slice ao2 x.comms.length cap2, .int .u32 x.pref, .int .u32 x.med, .int .i64 x.origin, .int .u32 x.hop] 27)).alloc (.cells #[.int .u32 0, .int .i64 0, .slice none 0 0, .slice none 0 0, .int .u32 0, .int .u32 0, .int .i64 0, .int .u32 0] 27) = W) := hW.symm
  have BW : Below w.heap.size w W := by rw [hW]; exact ((Below.refl _ _).alloc (Nat.le_refl _) _).alloc (by simp) _
  have HSW : Hid (W.heap.size = w.heap.size + 2) := by rw [hW]; simp [Hid]
  have k0 : Hid (BlkR W w.heap.size x (.slice ao1 x.path.length cap1) (.slice ao2 x.comms.length cap2)) := by rw [hW]; exact (BlkR.new w x (.slice ao1 x.path.length cap1) (.slice ao2 x.comms.length cap2)).alloc _
  have k1 : Hid (BlkR W (w.heap.size + 1) zeroR nilV nilV) := by
    have := BlkR.new (w.alloc (.cells (rcells x (.slice ao1 x.path.length cap1) (.slice ao2 x.comms.length cap2)) 27)) zeroR nilV nilV
    rw [show (w.alloc (.cells (rcells x (.slice ao1 x.path.length cap1) (.slice ao2 x.comms.length cap2)) 27)).heap.size = w.heap.size + 1 from by simp] at this
    rw [hW]; exact this
  have h1 := copy_any x (.slice ao1 x.path.length cap1) (.slice ao2 x.comms.length cap2) W hp hc (rx.bel BW)
  have HB : Hid (Below w.heap.size w W) := BW
  have HX : Hid (Num x.addr) := hx
  clear BW hW rx hx
  unfold rv at h1 ⊢
  go_enter Try.func15, Try.ntmps15
  go_wp2_with fail
  rw [HW2.out]
  clear HW2
  refine h1.mono ?_
  rintro e w1 ⟨u1, v1, B, rfl, o1, o2, hB, hlt, B1⟩
  obtain ⟨a1, c1, rfl⟩ := o1.form
  obtain ⟨a2, c2, rfl⟩ := o2.form
  obtain ⟨W3, hW3⟩ : ∃ W3, W3 = w1.alloc (.cells #[.int .u32 x.addr, .int .i64 x.len, .slice a1 x.path.length c1, .slice a2 x.comms.length c2, .int .u32 x.pref, .int .u32 x.med, .int .i64 x.origin, .int .u32 x.hop] 27) := ⟨_, rfl⟩
  have HW3 : Hid (w1.alloc (.cells #[.int .u32 x.addr, .int .i64 x.len, .slice a1 x.path.length c1, .slice a2 x.comms.length c2, .int .u32 x.pref, .int .u32 x.med, .int .i64 x.origin, .int .u32 x.hop] 27) = W3) := hW3.symm
  obtain ⟨m, hm⟩ : ∃ m, m = w1.heap.size := ⟨_, rfl⟩
  have HM : Hid (m = w1.heap.size) := hm
  have C1 : Below W.heap.size W W3 := by rw [hW3]; exact B1.alloc B1.size _
  have k3 : Hid (BlkR W3 m x (.slice a1 x.path.length c1) (.slice a2 x.comms.length c2)) := by rw [hW3, hm]; exact BlkR.new w1 x (.slice a1 x.path.length c1) (.slice a2 x.comms.length c2)
  have j0 : Hid (BlkR W3 w.heap.size x (.slice ao1 x.path.length cap1) (.slice ao2 x.comms.length cap2)) := k0.out.bel C1
  have j1 : Hid (BlkR W3 (w.heap.size + 1) zeroR nilV nilV) := k1.out.bel C1
  have p1 : Hid (Own1 W.heap.size W3 (.slice a1 x.path.length c1) x.path) := by rw [hW3]; exact o1.alloc _
  have p2 : Hid (Own1 B W3 (.slice a2 x.comms.length c2) x.comms) := by rw [hW3]; exact o2.alloc _
  have M1 : Hid (∀ g, (Value.slice a1 x.path.length c1).ownBlock = some g → g < m) := fun g hg => by rw [hm]; exact (o1.lt hg).2
  have M2 : Hid (∀ g, (Value.slice a2 x.comms.length c2).ownBlock = some g → g < m) := fun g hg => by rw [hm]; exact (o2.lt hg).2
  have MB : Hid (w.heap.size + 2 ≤ m) := by rw [hm, ← HSW.out]; exact B1.size
  have HLT : Hid (∀ g, (Value.slice a1 x.path.length c1).ownBlock = some g → g < B) := hlt
  have HBB : Hid (w.heap.size + 2 ≤ B) := by rw [← HSW.out]; exact hB
  have D1 : Hid (Below w.heap.size w W3) := HB.out.trans (C1.mono HB.out.size)
  have z0 : (w1.alloc (.cells #[.int .u32 x.addr, .int .i64 x.len, .slice a1 x.path.length c1, .slice a2 x.comms.length c2, .int .u32 x.pref, .int .u32 x.med, .int .i64 x.origin, .int .u32 x.hop] 27)).cell? ⟨w.heap.size, 0, none⟩ = some (.int .u32 x.addr) := by rw [HW3.out]; exact j0.out.held.c0
  have z1 : (w1.alloc (.cells #[.int .u32 x.addr, .int .i64 x.len, .slice a1 x.path.length c1, .slice a2 x.comms.length c2, .int .u32 x.pref, .int .u32 x.med, .int .i64 x.origin, .int .u32 x.hop] 27)).cell? ⟨w.heap.size, 1, none⟩ = some (.int .i64 x.len) := by rw [HW3.out]; exact j0.out.held.c1
  clear h1 o1 o2 hB hlt B1 hW3 hm C1 k0 k1 HB
  go_wp2_with fail
  rw [HW3.out, ← HM.out]
  have h2 := mask_any x.addr x.len HX.out W3
  clear z0 z1 HW3
  refine h2.mono ?_
  rintro e w2 ⟨rfl, G2⟩
  have k3' : Hid (BlkR w2 m x (.slice a1 x.path.length c1) (.slice a2 x.comms.length c2)) := k3.out.bel G2.below
  have j1' : Hid (BlkR w2 (w.heap.size + 1) zeroR nilV nilV) := j1.out.bel G2.below
  have p1' : Hid (Own1 W.heap.size w2 (.slice a1 x.path.length c1) x.path) := p1.out.bel G2.below
  have p2' : Hid (Own1 B w2 (.slice a2 x.comms.length c2) x.comms) := p2.out.bel G2.below
  have D2 : Hid (Below w.heap.size w w2) := D1.out.trans (G2.below.mono D1.out.size)
  obtain ⟨_, e0, e1, _, e3, _, _, _, _⟩ := k3'.out.held
  have ef := k3'.out.frozen
  clear h2 G2 k3 j0 j1 p1 p2 D1
  go_wp2_with fail
  have k4 : BlkR ((w2.setCell ⟨m, 0, none⟩ (.int .u32 (maskA x.addr x.len))).setCell ⟨m, 1, none⟩ (.int .i64 (clampL x.len))) m (canonW x x.comms) (.slice a1 x.path.length c1) (.slice a2 x.comms.length c2) := k3'.out.set01 _ _
  have hmne : w.heap.size + 1 ≠ m := by have := MB.out; omega
  have j4 : BlkR ((w2.setCell ⟨m, 0, none⟩ (.int .u32 (maskA x.addr x.len))).setCell ⟨m, 1, none⟩ (.int .i64 (clampL x.len))) (w.heap.size + 1) zeroR nilV nilV := (j1'.out.other (by exact hmne) _).other (by exact hmne) _
  have q1 : Own1 W.heap.size ((w2.setCell ⟨m, 0, none⟩ (.int .u32 (maskA x.addr x.len))).setCell ⟨m, 1, none⟩ (.int .i64 (clampL x.len))) (.slice a1 x.path.length c1) x.path := (p1'.out.setApart (fun h => by have := M1.out _ h; simp only at this; omega) _).setApart (fun h => by have := M1.out _ h; simp only at this; omega) _
  have q2 : Own1 B ((w2.setCell ⟨m, 0, none⟩ (.int .u32 (maskA x.addr x.len))).setCell ⟨m, 1, none⟩ (.int .i64 (clampL x.len))) (.slice a2 x.comms.length c2) x.comms := (p2'.out.setApart (fun h => by have := M2.out _ h; simp only at this; omega) _).setApart (fun h => by have := M2.out _ h; simp only at this; omega) _
  have D4 : Below w.heap.size w ((w2.setCell ⟨m, 0, none⟩ (.int .u32 (maskA x.addr x.len))).setCell ⟨m, 1, none⟩ (.int .i64 (clampL x.len))) := (D2.out.setCell (by have := MB.out; simp only; omega) _).setCell (by have := MB.out; simp only; omega) _
  clear e0 e1 e3 ef k3' j1' p1' p2' D2
  generalize (w2.setCell ⟨m, 0, none⟩ (.int .u32 (maskA x.addr x.len))).setCell ⟨m, 1, none⟩ (.int .i64 (clampL x.len)) = W4 at *
  have h3 := sort_own B _ x.comms W4 (by omega) q2
  refine h3.mono ?_
  rintro e w5 ⟨rfl, l', hperm, hpw, q2', G5⟩
  have ne2 : ∀ g, (Value.slice a1 x.path.length c1).ownBlock = some g → some g ≠ (Value.slice a2 x.comms.length c2).ownBlock := fun g hg e => by
    have h1 := HLT.out g hg
    have h2 := (q2.lt e.symm).1
    omega
  have nem : some m ≠ (Value.slice a2 x.comms.length c2).ownBlock := fun e => by have := M2.out _ e.symm; omega
  have nen : some (w.heap.size + 1) ≠ (Value.slice a2 x.comms.length c2).ownBlock := fun e => by have := (q2.lt e.symm).1; have := HBB.out; omega
  have k5 : BlkR w5 m (canonW x x.comms) (.slice a1 x.path.length c1) (.slice a2 x.comms.length c2) := k4.grown G5 nem
  have j5 : BlkR w5 (w.heap.size + 1) zeroR nilV nilV := j4.grown G5 nen
  have q1' : Own1 W.heap.size w5 (.slice a1 x.path.length c1) x.path := q1.grown G5 ne2
  have bsz : ∀ g, (Value.slice a2 x.comms.length c2).ownBlock = some g → w.heap.size ≤ g := fun g hg => by have := (q2.lt hg).1; have := HBB.out; omega
  have D5 : Below w.heap.size w w5 := below_grownBy D4 G5 D4.size bsz
  have hlen : l'.length = x.comms.length := hperm.length_eq
  have h4 := compact_own B _ l' w5 (by omega) hpw q2'
  have K5 : Hid (BlkR w5 m (canonW x x.comms) (.slice a1 x.path.length c1) (.slice a2 x.comms.length c2)) := k5
  have J5 : Hid (BlkR w5 (w.heap.size + 1) zeroR nilV nilV) := j5
  have Q1 : Hid (Own1 W.heap.size w5 (.slice a1 x.path.length c1) x.path) := q1'
  have D5' : Hid (Below w.heap.size w w5) := D5
  have HP : Hid (l'.Perm x.comms) := hperm
  have HL : Hid (l'.length = x.comms.length) := hlen
  have N2 : Hid (∀ g, (Value.slice a1 x.path.length c1).ownBlock = some g → some g ≠ (Value.slice a2 x.comms.length c2).ownBlock) := ne2
  have NM : Hid (some m ≠ (Value.slice a2 x.comms.length c2).ownBlock) := nem
  have NN : Hid (some (w.heap.size + 1) ≠ (Value.slice a2 x.comms.length c2).ownBlock) := nen
  have BS : Hid (∀ g, (Value.slice a2 x.comms.length c2).ownBlock = some g → w.heap.size ≤ g) := bsz
  have e3 := K5.out.held.c3
  clear h3 k4 j4 q1 q2 D4 hperm hpw q2' G5 ne2 nem nen k5 j5 q1' bsz D5 hlen hmne
  go_wp2_with fail
  refine h4.mono ?_
  rintro e w6 ⟨u2, r, rfl, hset, hrl, q2, hob, G6⟩
  have k6 : Hid (BlkR w6 m (canonW x x.comms) (.slice a1 x.path.length c1) (.slice a2 x.comms.length c2)) := K5.out.grown G6 NM.out
  have j6 : Hid (BlkR w6 (w.heap.size + 1) zeroR nilV nilV) := J5.out.grown G6 NN.out
  have q6 : Hid (Own1 W.heap.size w6 (.slice a1 x.path.length c1) x.path) := Q1.out.grown G6 N2.out
  have D6 : Hid (Below w.heap.size w w6) := below_grownBy D5'.out G6 D5'.out.size BS.out
  have S6 : Hid (IsSet x.comms r) := isSet_perm HP.out hset
  have R6 : Hid (r.length ≤ x.comms.length) := by have := HL.out; show r.length ≤ x.comms.length; omega
  have O6 : Hid (Own1 B w6 u2 r) := q2
  have OB : Hid (u2.ownBlock ≠ some m) := fun h => NM.out (by rw [← hob, h])
  obtain ⟨a6, c6, rfl⟩ := q2.form
  obtain ⟨_, f0, f1, f2, f3, f4, f5, f6, f7⟩ := k6.out.held
  obtain ⟨_, g0, g1, g2, g3, g4, g5, g6, g7⟩ := j6.out.held
  have ff := k6.out.frozen
  have gf := j6.out.frozen
  clear h4 hset hrl q2 hob G6 e3 K5 J5 Q1 D5' HP HL
  simp only [canonW] at f0 f1 f4 f5 f6 f7
  have hn1 : w.heap.size + 1 ≠ m := by have := MB.out; omega
  have hn2 : m ≠ w.heap.size + 1 := fun h => hn1 h.symm
  go_wp2_with fail
  refine bodyPost_ret (v := .agg #[.int .u32 (maskA x.addr x.len), .int .i64 (clampL x.len), .slice a1 x.path.length c1, .slice a6 r.length c6, .int .u32 x.pref, .int .u32 x.med, .int .i64 x.origin, .int .u32 x.hop]) (by simp [results, Try.results15, go_sem, g0, g1, g2, g3, g4, g5, g6, g7]) rfl ⟨_, _, B, r, rfl, S6.out, R6.out, ?_, ?_, ?_, HLT.out, ?_⟩
  · have := MB.out
    have hS := HSW.out
    exact (((q6.out.setApart (fun h => by have := M1.out _ h; simp only at this; omega) _).put8 (by omega) (canonW x r) _ _).lower (by omega))
  · have := HBB.out
    exact (O6.out.setApart OB.out _).put8 (by omega) (canonW x r) _ _
  · have := HBB.out
    omega
  · exact below_put8 (D6.out.setCell (by have := MB.out; simp only; omega) _) (by omega) (canonW x r) _ _
end Go.Proofs.Ytaaaccgakahapaa
