/-
  The walk of the law RouteOne.
-/
import Derived.Test.YtaaaccgakahapaaAlv
namespace Go.Proofs.Ytaaaccgakahapaa
open Go.RowKit

theorem BlkR.set6 {w : World} {b : Nat} {x : Rt} {u v : Value} (h : BlkR w b x u v) (z : Int) : BlkR (w.setCell ⟨b, 6, none⟩ (.int .i64 z)) b { x with origin := z } u v := heap_setCell_same w b 6 _ 27 _ h

theorem one_valid (y : Rt) (a4 : Option Addr) (c4 : Nat) (V : World) (ok : Ok y) (sh : y.comms.length ≤ 1000) (hm : validR { y with origin := 1, path := [] } = decide (y.comms.length ≤ 255)) (hr : Row1 V (.slice a4 y.comms.length c4) y.comms) :
    Calls Try.prog 9 #[.agg #[.int .u32 y.addr, .int .i64 y.len, .slice none 0 0, .slice a4 y.comms.length c4, .int .u32 y.pref, .int .u32 y.med, .int .i64 1, .int .u32 y.hop]] V fun e w' => e = .returned (.bool (decide ((y.comms.length : Int) ≤ 255))) ∧ Gr V w' := by
  have h := valid_any { y with origin := 1, path := [] } nilV (.slice a4 y.comms.length c4) V ⟨ok.addr, ok.len, (fun x hx => by cases hx), ok.comms, ok.pref, ok.med, (show Num64 1 from ⟨by decide, by decide⟩), ok.hop⟩ ⟨by simp, by show y.comms.length < _; omega⟩ ⟨Row1.nil _, hr⟩
  rw [hm, show decide (y.comms.length ≤ 255) = decide ((y.comms.length : Int) ≤ 255) from decide_eq_decide.2 (by omega)] at h
  exact h

/-- Two routes, each in a block, with their lists. -/
structure Two (w : World) (n m : Nat) (x y : Rt) (u v u' v' : Value) : Prop where
  a : HeldR w n x u v
  b : HeldR w m y u' v'
  rx : Rts w x u v
  ry : Rts w y u' v'

theorem Two.bel {w w' : World} {n m : Nat} {x y : Rt} {u v u' v' : Value} (h : Two w n m x y u v u' v') (hB : Below w.heap.size w w') : Two w' n m x y u v u' v' :=
  ⟨h.a.bel hB, h.b.bel hB, h.rx.bel hB, h.ry.bel hB⟩

set_option maxHeartbeats 8000000 in
theorem law_one (x : Rt) (u v : Value) (w : World) (hx : Ok x) (sx : Short x) (rx : Rts w x u v) :
    Calls Try.prog 7 #[rv x u v] w fun e w' => e = .returned (.bool true) ∧ Below w.heap.size w w' := by
  have hmx : Try.prog.follows .mixedOrders = true := by kernel_rfl
  obtain ⟨ao1, cap1, rfl⟩ := rx.p.form
  obtain ⟨ao2, cap2, rfl⟩ := rx.c.form
  obtain ⟨W, hW⟩ : ∃ W, W = w.alloc (.cells #[.int .u32 x.addr, .int .i64 x.len, .slice ao1 x.path.length cap1, .slice ao2 x.comms.length cap2, .int .u32 x.pref, .int .u32 x.med, .int .i64 x.origin, .int .u32 x.hop] 27) := ⟨_, rfl⟩
  have HW2 : Hid (w.alloc (.cells #[.int .u32 x.addr, .int .i64 x.len, .slice ao1 x.path.length cap1, .slice ao2 x.comms.length cap2, .int .u32 x.pref, .int .u32 x.med, .int .i64 x.origin, .int .u32 x.hop] 27) = W) := hW.symm
  have BW : Below w.heap.size w W := by rw [hW]; exact (Below.refl _ _).alloc (Nat.le_refl _) _
  have k0 : Hid (BlkR W w.heap.size x (.slice ao1 x.path.length cap1) (.slice ao2 x.comms.length cap2)) := by rw [hW]; exact BlkR.new w x (.slice ao1 x.path.length cap1) (.slice ao2 x.comms.length cap2)
  have h1 := alive_any W
  have HR : Hid (Rts W x (.slice ao1 x.path.length cap1) (.slice ao2 x.comms.length cap2)) := rx.bel BW
  have HB : Hid (Below w.heap.size w W) := BW
  have HX : Hid (Ok x) := hx
  have HS : Hid (Short x) := sx
  clear BW hW rx hx sx
  unfold rv
  go_enter Try.func7, Try.ntmps7
  go_wp2_with fail
  rw [HW2.out]
  clear HW2
  refine h1.mono ?_
  rintro e w1 ⟨rfl, B1⟩
  have K1 : Hid (BlkR w1 w.heap.size x (.slice ao1 x.path.length cap1) (.slice ao2 x.comms.length cap2)) := k0.out.bel B1
  have R1 : Hid (Rts w1 x (.slice ao1 x.path.length cap1) (.slice ao2 x.comms.length cap2)) := HR.out.bel B1
  have D1 : Hid (Below w.heap.size w w1) := HB.out.trans (B1.mono HB.out.size)
  have h2 := great_any x ao1 ao2 x.path.length cap1 x.comms.length cap2 w1
  obtain ⟨_, f0, f1, f2, f3, f4, f5, f6, f7⟩ := K1.out.held
  unfold rv at h2
  clear h1 B1 k0 HR HB
  go_wp2_with fail
  refine h2.mono ?_
  rintro e w2 ⟨rfl, G2⟩
  have K2 : Hid (BlkR w2 w.heap.size x (.slice ao1 x.path.length cap1) (.slice ao2 x.comms.length cap2)) := K1.out.bel G2.below
  have R2 : Hid (Rts w2 x (.slice ao1 x.path.length cap1) (.slice ao2 x.comms.length cap2)) := R1.out.gr G2
  have D2 : Hid (Below w.heap.size w w2) := D1.out.trans (G2.below.mono D1.out.size)
  clear h2 G2 K1 R1 D1 f0 f1 f2 f3 f4 f5 f6 f7
  by_cases hgr : (decide ((1000 : Int) < x.path.length) || decide ((1000 : Int) < x.comms.length)) = true
  · rw [hgr]
    go_wp2_with fail
    go_ret
    exact ⟨rfl, D2.out⟩
  have hgr' : (decide ((1000 : Int) < x.path.length) || decide ((1000 : Int) < x.comms.length)) = false := by simpa using hgr
  rw [hgr']
  have hpl : x.path.length ≤ 1000 := by simp at hgr'; omega
  have hcl : x.comms.length ≤ 1000 := by simp at hgr'; omega
  clear hgr hgr'
  have h3 := canon_any x (.slice ao1 x.path.length cap1) (.slice ao2 x.comms.length cap2) w2 HX.out.addr (by omega) (by omega) R2.out
  obtain ⟨_, f0, f1, f2, f3, f4, f5, f6, f7⟩ := K2.out.held
  unfold rv at h3
  go_wp2_with fail
  refine h3.mono ?_
  rintro e w3 ⟨u3, v3, B, r, rfl, hset, hrl, o1, o2, _, _, B3⟩
  obtain ⟨y, hy⟩ : ∃ y, y = canonW x r := ⟨_, rfl⟩
  rw [← hy]
  have o1' : Own1 w2.heap.size w3 u3 y.path := by rw [hy]; exact o1
  have o2' : Own1 B w3 v3 y.comms := by rw [hy]; exact o2
  have hyl : y.path.length ≤ 1000 := by rw [hy]; exact hpl
  have hym : y.comms.length ≤ 1000 := by rw [hy]; show r.length ≤ 1000; omega
  obtain ⟨a3, c3, rfl⟩ := o1'.form
  obtain ⟨a4, c4, rfl⟩ := o2'.form
  have HCC : Hid (∀ r', IsSet y.comms r' → canonW y r' = y) := by
    intro r' h'
    rw [hy] at h' ⊢
    exact canonW_canonW hset h'
  have HCV : Hid (validR x = true → y = x) := fun h => by rw [hy]; exact canonW_valid hset h
  have HMB : Hid (validR { y with origin := 1, path := [] } = decide (y.comms.length ≤ 255)) := by rw [hy]; exact canonW_mayBe hset
  have OK2 : Hid (Ok y) := by rw [hy]; exact canonW_ok HX.out (hset.good HX.out.comms)
  obtain ⟨m, hm⟩ : ∃ m, m = w3.heap.size := ⟨_, rfl⟩
  have HM : Hid (m = w3.heap.size) := hm
  obtain ⟨W4, hW4⟩ : ∃ W4, W4 = w3.alloc (.cells #[.int .u32 y.addr, .int .i64 y.len, .slice a3 y.path.length c3, .slice a4 y.comms.length c4, .int .u32 y.pref, .int .u32 y.med, .int .i64 y.origin, .int .u32 y.hop] 27) := ⟨_, rfl⟩
  have HW4 : Hid (w3.alloc (.cells #[.int .u32 y.addr, .int .i64 y.len, .slice a3 y.path.length c3, .slice a4 y.comms.length c4, .int .u32 y.pref, .int .u32 y.med, .int .i64 y.origin, .int .u32 y.hop] 27) = W4) := hW4.symm
  have B4 : Below w2.heap.size w2 W4 := by rw [hW4]; exact B3.alloc B3.size _
  have T4 : Hid (Two W4 w.heap.size m x y (.slice ao1 x.path.length cap1) (.slice ao2 x.comms.length cap2) (.slice a3 y.path.length c3) (.slice a4 y.comms.length c4)) := by
    refine ⟨(K2.out.bel B4).held, ?_, R2.out.bel B4, ?_⟩
    · rw [hW4, hm]; exact HeldR.new w3 y (.slice a3 y.path.length c3) (.slice a4 y.comms.length c4)
    · rw [hW4]; exact ⟨(Row1.of_owns o1').alloc _, (Row1.of_owns o2').alloc _⟩
  have BL : Hid (BlkR W4 m y (.slice a3 y.path.length c3) (.slice a4 y.comms.length c4)) := by rw [hW4, hm]; exact BlkR.new w3 y (.slice a3 y.path.length c3) (.slice a4 y.comms.length c4)
  have D4 : Hid (Below w.heap.size w W4) := D2.out.trans (B4.mono D2.out.size)
  have MN : Hid (w.heap.size < m) := by have := K2.out.lt; have := B3.size; show w.heap.size < m; omega
  have SH2 : Hid (Short y) := ⟨by omega, by omega⟩
  have R3 : Hid (Row1 w3 (.slice a4 y.comms.length c4) y.comms) := Row1.of_owns o2'
  have B34 : Hid (Below m w3 W4) := by rw [hW4, hm]; exact (Below.refl _ _).alloc (Nat.le_refl _) _
  clear h3 hset hrl o1 o2 o1' o2' B3 hm hW4 B4 K2 R2 D2 f0 f1 f2 f3 f4 f5 f6 f7 hy
  have h4 : Calls Try.prog 15 #[rv y (.slice a3 y.path.length c3) (.slice a4 y.comms.length c4)] W4.drew fun e w' => ∃ a5 c5 a6 c6, e = .returned (rv y (.slice a5 y.path.length c5) (.slice a6 y.comms.length c6)) ∧ Two w' w.heap.size m x y (.slice ao1 x.path.length cap1) (.slice ao2 x.comms.length cap2) (.slice a3 y.path.length c3) (.slice a4 y.comms.length c4) ∧ Rts w' y (.slice a5 y.path.length c5) (.slice a6 y.comms.length c6) ∧ Below W4.heap.size W4 w' := by
    refine (canon_any y (.slice a3 y.path.length c3) (.slice a4 y.comms.length c4) W4.drew OK2.out.addr (by omega) (by omega) ⟨T4.out.ry.p.drew 1, T4.out.ry.c.drew 1⟩).mono ?_
    rintro e w' ⟨u5, v5, _, r', he, hset', _, o1, o2, _, _, B5⟩
    have hcc := HCC.out r' hset'
    have hr' : r' = y.comms := by rw [← hcc]; rfl
    have B5' : Below W4.heap.size W4 w' := (below_drewN (Below.refl _ _) 1).trans B5
    rw [hcc] at he
    have q1 : Row1 w' u5 y.path := Row1.of_owns o1
    have q2 : Row1 w' v5 y.comms := by rw [← hr']; exact Row1.of_owns o2
    obtain ⟨a5, c5, rfl⟩ := q1.form
    obtain ⟨a6, c6, rfl⟩ := q2.form
    exact ⟨a5, c5, a6, c6, he, T4.out.bel B5', ⟨q1, q2⟩, B5'⟩
  have gx0 := T4.out.a.c0
  have gx1 := T4.out.a.c1
  have gx2 := T4.out.a.c2
  have gx3 := T4.out.a.c3
  have gx4 := T4.out.a.c4
  have gx5 := T4.out.a.c5
  have gx6 := T4.out.a.c6
  have gx7 := T4.out.a.c7
  have gy0 := T4.out.b.c0
  have gy1 := T4.out.b.c1
  have gy2 := T4.out.b.c2
  have gy3 := T4.out.b.c3
  have gy4 := T4.out.b.c4
  have gy5 := T4.out.b.c5
  have gy6 := T4.out.b.c6
  have gy7 := T4.out.b.c7
  unfold rv at h4
  go_wp2_with fail
  rw [HW4.out, ← HM.out]
  clear HW4
  cases hvx : validR x with
  | false =>
    go_region_with
     (first
    | (go_at_call 15; refine h4.mono ?_; rintro e w5 ⟨a5, c5, a6, c6, rfl, T5', R5, B5⟩
       have T5 : Hid (Two w5 w.heap.size m x y (.slice ao1 x.path.length cap1) (.slice ao2 x.comms.length cap2) (.slice a3 y.path.length c3) (.slice a4 y.comms.length c4)) := T5'
       have BB5 : Hid (Below W4.heap.size W4 w5) := B5
       have h5 := cmp_any y y (.slice a5 y.path.length c5) (.slice a6 y.comms.length c6) (.slice a3 y.path.length c3) (.slice a4 y.comms.length c4) w5 SH2.out SH2.out R5 T5'.ry
       rw [cmpR_self] at h5
       unfold rv at h5
       have px0 := T5.out.a.c0
       have px1 := T5.out.a.c1
       have px2 := T5.out.a.c2
       have px3 := T5.out.a.c3
       have px4 := T5.out.a.c4
       have px5 := T5.out.a.c5
       have px6 := T5.out.a.c6
       have px7 := T5.out.a.c7
       have py0 := T5.out.b.c0
       have py1 := T5.out.b.c1
       have py2 := T5.out.b.c2
       have py3 := T5.out.b.c3
       have py4 := T5.out.b.c4
       have py5 := T5.out.b.c5
       have py6 := T5.out.b.c6
       have py7 := T5.out.b.c7
       clear T5' R5 B5)
    | (go_at_call 19; (with_reducible refine h5.mono ?_); rintro e w6 ⟨rfl, G6⟩
       have T6 : Hid (Two w6 w.heap.size m x y (.slice ao1 x.path.length cap1) (.slice ao2 x.comms.length cap2) (.slice a3 y.path.length c3) (.slice a4 y.comms.length c4)) := T5.out.bel G6.below
       have BB6 : Hid (Below W4.heap.size W4 w6) := BB5.out.trans (G6.below.mono BB5.out.size)
       have h6 := valid_any x (.slice ao1 x.path.length cap1) (.slice ao2 x.comms.length cap2) w6 HX.out HS.out T6.out.rx
       rw [hvx] at h6
       unfold rv at h6
       have qx0 := T6.out.a.c0
       have qx1 := T6.out.a.c1
       have qx2 := T6.out.a.c2
       have qx3 := T6.out.a.c3
       have qx4 := T6.out.a.c4
       have qx5 := T6.out.a.c5
       have qx6 := T6.out.a.c6
       have qx7 := T6.out.a.c7
       have qy0 := T6.out.b.c0
       have qy1 := T6.out.b.c1
       have qy2 := T6.out.b.c2
       have qy3 := T6.out.b.c3
       have qy4 := T6.out.b.c4
       have qy5 := T6.out.b.c5
       have qy6 := T6.out.b.c6
       have qy7 := T6.out.b.c7
       clear G6)
    | (go_at_call 9; refine h6.mono ?_; rintro e w7 ⟨rfl, G7⟩
       have T7 : Hid (Two w7 w.heap.size m x y (.slice ao1 x.path.length cap1) (.slice ao2 x.comms.length cap2) (.slice a3 y.path.length c3) (.slice a4 y.comms.length c4)) := T6.out.bel G7.below
       have BB7 : Hid (Below W4.heap.size W4 w7) := BB6.out.trans (G7.below.mono BB6.out.size)
       have sx0 := T7.out.a.c0
       have sx1 := T7.out.a.c1
       have sx2 := T7.out.a.c2
       have sx3 := T7.out.a.c3
       have sx4 := T7.out.a.c4
       have sx5 := T7.out.a.c5
       have sx6 := T7.out.a.c6
       have sx7 := T7.out.a.c7
       have sy0 := T7.out.b.c0
       have sy1 := T7.out.b.c1
       have sy2 := T7.out.b.c2
       have sy3 := T7.out.b.c3
       have sy4 := T7.out.b.c4
       have sy5 := T7.out.b.c5
       have sy6 := T7.out.b.c6
       have sy7 := T7.out.b.c7
       clear G7))
    all_goals
      have jb : BlkR w7 m y (.slice a3 y.path.length c3) (.slice a4 y.comms.length c4) := BL.out.bel BB7.out
      have jh := jb.held
      have j0 := jh.c0
      have j1 := jh.c1
      have j2 := jh.c2
      have j3 := jh.c3
      have j4 := jh.c4
      have j5 := jh.c5
      have j6 := jh.c6
      have j7 := jh.c7
      have jf := jb.frozen
      have JB : Hid (BlkR w7 m y (.slice a3 y.path.length c3) (.slice a4 y.comms.length c4)) := jb
      clear jb jh
      go_wp2_with fail
      have kb : BlkR ((w7.setCell ⟨m, 6, none⟩ (.int .i64 1)).setCell ⟨m, 2, none⟩ (.slice none 0 0)) m { y with origin := 1, path := [] } nilV (.slice a4 y.comms.length c4) := (JB.out.set6 1).set2 nilV
      have BV : Below m w3 ((w7.setCell ⟨m, 6, none⟩ (.int .i64 1)).setCell ⟨m, 2, none⟩ (.slice none 0 0)) := ((B34.out.trans (BB7.out.mono (by rw [HM.out]; exact B34.out.size))).setCell (p := ⟨m, 6, none⟩) (Nat.le_refl _) _).setCell (p := ⟨m, 2, none⟩) (Nat.le_refl _) _
      have BD : Below w.heap.size w ((w7.setCell ⟨m, 6, none⟩ (.int .i64 1)).setCell ⟨m, 2, none⟩ (.slice none 0 0)) := ((D4.out.trans (BB7.out.mono D4.out.size)).setCell (p := ⟨m, 6, none⟩) (Nat.le_of_lt MN.out) _).setCell (p := ⟨m, 2, none⟩) (Nat.le_of_lt MN.out) _
      clear j0 j1 j2 j3 j4 j5 j6 j7 jf JB
      generalize (w7.setCell ⟨m, 6, none⟩ (.int .i64 1)).setCell ⟨m, 2, none⟩ (.slice none 0 0) = V at *
      have rV : Row1 V (.slice a4 y.comms.length c4) y.comms := R3.out.kept BV (by rw [HM.out]; exact Nat.le_refl _)
      have kh := kb.held
      have VV := fun n os => one_valid y a4 c4 (Sort.grow (V.drewN n) os) OK2.out hym HMB.out (rV.gr ⟨n, os, rfl⟩)
      have l0 := fun n os => (kh.gr ⟨n, os, rfl⟩ : HeldR (Sort.grow (V.drewN n) os) _ _ _ _).c0
      have l1 := fun n os => (kh.gr ⟨n, os, rfl⟩ : HeldR (Sort.grow (V.drewN n) os) _ _ _ _).c1
      have l2 := fun n os => (kh.gr ⟨n, os, rfl⟩ : HeldR (Sort.grow (V.drewN n) os) _ _ _ _).c2
      have l3 := fun n os => (kh.gr ⟨n, os, rfl⟩ : HeldR (Sort.grow (V.drewN n) os) _ _ _ _).c3
      have l4 := fun n os => (kh.gr ⟨n, os, rfl⟩ : HeldR (Sort.grow (V.drewN n) os) _ _ _ _).c4
      have l5 := fun n os => (kh.gr ⟨n, os, rfl⟩ : HeldR (Sort.grow (V.drewN n) os) _ _ _ _).c5
      have l6 := fun n os => (kh.gr ⟨n, os, rfl⟩ : HeldR (Sort.grow (V.drewN n) os) _ _ _ _).c6
      have l7 := fun n os => (kh.gr ⟨n, os, rfl⟩ : HeldR (Sort.grow (V.drewN n) os) _ _ _ _).c7
      simp only at l0 l1 l4 l5 l6 l7
      have HD : Hid (Below w.heap.size w V) := BD
      obtain ⟨qb, hqb⟩ : ∃ qb, qb = decide ((y.comms.length : Int) ≤ 255) := ⟨_, rfl⟩
      rw [← hqb] at VV
      have HQB : Hid (qb = decide ((y.comms.length : Int) ≤ 255)) := hqb
      clear hqb
      have hqq : (qb == qb) = true := by simp
      clear kb kh rV BV BD
      go_quiet_grown (first | (go_at_call 9; with_reducible refine Calls.grown_of (VV _ _)))
      go_wp2_with fail
      go_ret
      refine ⟨?_, below_grow HD.out HD.out.size _ _⟩
      show Ending.returned (Value.bool (qb == decide ((y.comms.length : Int) ≤ 255))) = _
      rw [HQB.out]
      simp
  | true =>
    go_region_held3 (fun w' => w'.cell? ⟨w.heap.size, 0, none⟩ = some (.int .u32 x.addr) ∧ w'.cell? ⟨w.heap.size, 1, none⟩ = some (.int .i64 x.len) ∧ w'.cell? ⟨w.heap.size, 2, none⟩ = some (.slice ao1 x.path.length cap1) ∧ w'.cell? ⟨w.heap.size, 3, none⟩ = some (.slice ao2 x.comms.length cap2) ∧ w'.cell? ⟨w.heap.size, 4, none⟩ = some (.int .u32 x.pref) ∧ w'.cell? ⟨w.heap.size, 5, none⟩ = some (.int .u32 x.med) ∧ w'.cell? ⟨w.heap.size, 6, none⟩ = some (.int .i64 x.origin) ∧ w'.cell? ⟨w.heap.size, 7, none⟩ = some (.int .u32 x.hop) ∧ w'.cell? ⟨m, 0, none⟩ = some (.int .u32 y.addr) ∧ w'.cell? ⟨m, 1, none⟩ = some (.int .i64 y.len) ∧ w'.cell? ⟨m, 2, none⟩ = some (.slice a3 y.path.length c3) ∧ w'.cell? ⟨m, 3, none⟩ = some (.slice a4 y.comms.length c4) ∧ w'.cell? ⟨m, 4, none⟩ = some (.int .u32 y.pref) ∧ w'.cell? ⟨m, 5, none⟩ = some (.int .u32 y.med) ∧ w'.cell? ⟨m, 6, none⟩ = some (.int .i64 y.origin) ∧ w'.cell? ⟨m, 7, none⟩ = some (.int .u32 y.hop)) (go_keep)
     (first
    | (go_at_call 15; refine h4.mono ?_; rintro e w5 ⟨a5, c5, a6, c6, rfl, T5', R5, B5⟩
       have T5 : Hid (Two w5 w.heap.size m x y (.slice ao1 x.path.length cap1) (.slice ao2 x.comms.length cap2) (.slice a3 y.path.length c3) (.slice a4 y.comms.length c4)) := T5'
       have BB5 : Hid (Below W4.heap.size W4 w5) := B5
       have h5 := cmp_any y y (.slice a5 y.path.length c5) (.slice a6 y.comms.length c6) (.slice a3 y.path.length c3) (.slice a4 y.comms.length c4) w5 SH2.out SH2.out R5 T5'.ry
       rw [cmpR_self] at h5
       unfold rv at h5
       have px0 := T5.out.a.c0
       have px1 := T5.out.a.c1
       have px2 := T5.out.a.c2
       have px3 := T5.out.a.c3
       have px4 := T5.out.a.c4
       have px5 := T5.out.a.c5
       have px6 := T5.out.a.c6
       have px7 := T5.out.a.c7
       have py0 := T5.out.b.c0
       have py1 := T5.out.b.c1
       have py2 := T5.out.b.c2
       have py3 := T5.out.b.c3
       have py4 := T5.out.b.c4
       have py5 := T5.out.b.c5
       have py6 := T5.out.b.c6
       have py7 := T5.out.b.c7
       clear T5' R5 B5)
    | (go_at_call 19; (with_reducible refine h5.mono ?_); rintro e w6 ⟨rfl, G6⟩
       have T6 : Hid (Two w6 w.heap.size m x y (.slice ao1 x.path.length cap1) (.slice ao2 x.comms.length cap2) (.slice a3 y.path.length c3) (.slice a4 y.comms.length c4)) := T5.out.bel G6.below
       have BB6 : Hid (Below W4.heap.size W4 w6) := BB5.out.trans (G6.below.mono BB5.out.size)
       have h6 := valid_any x (.slice ao1 x.path.length cap1) (.slice ao2 x.comms.length cap2) w6 HX.out HS.out T6.out.rx
       rw [hvx] at h6
       unfold rv at h6
       have qx0 := T6.out.a.c0
       have qx1 := T6.out.a.c1
       have qx2 := T6.out.a.c2
       have qx3 := T6.out.a.c3
       have qx4 := T6.out.a.c4
       have qx5 := T6.out.a.c5
       have qx6 := T6.out.a.c6
       have qx7 := T6.out.a.c7
       have qy0 := T6.out.b.c0
       have qy1 := T6.out.b.c1
       have qy2 := T6.out.b.c2
       have qy3 := T6.out.b.c3
       have qy4 := T6.out.b.c4
       have qy5 := T6.out.b.c5
       have qy6 := T6.out.b.c6
       have qy7 := T6.out.b.c7
       clear G6)
    | (go_at_call 9; refine h6.mono ?_; rintro e w7 ⟨rfl, G7⟩
       have T7 : Hid (Two w7 w.heap.size m x y (.slice ao1 x.path.length cap1) (.slice ao2 x.comms.length cap2) (.slice a3 y.path.length c3) (.slice a4 y.comms.length c4)) := T6.out.bel G7.below
       have BB7 : Hid (Below W4.heap.size W4 w7) := BB6.out.trans (G7.below.mono BB6.out.size)
       have h7 := cmp_any y x (.slice a3 y.path.length c3) (.slice a4 y.comms.length c4) (.slice ao1 x.path.length cap1) (.slice ao2 x.comms.length cap2) w7 SH2.out HS.out T7.out.ry T7.out.rx
       rw [show cmpR y x = 0 from by rw [HCV.out hvx]; exact cmpR_self x] at h7
       unfold rv at h7
       have sx0 := T7.out.a.c0
       have sx1 := T7.out.a.c1
       have sx2 := T7.out.a.c2
       have sx3 := T7.out.a.c3
       have sx4 := T7.out.a.c4
       have sx5 := T7.out.a.c5
       have sx6 := T7.out.a.c6
       have sx7 := T7.out.a.c7
       have sy0 := T7.out.b.c0
       have sy1 := T7.out.b.c1
       have sy2 := T7.out.b.c2
       have sy3 := T7.out.b.c3
       have sy4 := T7.out.b.c4
       have sy5 := T7.out.b.c5
       have sy6 := T7.out.b.c6
       have sy7 := T7.out.b.c7
       clear G7)
    | (go_at_call 19; (with_reducible refine h7.mono ?_); rintro e w8 ⟨rfl, G8⟩
       have T8 : Hid (Two w8 w.heap.size m x y (.slice ao1 x.path.length cap1) (.slice ao2 x.comms.length cap2) (.slice a3 y.path.length c3) (.slice a4 y.comms.length c4)) := T7.out.bel G8.below
       have BB8 : Hid (Below W4.heap.size W4 w8) := BB7.out.trans (G8.below.mono BB7.out.size)
       have tx0 := T8.out.a.c0
       have tx1 := T8.out.a.c1
       have tx2 := T8.out.a.c2
       have tx3 := T8.out.a.c3
       have tx4 := T8.out.a.c4
       have tx5 := T8.out.a.c5
       have tx6 := T8.out.a.c6
       have tx7 := T8.out.a.c7
       have ty0 := T8.out.b.c0
       have ty1 := T8.out.b.c1
       have ty2 := T8.out.b.c2
       have ty3 := T8.out.b.c3
       have ty4 := T8.out.b.c4
       have ty5 := T8.out.b.c5
       have ty6 := T8.out.b.c6
       have ty7 := T8.out.b.c7
       clear G8))
    have jb : BlkR w8 m y (.slice a3 y.path.length c3) (.slice a4 y.comms.length c4) := BL.out.bel BB8.out
    have jh := jb.held
    have j0 := jh.c0
    have j1 := jh.c1
    have j2 := jh.c2
    have j3 := jh.c3
    have j4 := jh.c4
    have j5 := jh.c5
    have j6 := jh.c6
    have j7 := jh.c7
    have jf := jb.frozen
    have JB : Hid (BlkR w8 m y (.slice a3 y.path.length c3) (.slice a4 y.comms.length c4)) := jb
    clear jb jh
    go_wp2_with fail
    have kb : BlkR ((w8.setCell ⟨m, 6, none⟩ (.int .i64 1)).setCell ⟨m, 2, none⟩ (.slice none 0 0)) m { y with origin := 1, path := [] } nilV (.slice a4 y.comms.length c4) := (JB.out.set6 1).set2 nilV
    have BV : Below m w3 ((w8.setCell ⟨m, 6, none⟩ (.int .i64 1)).setCell ⟨m, 2, none⟩ (.slice none 0 0)) := ((B34.out.trans (BB8.out.mono (by rw [HM.out]; exact B34.out.size))).setCell (p := ⟨m, 6, none⟩) (Nat.le_refl _) _).setCell (p := ⟨m, 2, none⟩) (Nat.le_refl _) _
    have BD : Below w.heap.size w ((w8.setCell ⟨m, 6, none⟩ (.int .i64 1)).setCell ⟨m, 2, none⟩ (.slice none 0 0)) := ((D4.out.trans (BB8.out.mono D4.out.size)).setCell (p := ⟨m, 6, none⟩) (Nat.le_of_lt MN.out) _).setCell (p := ⟨m, 2, none⟩) (Nat.le_of_lt MN.out) _
    clear j0 j1 j2 j3 j4 j5 j6 j7 jf JB
    generalize (w8.setCell ⟨m, 6, none⟩ (.int .i64 1)).setCell ⟨m, 2, none⟩ (.slice none 0 0) = V at *
    have rV : Row1 V (.slice a4 y.comms.length c4) y.comms := R3.out.kept BV (by rw [HM.out]; exact Nat.le_refl _)
    have kh := kb.held
    have VV := fun n os => one_valid y a4 c4 (Sort.grow (V.drewN n) os) OK2.out hym HMB.out (rV.gr ⟨n, os, rfl⟩)
    have l0 := fun n os => (kh.gr ⟨n, os, rfl⟩ : HeldR (Sort.grow (V.drewN n) os) _ _ _ _).c0
    have l1 := fun n os => (kh.gr ⟨n, os, rfl⟩ : HeldR (Sort.grow (V.drewN n) os) _ _ _ _).c1
    have l2 := fun n os => (kh.gr ⟨n, os, rfl⟩ : HeldR (Sort.grow (V.drewN n) os) _ _ _ _).c2
    have l3 := fun n os => (kh.gr ⟨n, os, rfl⟩ : HeldR (Sort.grow (V.drewN n) os) _ _ _ _).c3
    have l4 := fun n os => (kh.gr ⟨n, os, rfl⟩ : HeldR (Sort.grow (V.drewN n) os) _ _ _ _).c4
    have l5 := fun n os => (kh.gr ⟨n, os, rfl⟩ : HeldR (Sort.grow (V.drewN n) os) _ _ _ _).c5
    have l6 := fun n os => (kh.gr ⟨n, os, rfl⟩ : HeldR (Sort.grow (V.drewN n) os) _ _ _ _).c6
    have l7 := fun n os => (kh.gr ⟨n, os, rfl⟩ : HeldR (Sort.grow (V.drewN n) os) _ _ _ _).c7
    simp only at l0 l1 l4 l5 l6 l7
    have HD : Hid (Below w.heap.size w V) := BD
    obtain ⟨qb, hqb⟩ : ∃ qb, qb = decide ((y.comms.length : Int) ≤ 255) := ⟨_, rfl⟩
    rw [← hqb] at VV
    have HQB : Hid (qb = decide ((y.comms.length : Int) ≤ 255)) := hqb
    clear hqb
    have hqq : (qb == qb) = true := by simp
    clear kb kh rV BV BD
    go_quiet_grown (first | (go_at_call 9; with_reducible refine Calls.grown_of (VV _ _)))
    go_wp2_with fail
    go_ret
    refine ⟨?_, below_grow HD.out HD.out.size _ _⟩
    show Ending.returned (Value.bool (qb == decide ((y.comms.length : Int) ≤ 255))) = _
    rw [HQB.out]
    simp
end Go.Proofs.Ytaaaccgakahapaa
