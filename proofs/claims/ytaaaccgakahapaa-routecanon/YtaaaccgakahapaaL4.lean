/-
  The walk of the law RouteCanon.
-/
import Derived.Test.YtaaaccgakahapaaW16
import Derived.Deep.Cut
import Derived.Deep.DeepCutAuto
namespace Go.Proofs.Ytaaaccgakahapaa
open Go.RowKit

set_option maxHeartbeats 8000000 in
theorem law_canon (x : Rt) (u v : Value) (w : World) (hx : Ok x) (sx : Short x) (rx : Rts w x u v) :
    Calls Try.prog 4 #[rv x u v] w fun e w' => e = .returned (.bool true) ∧ Below w.heap.size w w' := by
  have hmx : Try.prog.follows .mixedOrders = true := by kernel_rfl
  obtain ⟨ao1, cap1, rfl⟩ := rx.p.form
  obtain ⟨ao2, cap2, rfl⟩ := rx.c.form
  obtain ⟨W, hW⟩ : ∃ W, W = w.alloc (.cells #[.int .u32 x.addr, .int .i64 x.len, .slice ao1 x.path.length cap1, .slice ao2 x.comms.length cap2, .int .u32 x.pref, .int .u32 x.med, .int .i64 x.origin, .int .u32 x.hop] 27) := ⟨_, rfl⟩
  have HW2 : Hid (w.alloc (.cells #[.int .u32 x.addr, .int .i64 x.len, .slice ao1 x.path.length cap1, .slice ao2 x.comms.length cap2, .int .u32 x.pref, .int .u32 x.med, .int .i64 x.origin, .int .u32 x.hop] 27) = W) := hW.symm
  have BW : Below w.heap.size w W := by rw [hW]; exact (Below.refl _ _).alloc (Nat.le_refl _) _
  have k0 : Hid (BlkR W w.heap.size x (.slice ao1 x.path.length cap1) (.slice ao2 x.comms.length cap2)) := by rw [hW]; exact BlkR.new w x (.slice ao1 x.path.length cap1) (.slice ao2 x.comms.length cap2)
  have h1 := alive_any W
  have HR : Hid (Rts W x (.slice ao1 x.path.length cap1) (.slice ao2 x.comms.length cap2)) := rx.bel BW
  have HB : Hid (Below w.heap.size w W) := BW
  have HX : Hid (Ok x) := hx
  have HS : Hid (Short x) := sx
  clear BW hW rx hx sx
  unfold rv
  go_enter Try.func4, Try.ntmps4
  go_wp2_with fail
  rw [HW2.out]
  clear HW2
  refine h1.mono ?_
  rintro e w1 ⟨rfl, B1⟩
  have K1 : Hid (BlkR w1 w.heap.size x (.slice ao1 x.path.length cap1) (.slice ao2 x.comms.length cap2)) := k0.out.bel B1
  have R1 : Hid (Rts w1 x (.slice ao1 x.path.length cap1) (.slice ao2 x.comms.length cap2)) := HR.out.bel B1
  have D1 : Hid (Below w.heap.size w w1) := HB.out.trans (B1.mono HB.out.size)
  have h2 := great_any x ao1 ao2 x.path.length cap1 x.comms.length cap2 w1
  obtain ⟨_, f0, f1, f2, f3, f4, f5, f6, f7⟩ := K1.out.held
  unfold rv at h2
  clear h1 B1 k0 HR HB
  go_wp2_with fail
  refine h2.mono ?_
  rintro e w2 ⟨rfl, G2⟩
  have K2 : Hid (BlkR w2 w.heap.size x (.slice ao1 x.path.length cap1) (.slice ao2 x.comms.length cap2)) := K1.out.bel G2.below
  have R2 : Hid (Rts w2 x (.slice ao1 x.path.length cap1) (.slice ao2 x.comms.length cap2)) := R1.out.gr G2
  have D2 : Hid (Below w.heap.size w w2) := D1.out.trans (G2.below.mono D1.out.size)
  clear h2 G2 K1 R1 D1 f0 f1 f2 f3 f4 f5 f6 f7
  by_cases hgr : (decide ((1000 : Int) < x.path.length) || decide ((1000 : Int) < x.comms.length)) = true
  · rw [hgr]
    go_wp2_with fail
    go_ret
    exact ⟨rfl, D2.out⟩
  have hgr' : (decide ((1000 : Int) < x.path.length) || decide ((1000 : Int) < x.comms.length)) = false := by simpa using hgr
  rw [hgr']
  have hpl : x.path.length ≤ 1000 := by simp at hgr'; omega
  have hcl : x.comms.length ≤ 1000 := by simp at hgr'; omega
  clear hgr hgr'
  have h3 := rcopy_any x (.slice ao1 x.path.length cap1) (.slice ao2 x.comms.length cap2) w2 (by omega) (by omega) R2.out
  obtain ⟨_, f0, f1, f2, f3, f4, f5, f6, f7⟩ := K2.out.held
  unfold rv at h3
  go_wp2_with fail
  refine h3.mono ?_
  rintro e w3 ⟨u3, v3, B, rfl, o1, o2, _, _, B3⟩
  obtain ⟨a3, c3, rfl⟩ := o1.form
  obtain ⟨a4, c4, rfl⟩ := o2.form
  obtain ⟨m, hm⟩ : ∃ m, m = w3.heap.size := ⟨_, rfl⟩
  have HM : Hid (m = w3.heap.size) := hm
  obtain ⟨W4, hW4⟩ : ∃ W4, W4 = w3.alloc (.cells #[.int .u32 x.addr, .int .i64 x.len, .slice a3 x.path.length c3, .slice a4 x.comms.length c4, .int .u32 x.pref, .int .u32 x.med, .int .i64 x.origin, .int .u32 x.hop] 27) := ⟨_, rfl⟩
  have HW4 : Hid (w3.alloc (.cells #[.int .u32 x.addr, .int .i64 x.len, .slice a3 x.path.length c3, .slice a4 x.comms.length c4, .int .u32 x.pref, .int .u32 x.med, .int .i64 x.origin, .int .u32 x.hop] 27) = W4) := hW4.symm
  have B4 : Below w2.heap.size w2 W4 := by rw [hW4]; exact B3.alloc B3.size _
  have KN : Hid (BlkR W4 w.heap.size x (.slice ao1 x.path.length cap1) (.slice ao2 x.comms.length cap2)) := K2.out.bel B4
  have KM : Hid (BlkR W4 m x (.slice a3 x.path.length c3) (.slice a4 x.comms.length c4)) := by rw [hW4, hm]; exact BlkR.new w3 x (.slice a3 x.path.length c3) (.slice a4 x.comms.length c4)
  have RN : Hid (Rts W4 x (.slice ao1 x.path.length cap1) (.slice ao2 x.comms.length cap2)) := R2.out.bel B4
  have RM : Hid (Rts W4 x (.slice a3 x.path.length c3) (.slice a4 x.comms.length c4)) := by rw [hW4]; exact ⟨(Row1.of_owns o1).alloc _, (Row1.of_owns o2).alloc _⟩
  have D4 : Hid (Below w.heap.size w W4) := D2.out.trans (B4.mono D2.out.size)
  have f0' := KM.out.held.c0
  have f1' := KM.out.held.c1
  have f2' := KM.out.held.c2
  have f3' := KM.out.held.c3
  have f4' := KM.out.held.c4
  have f5' := KM.out.held.c5
  have f6' := KM.out.held.c6
  have f7' := KM.out.held.c7
  clear h3 o1 o2 B3 hm hW4 B4 K2 R2 D2 f0 f1 f2 f3 f4 f5 f6 f7
  have hc0 := md_canon (Md.start W4) x (.slice a3 x.path.length c3) (.slice a4 x.comms.length c4) HX.out.addr hpl hcl RM.out
  have hc1 : Calls Try.prog 15 #[rv x (.slice a3 x.path.length c3) (.slice a4 x.comms.length c4)] (W4.alloc (.cells zc 27)).drew _ := md_canon ((Md.start W4).alloc.bel (below_drewN (Below.refl _ _) 0)) x (.slice a3 x.path.length c3) (.slice a4 x.comms.length c4) HX.out.addr hpl hcl RM.out
  have hc2 : Calls Try.prog 15 #[rv x (.slice a3 x.path.length c3) (.slice a4 x.comms.length c4)] ((W4.alloc (.cells zc 27)).alloc (.cells zc 27)).drew _ := md_canon ((Md.start W4).alloc.alloc.bel (below_drewN (Below.refl _ _) 0)) x (.slice a3 x.path.length c3) (.slice a4 x.comms.length c4) HX.out.addr hpl hcl RM.out
  rw [show (W4.drew.alloc (.cells zc 27)).heap.size = W4.heap.size + 1 from by simp] at hc2
  rw [show W4.drew.heap.size = W4.heap.size from rfl] at hc1 hc2
  unfold rv at hc0 hc1 hc2
  have hmA : m ≠ W4.heap.size := Nat.ne_of_lt KM.out.lt
  have hmA' := Ne.symm hmA
  have hmB : m ≠ W4.heap.size + 1 := by have := KM.out.lt; omega
  have hmB' := Ne.symm hmB
  go_wp2_with fail
  rw [HW4.out, ← HM.out]
  clear HW4
  go_cut [4, 5, 16, 18] (fun v4 v5 v16 v18 wx => ∃ V ps p q r a5 c5 a6 c6 a7 c7 a8 c8, v4 = .pointer (some ⟨p, 0, none⟩) ∧ v5 = .pointer (some ⟨q, 0, none⟩) ∧ v16 = .agg #[.int .u32 (maskA x.addr x.len), .int .i64 (clampL x.len), .slice a5 x.path.length c5, .slice a6 r.length c6, .int .u32 x.pref, .int .u32 x.med, .int .i64 x.origin, .int .u32 x.hop] ∧ v18 = .agg #[.int .u32 x.addr, .int .i64 x.len, .slice a7 x.path.length c7, .slice a8 x.comms.length c8, .int .u32 x.pref, .int .u32 x.med, .int .i64 x.origin, .int .u32 x.hop] ∧ IsSet x.comms r ∧ r.length ≤ x.comms.length ∧ p ∈ ps ∧ q ∈ ps ∧ p ≠ q ∧ Md W4 V ps [(.slice a7 x.path.length c7, x.path), (.slice a8 x.comms.length c8, x.comms), (.slice a5 x.path.length c5, x.path), (.slice a6 r.length c6, r)] ∧ wx = put8 (put8 V p (canonW x r) (.slice a5 x.path.length c5) (.slice a6 r.length c6)) q x (.slice a7 x.path.length c7) (.slice a8 x.comms.length c8))
  case first =>
    go_region_held3 (fun w' => w'.cell? ⟨m, 0, none⟩ = some (.int .u32 x.addr) ∧ w'.cell? ⟨m, 1, none⟩ = some (.int .i64 x.len) ∧ w'.cell? ⟨m, 2, none⟩ = some (.slice a3 x.path.length c3) ∧ w'.cell? ⟨m, 3, none⟩ = some (.slice a4 x.comms.length c4) ∧ w'.cell? ⟨m, 4, none⟩ = some (.int .u32 x.pref) ∧ w'.cell? ⟨m, 5, none⟩ = some (.int .u32 x.med) ∧ w'.cell? ⟨m, 6, none⟩ = some (.int .i64 x.origin) ∧ w'.cell? ⟨m, 7, none⟩ = some (.int .u32 x.hop)) (go_keep)
     (first
    | (go_at_call 15; (with_reducible refine hc0.mono ?_); rintro e w5 ⟨a5, c5, a6, c6, r, rfl, hset, hrl, M5⟩
       have HSET : Hid (IsSet x.comms r) := hset
       have HRL : Hid (r.length ≤ x.comms.length) := hrl
       have m5m := (KM.out.bel M5.b).held
       obtain ⟨_, m50, m51, m52, m53, m54, m55, m56, m57⟩ := m5m
       have hmC : m ≠ w5.heap.size := by have := KM.out.lt; have := M5.b.size; omega
       have hmC' := Ne.symm hmC
       have hmD : m ≠ w5.heap.size + 1 := by have := KM.out.lt; have := M5.b.size; omega
       have hmD' := Ne.symm hmD
       have hd0 := md_copy M5 x (.slice a3 x.path.length c3) (.slice a4 x.comms.length c4) hpl hcl RM.out
       have hd1 := md_copy M5.alloc x (.slice a3 x.path.length c3) (.slice a4 x.comms.length c4) hpl hcl RM.out
       have hd2 := md_copy M5.alloc.alloc x (.slice a3 x.path.length c3) (.slice a4 x.comms.length c4) hpl hcl RM.out
       rw [show (w5.alloc (.cells zc 27)).heap.size = w5.heap.size + 1 from by simp] at hd2
       unfold rv at hd0 hd1 hd2
       clear hset hrl)
    | (go_at_call 15; (with_reducible refine hc1.mono ?_); rintro e w5 ⟨a5, c5, a6, c6, r, rfl, hset, hrl, M5⟩
       have HSET : Hid (IsSet x.comms r) := hset
       have HRL : Hid (r.length ≤ x.comms.length) := hrl
       have m5m := (KM.out.bel M5.b).held
       obtain ⟨_, m50, m51, m52, m53, m54, m55, m56, m57⟩ := m5m
       have hmC : m ≠ w5.heap.size := by have := KM.out.lt; have := M5.b.size; omega
       have hmC' := Ne.symm hmC
       have hmD : m ≠ w5.heap.size + 1 := by have := KM.out.lt; have := M5.b.size; omega
       have hmD' := Ne.symm hmD
       have hd0 := md_copy M5 x (.slice a3 x.path.length c3) (.slice a4 x.comms.length c4) hpl hcl RM.out
       have hd1 := md_copy M5.alloc x (.slice a3 x.path.length c3) (.slice a4 x.comms.length c4) hpl hcl RM.out
       have hd2 := md_copy M5.alloc.alloc x (.slice a3 x.path.length c3) (.slice a4 x.comms.length c4) hpl hcl RM.out
       rw [show (w5.alloc (.cells zc 27)).heap.size = w5.heap.size + 1 from by simp] at hd2
       unfold rv at hd0 hd1 hd2
       clear hset hrl)
    | (go_at_call 15; (with_reducible refine hc2.mono ?_); rintro e w5 ⟨a5, c5, a6, c6, r, rfl, hset, hrl, M5⟩
       have HSET : Hid (IsSet x.comms r) := hset
       have HRL : Hid (r.length ≤ x.comms.length) := hrl
       have m5m := (KM.out.bel M5.b).held
       obtain ⟨_, m50, m51, m52, m53, m54, m55, m56, m57⟩ := m5m
       have hmC : m ≠ w5.heap.size := by have := KM.out.lt; have := M5.b.size; omega
       have hmC' := Ne.symm hmC
       have hmD : m ≠ w5.heap.size + 1 := by have := KM.out.lt; have := M5.b.size; omega
       have hmD' := Ne.symm hmD
       have hd0 := md_copy M5 x (.slice a3 x.path.length c3) (.slice a4 x.comms.length c4) hpl hcl RM.out
       have hd1 := md_copy M5.alloc x (.slice a3 x.path.length c3) (.slice a4 x.comms.length c4) hpl hcl RM.out
       have hd2 := md_copy M5.alloc.alloc x (.slice a3 x.path.length c3) (.slice a4 x.comms.length c4) hpl hcl RM.out
       rw [show (w5.alloc (.cells zc 27)).heap.size = w5.heap.size + 1 from by simp] at hd2
       unfold rv at hd0 hd1 hd2
       clear hset hrl)
    | (go_at_call 16; (with_reducible refine hd0.mono ?_); rintro e w6 ⟨a7, c7, a8, c8, rfl, M6⟩
       have m6m := (KM.out.bel M6.b).held
       obtain ⟨_, m60, m61, m62, m63, m64, m65, m66, m67⟩ := m6m
       try (have zaz := (M6.z _ List.mem_cons_self).1; obtain ⟨_, zaz0, zaz1, zaz2, zaz3, zaz4, zaz5, zaz6, zaz7⟩ := zaz.held; have zazf := zaz.frozen; have zazn := Nat.ne_of_lt zaz.lt; have zazg := Nat.ne_of_gt zaz.lt)
       try (have zbz := (M6.z _ (List.mem_cons_of_mem _ List.mem_cons_self)).1; obtain ⟨_, zbz0, zbz1, zbz2, zbz3, zbz4, zbz5, zbz6, zbz7⟩ := zbz.held; have zbzf := zbz.frozen; have zbzn := Nat.ne_of_lt zbz.lt; have zbzg := Nat.ne_of_gt zbz.lt)
       try (have nab : (_ : Nat) ≠ _ := fun h => (List.nodup_cons.1 M6.nd).1 (List.mem_cons.2 (Or.inl h)); have nba := Ne.symm nab)
       have hmE : m ≠ w6.heap.size := by have := KM.out.lt; have := M6.b.size; omega
       have hmE' := Ne.symm hmE
       have hmF : m ≠ w6.heap.size + 1 := by have := KM.out.lt; have := M6.b.size; omega
       have hmF' := Ne.symm hmF
       clear hd0 hd1 hd2)
    | (go_at_call 16; (with_reducible refine hd1.mono ?_); rintro e w6 ⟨a7, c7, a8, c8, rfl, M6⟩
       have m6m := (KM.out.bel M6.b).held
       obtain ⟨_, m60, m61, m62, m63, m64, m65, m66, m67⟩ := m6m
       try (have zaz := (M6.z _ List.mem_cons_self).1; obtain ⟨_, zaz0, zaz1, zaz2, zaz3, zaz4, zaz5, zaz6, zaz7⟩ := zaz.held; have zazf := zaz.frozen; have zazn := Nat.ne_of_lt zaz.lt; have zazg := Nat.ne_of_gt zaz.lt)
       try (have zbz := (M6.z _ (List.mem_cons_of_mem _ List.mem_cons_self)).1; obtain ⟨_, zbz0, zbz1, zbz2, zbz3, zbz4, zbz5, zbz6, zbz7⟩ := zbz.held; have zbzf := zbz.frozen; have zbzn := Nat.ne_of_lt zbz.lt; have zbzg := Nat.ne_of_gt zbz.lt)
       try (have nab : (_ : Nat) ≠ _ := fun h => (List.nodup_cons.1 M6.nd).1 (List.mem_cons.2 (Or.inl h)); have nba := Ne.symm nab)
       have hmE : m ≠ w6.heap.size := by have := KM.out.lt; have := M6.b.size; omega
       have hmE' := Ne.symm hmE
       have hmF : m ≠ w6.heap.size + 1 := by have := KM.out.lt; have := M6.b.size; omega
       have hmF' := Ne.symm hmF
       clear hd0 hd1 hd2)
    | (go_at_call 16; (with_reducible refine hd2.mono ?_); rintro e w6 ⟨a7, c7, a8, c8, rfl, M6⟩
       have m6m := (KM.out.bel M6.b).held
       obtain ⟨_, m60, m61, m62, m63, m64, m65, m66, m67⟩ := m6m
       try (have zaz := (M6.z _ List.mem_cons_self).1; obtain ⟨_, zaz0, zaz1, zaz2, zaz3, zaz4, zaz5, zaz6, zaz7⟩ := zaz.held; have zazf := zaz.frozen; have zazn := Nat.ne_of_lt zaz.lt; have zazg := Nat.ne_of_gt zaz.lt)
       try (have zbz := (M6.z _ (List.mem_cons_of_mem _ List.mem_cons_self)).1; obtain ⟨_, zbz0, zbz1, zbz2, zbz3, zbz4, zbz5, zbz6, zbz7⟩ := zbz.held; have zbzf := zbz.frozen; have zbzn := Nat.ne_of_lt zbz.lt; have zbzg := Nat.ne_of_gt zbz.lt)
       try (have nab : (_ : Nat) ≠ _ := fun h => (List.nodup_cons.1 M6.nd).1 (List.mem_cons.2 (Or.inl h)); have nba := Ne.symm nab)
       have hmE : m ≠ w6.heap.size := by have := KM.out.lt; have := M6.b.size; omega
       have hmE' := Ne.symm hmE
       have hmF : m ≠ w6.heap.size + 1 := by have := KM.out.lt; have := M6.b.size; omega
       have hmF' := Ne.symm hmF
       clear hd0 hd1 hd2))
    all_goals (go_wp2_with fail; go_meet)
    all_goals
      have hs6 : (w6.alloc (.cells zc 27)).heap.size = w6.heap.size + 1 := by simp
      first
        | (exact ⟨w6, _, _, _, r, a5, c5, a6, c6, a7, c7, a8, c8, rfl, rfl, rfl, rfl, HSET.out, HRL.out, List.mem_cons_self, (List.mem_cons_of_mem _ List.mem_cons_self), (fun h => (List.nodup_cons.1 M6.nd).1 (List.mem_cons.2 (Or.inl h))), M6, rfl⟩)
        | (exact ⟨w6, _, _, _, r, a5, c5, a6, c6, a7, c7, a8, c8, rfl, rfl, rfl, rfl, HSET.out, HRL.out, (List.mem_cons_of_mem _ List.mem_cons_self), List.mem_cons_self, (fun h => (List.nodup_cons.1 M6.nd).1 (List.mem_cons.2 (Or.inl h.symm))), M6, rfl⟩)
        | (exact ⟨w6.alloc (.cells zc 27), _, _, w6.heap.size, r, a5, c5, a6, c6, a7, c7, a8, c8, rfl, rfl, rfl, rfl, HSET.out, HRL.out, (List.mem_cons_of_mem _ List.mem_cons_self), List.mem_cons_self, (fun h => (List.nodup_cons.1 M6.alloc.nd).1 (List.mem_cons.2 (Or.inl h.symm))), M6.alloc, (by rw [put8_old _ _ _ zaz.lt, put8_new _ _ (put8_size _ _ _ _ _).symm]; rfl)⟩)
        | (exact ⟨w6.alloc (.cells zc 27), _, w6.heap.size, _, r, a5, c5, a6, c6, a7, c7, a8, c8, rfl, rfl, rfl, rfl, HSET.out, HRL.out, List.mem_cons_self, (List.mem_cons_of_mem _ List.mem_cons_self), (fun h => (List.nodup_cons.1 M6.alloc.nd).1 (List.mem_cons.2 (Or.inl h))), M6.alloc, (by rw [put8_new _ _ rfl, put8_old _ _ _ zaz.lt]; rfl)⟩)
        | (have MM := M6.alloc.alloc; rw [hs6] at MM; exact ⟨(w6.alloc (.cells zc 27)).alloc (.cells zc 27), _, w6.heap.size, (w6.heap.size + 1), r, a5, c5, a6, c6, a7, c7, a8, c8, rfl, rfl, rfl, rfl, HSET.out, HRL.out, (List.mem_cons_of_mem _ List.mem_cons_self), List.mem_cons_self, (by omega), MM, (by rw [put8_old _ _ _ (by simp), put8_new _ _ rfl, put8_new _ _ (by simp)]; rfl)⟩)
        | (have MM := M6.alloc.alloc; rw [hs6] at MM; exact ⟨(w6.alloc (.cells zc 27)).alloc (.cells zc 27), _, (w6.heap.size + 1), w6.heap.size, r, a5, c5, a6, c6, a7, c7, a8, c8, rfl, rfl, rfl, rfl, HSET.out, HRL.out, List.mem_cons_self, (List.mem_cons_of_mem _ List.mem_cons_self), (by omega), MM, (by rw [put8_new _ _ (by simp), put8_old _ _ _ (by simp), put8_new _ _ rfl]; rfl)⟩)
  case rest =>
    obtain ⟨V, ps, p, q, r, a5, c5, a6, c6, a7, c7, a8, c8, rfl, rfl, rfl, rfl, hset, hrl, hp, hq, hpq, M, hwc⟩ := hcut
    obtain ⟨BF, KP, KQ, OF⟩ := M.put hp hq hpq (canonW x r) x (.slice a5 x.path.length c5) (.slice a6 r.length c6) (.slice a7 x.path.length c7) (.slice a8 x.comms.length c8)
    rw [← hwc] at BF KP KQ OF
    have BW4 : Hid (Below W4.heap.size W4 wc) := BF
    have KNc : Hid (BlkR wc w.heap.size x (.slice ao1 x.path.length cap1) (.slice ao2 x.comms.length cap2)) := KN.out.bel BF
    have KPc : Hid (BlkR wc p (canonW x r) (.slice a5 x.path.length c5) (.slice a6 r.length c6)) := KP
    have KQc : Hid (BlkR wc q x (.slice a7 x.path.length c7) (.slice a8 x.comms.length c8)) := KQ
    have o5 : Own1 W4.heap.size wc (.slice a5 x.path.length c5) x.path := (OF (.slice a5 x.path.length c5, x.path) (by simp))
    have o6 : Own1 W4.heap.size wc (.slice a6 r.length c6) r := (OF (.slice a6 r.length c6, r) (by simp))
    have o7 : Own1 W4.heap.size wc (.slice a7 x.path.length c7) x.path := (OF (.slice a7 x.path.length c7, x.path) (by simp))
    have o8 : Own1 W4.heap.size wc (.slice a8 x.comms.length c8) x.comms := (OF (.slice a8 x.comms.length c8, x.comms) (by simp))
    have NS : Hid (Nms W4.heap.size wc [(.slice a5 x.path.length c5, x.path.length), (.slice a6 r.length c6, r.length), (.slice a7 x.path.length c7, x.path.length), (.slice a8 x.comms.length c8, x.comms.length)]) := by
      intro s hs
      simp only [List.mem_cons, List.not_mem_nil, or_false] at hs
      rcases hs with rfl | rfl | rfl | rfl
      · exact ⟨⟨_, rfl, o5⟩, hpl⟩
      · exact ⟨⟨_, rfl, o6⟩, Nat.le_trans hrl hcl⟩
      · exact ⟨⟨_, rfl, o7⟩, hpl⟩
      · exact ⟨⟨_, rfl, o8⟩, hcl⟩
    have RC : Hid (Rts wc (canonW x r) (.slice a5 x.path.length c5) (.slice a6 r.length c6)) := ⟨Row1.of_owns o5, Row1.of_owns o6⟩
    have RD : Hid (Rts wc x (.slice a7 x.path.length c7) (.slice a8 x.comms.length c8)) := ⟨Row1.of_owns o7, Row1.of_owns o8⟩
    have RXc : Hid (Rts wc x (.slice ao1 x.path.length cap1) (.slice ao2 x.comms.length cap2)) := RN.out.bel BF
    have OKY : Hid (Ok (canonW x r)) := canonW_ok HX.out (hset.good HX.out.comms)
    have SHY : Hid (Short (canonW x r)) := ⟨HS.out.p, by show r.length < _; omega⟩
    have hr1000 : r.length ≤ 1000 := Nat.le_trans hrl hcl
    have h7 : Calls Try.prog 18 #[.agg #[.int .u32 x.addr, .int .i64 x.len, .slice ao1 x.path.length cap1, .slice ao2 x.comms.length cap2, .int .u32 x.pref, .int .u32 x.med, .int .i64 x.origin, .int .u32 x.hop]] wc.drew fun e w' => ∃ a9 c9 a10 c10, e = .returned (.agg #[.int .u32 (maskA x.addr x.len), .int .i64 (clampL x.len), .slice a9 x.path.length c9, .slice a10 r.length c10, .int .u32 x.pref, .int .u32 x.med, .int .i64 x.origin, .int .u32 x.hop]) ∧ Rts w' (canonW x r) (.slice a9 x.path.length c9) (.slice a10 r.length c10) ∧ Below wc.heap.size wc w' := by
      refine (rcanon_any x (.slice ao1 x.path.length cap1) (.slice ao2 x.comms.length cap2) wc.drew HX.out.addr (by omega) (by omega) ⟨RXc.out.p.drew 1, RXc.out.c.drew 1⟩).mono ?_
      rintro e w' ⟨u9, v9, _, r', he, hset', _, o1, o2, _, _, B5⟩
      have hr' : r' = r := hset'.unique hset
      subst hr'
      obtain ⟨a9, c9, rfl⟩ := o1.form
      obtain ⟨a10, c10, rfl⟩ := o2.form
      exact ⟨a9, c9, a10, c10, he, ⟨Row1.of_owns o1, Row1.of_owns o2⟩, (below_drewN (Below.refl _ _) 1).trans B5⟩
    have KX0 := (KNc.out.bel (Below.refl _ _)).held
    have xc0 := KX0.c0
    have xc1 := KX0.c1
    have xc2 := KX0.c2
    have xc3 := KX0.c3
    have xc4 := KX0.c4
    have xc5 := KX0.c5
    have xc6 := KX0.c6
    have xc7 := KX0.c7
    have KP0 := (KPc.out.bel (Below.refl _ _)).held
    have pc0 := KP0.c0
    have pc1 := KP0.c1
    have pc2 := KP0.c2
    have pc3 := KP0.c3
    have pc4 := KP0.c4
    have pc5 := KP0.c5
    have pc6 := KP0.c6
    have pc7 := KP0.c7
    simp only [canonW] at pc0 pc1 pc4 pc5 pc6 pc7
    have KQ0 := (KQc.out.bel (Below.refl _ _)).held
    have qc0 := KQ0.c0
    have qc1 := KQ0.c1
    have qc2 := KQ0.c2
    have qc3 := KQ0.c3
    have qc4 := KQ0.c4
    have qc5 := KQ0.c5
    have qc6 := KQ0.c6
    have qc7 := KQ0.c7
    clear BF KP KQ OF o5 o6 o7 o8 hset hrl hp hq hpq M hwc hc0 hc1 hc2 f0' f1' f2' f3' f4' f5' f6' f7' hmA hmA' hmB hmB'
    go_wp2_with fail
    go_region_held3 (fun w' => w'.cell? ⟨w.heap.size, 0, none⟩ = some (.int .u32 x.addr) ∧ w'.cell? ⟨w.heap.size, 1, none⟩ = some (.int .i64 x.len) ∧ w'.cell? ⟨w.heap.size, 2, none⟩ = some (.slice ao1 x.path.length cap1) ∧ w'.cell? ⟨w.heap.size, 3, none⟩ = some (.slice ao2 x.comms.length cap2) ∧ w'.cell? ⟨w.heap.size, 4, none⟩ = some (.int .u32 x.pref) ∧ w'.cell? ⟨w.heap.size, 5, none⟩ = some (.int .u32 x.med) ∧ w'.cell? ⟨w.heap.size, 6, none⟩ = some (.int .i64 x.origin) ∧ w'.cell? ⟨w.heap.size, 7, none⟩ = some (.int .u32 x.hop) ∧ w'.cell? ⟨p, 0, none⟩ = some (.int .u32 (maskA x.addr x.len)) ∧ w'.cell? ⟨p, 1, none⟩ = some (.int .i64 (clampL x.len)) ∧ w'.cell? ⟨p, 2, none⟩ = some (.slice a5 x.path.length c5) ∧ w'.cell? ⟨p, 3, none⟩ = some (.slice a6 r.length c6) ∧ w'.cell? ⟨p, 4, none⟩ = some (.int .u32 x.pref) ∧ w'.cell? ⟨p, 5, none⟩ = some (.int .u32 x.med) ∧ w'.cell? ⟨p, 6, none⟩ = some (.int .i64 x.origin) ∧ w'.cell? ⟨p, 7, none⟩ = some (.int .u32 x.hop) ∧ w'.cell? ⟨q, 0, none⟩ = some (.int .u32 x.addr) ∧ w'.cell? ⟨q, 1, none⟩ = some (.int .i64 x.len) ∧ w'.cell? ⟨q, 2, none⟩ = some (.slice a7 x.path.length c7) ∧ w'.cell? ⟨q, 3, none⟩ = some (.slice a8 x.comms.length c8) ∧ w'.cell? ⟨q, 4, none⟩ = some (.int .u32 x.pref) ∧ w'.cell? ⟨q, 5, none⟩ = some (.int .u32 x.med) ∧ w'.cell? ⟨q, 6, none⟩ = some (.int .i64 x.origin) ∧ w'.cell? ⟨q, 7, none⟩ = some (.int .u32 x.hop)) (go_keep)
     (first
    | (go_at_call 18; refine h7.mono ?_; rintro e w8 ⟨a9, c9, a10, c10, rfl, R9, B8⟩
       have B8' : Hid (Below wc.heap.size wc w8) := B8
       have h8 := rcmp_any (canonW x r) (canonW x r) (.slice a5 x.path.length c5) (.slice a6 r.length c6) (.slice a9 x.path.length c9) (.slice a10 r.length c10) w8 OKY.out OKY.out SHY.out SHY.out (RC.out.bel B8) R9
       rw [cmpR_self] at h8
       unfold rv at h8
       simp only [canonW] at h8
       have KXe := (KNc.out.bel B8'.out).held
       have xe0 := KXe.c0
       have xe1 := KXe.c1
       have xe2 := KXe.c2
       have xe3 := KXe.c3
       have xe4 := KXe.c4
       have xe5 := KXe.c5
       have xe6 := KXe.c6
       have xe7 := KXe.c7
       have KPe := (KPc.out.bel B8'.out).held
       have pe0 := KPe.c0
       have pe1 := KPe.c1
       have pe2 := KPe.c2
       have pe3 := KPe.c3
       have pe4 := KPe.c4
       have pe5 := KPe.c5
       have pe6 := KPe.c6
       have pe7 := KPe.c7
       simp only [canonW] at pe0 pe1 pe4 pe5 pe6 pe7
       have KQe := (KQc.out.bel B8'.out).held
       have qe0 := KQe.c0
       have qe1 := KQe.c1
       have qe2 := KQe.c2
       have qe3 := KQe.c3
       have qe4 := KQe.c4
       have qe5 := KQe.c5
       have qe6 := KQe.c6
       have qe7 := KQe.c7
       clear R9 B8)
    | (go_at_call 17; (with_reducible refine h8.mono ?_); rintro e w9 ⟨rfl, G9⟩
       have B9' : Hid (Below wc.heap.size wc w9) := B8'.out.trans (G9.below.mono B8'.out.size)
       have h9 := rcmp_any x x (.slice a7 x.path.length c7) (.slice a8 x.comms.length c8) (.slice ao1 x.path.length cap1) (.slice ao2 x.comms.length cap2) w9 HX.out HX.out HS.out HS.out (RD.out.bel B9'.out) (RXc.out.bel B9'.out)
       rw [cmpR_self] at h9
       unfold rv at h9
       have KXf := (KNc.out.bel B9'.out).held
       have xf0 := KXf.c0
       have xf1 := KXf.c1
       have xf2 := KXf.c2
       have xf3 := KXf.c3
       have xf4 := KXf.c4
       have xf5 := KXf.c5
       have xf6 := KXf.c6
       have xf7 := KXf.c7
       have KPf := (KPc.out.bel B9'.out).held
       have pf0 := KPf.c0
       have pf1 := KPf.c1
       have pf2 := KPf.c2
       have pf3 := KPf.c3
       have pf4 := KPf.c4
       have pf5 := KPf.c5
       have pf6 := KPf.c6
       have pf7 := KPf.c7
       simp only [canonW] at pf0 pf1 pf4 pf5 pf6 pf7
       have KQf := (KQc.out.bel B9'.out).held
       have qf0 := KQf.c0
       have qf1 := KQf.c1
       have qf2 := KQf.c2
       have qf3 := KQf.c3
       have qf4 := KQf.c4
       have qf5 := KQf.c5
       have qf6 := KQf.c6
       have qf7 := KQf.c7
       clear G9)
    | (go_at_call 17; (with_reducible refine h9.mono ?_); rintro e w10 ⟨rfl, G10⟩
       have B10' : Hid (Below wc.heap.size wc w10) := B9'.out.trans (G10.below.mono B9'.out.size)
       have KXg := (KNc.out.bel B10'.out).held
       have xg0 := KXg.c0
       have xg1 := KXg.c1
       have xg2 := KXg.c2
       have xg3 := KXg.c3
       have xg4 := KXg.c4
       have xg5 := KXg.c5
       have xg6 := KXg.c6
       have xg7 := KXg.c7
       have KPg := (KPc.out.bel B10'.out).held
       have pg0 := KPg.c0
       have pg1 := KPg.c1
       have pg2 := KPg.c2
       have pg3 := KPg.c3
       have pg4 := KPg.c4
       have pg5 := KPg.c5
       have pg6 := KPg.c6
       have pg7 := KPg.c7
       simp only [canonW] at pg0 pg1 pg4 pg5 pg6 pg7
       have KQg := (KQc.out.bel B10'.out).held
       have qg0 := KQg.c0
       have qg1 := KQg.c1
       have qg2 := KQg.c2
       have qg3 := KQg.c3
       have qg4 := KQg.c4
       have qg5 := KQg.c5
       have qg6 := KQg.c6
       have qg7 := KQg.c7
       clear G10))
    have NS10 : Hid (Nms W4.heap.size w10 [(.slice a5 x.path.length c5, x.path.length), (.slice a6 r.length c6, r.length), (.slice a7 x.path.length c7, x.path.length), (.slice a8 x.comms.length c8, x.comms.length)]) := NS.out.bel B10'.out
    have BW10 : Hid (Below W4.heap.size W4 w10) := BW4.out.trans (B10'.out.mono BW4.out.size)
    obtain ⟨ss, hss⟩ : ∃ ss : List (Value × Nat), ss = [(.slice a5 x.path.length c5, x.path.length), (.slice a6 r.length c6, r.length), (.slice a7 x.path.length c7, x.path.length), (.slice a8 x.comms.length c8, x.comms.length)] := ⟨_, rfl⟩
    have HSS : Hid (ss.map Prod.fst = [.slice a5 x.path.length c5, .slice a6 r.length c6, .slice a7 x.path.length c7, .slice a8 x.comms.length c8]) := by rw [hss]; rfl
    have HSL : Hid (ss.length = 4) := by rw [hss]; rfl
    rw [← hss] at NS10
    clear hss
    clear h7 h8 h9 NS RC RD RXc B8' B9' B10' BW4 KNc KPc KQc hr1000
    go_wp2_with fail
    go_loopw [39] (fun vi wr => ∃ k : Nat, k ≤ 4 ∧ vi = .int .i64 k ∧ Hid (Nms W4.heap.size wr ss) ∧ Hid (Below W4.heap.size W4 wr)) (fun vi _ => 4 - (intOf vi).toNat)
    case atStart => exact ⟨0, by omega, rfl, NS10, BW10⟩
    case round =>
      clear NS10 BW10
      obtain ⟨k, hk, rfl, NSr, BWr⟩ := hrel
      by_cases hlt : (k : Int) < 4
      · obtain ⟨s, hs⟩ : ∃ s, ss[k]? = some s := ⟨_, List.getElem?_eq_getElem (by have := HSL.out; omega)⟩
        have hsm : s ∈ ss := List.mem_of_getElem? hs
        have hz : [.slice a5 x.path.length c5, .slice a6 r.length c6, .slice a7 x.path.length c7, .slice a8 x.comms.length c8][k]? = some s.1 := by rw [← HSS.out, List.getElem?_map, hs]; rfl
        obtain ⟨z, n⟩ := s
        obtain ⟨a, c, hv⟩ := (NSr.out _ hsm).1.form
        simp only at hv hz
        subst hv
        have hn : n ≤ 1000 := (NSr.out _ hsm).2
        have hidx := fun W => index4 (.slice a5 x.path.length c5) (.slice a6 r.length c6) (.slice a7 x.path.length c7) (.slice a8 x.comms.length c8) k (.slice a n c) W hz
        have HM2 : Hid ((Value.slice a n c, n) ∈ ss) := hsm
        clear hs hsm hz
        go_wp2_with fail
        go_loopw [44] (fun vi wq => ∃ j : Nat, j ≤ n ∧ vi = .int .i64 j ∧ Hid (Nms W4.heap.size wq ss) ∧ Hid (Below W4.heap.size W4 wq)) (fun vi _ => n - (intOf vi).toNat)
        case atStart => exact ⟨0, Nat.zero_le _, rfl, NSr, BWr⟩
        case round =>
          clear NSr BWr
          obtain ⟨j, hj, rfl, NSq, BWq⟩ := hrel
          by_cases hjl : j < n
          · obtain ⟨⟨l, hl, ho⟩, _⟩ := NSq.out _ HM2.out
            simp only at hl ho
            obtain ⟨g, cap', hv', hg1, _, _, hfr, hcl'⟩ := ho.shape (ne_nil_of_lt (k := j) (by omega))
            rw [hl] at hv'
            simp at hv'
            obtain ⟨rfl, rfl⟩ := hv'
            obtain ⟨y, hy⟩ : ∃ y, l[j]? = some y := ⟨_, List.getElem?_eq_getElem (by omega)⟩
            have cc := hcl' j y hy
            have cf := hfr j
            have HBq : Hid (W4.heap.size ≤ g) := hg1
            clear hl ho hg1 hfr hcl' hy hidx
            go_wp2_with fail
            go_roundw
            case rel => exact ⟨j + 1, by omega, by go_num, NSq.out.set g j _, BWq.out.setCell (p := ⟨g, j, none⟩) HBq.out _⟩
            case measure => simp [intOf]; omega
          · clear hidx
            go_wp2_with fail
            go_roundw
            case rel => exact ⟨k + 1, by omega, by go_num, NSq, BWq⟩
            case measure => simp [intOf]; omega
      · have KNr := (KN.out.bel BWr.out).held
        have KMr := (KM.out.bel BWr.out).held
        obtain ⟨_, s0, s1, s2, s3, s4, s5, s6, s7⟩ := KNr
        obtain ⟨_, t0, t1, t2, t3, t4, t5, t6, t7⟩ := KMr
        have h11 := rcmp_any x x (.slice a3 x.path.length c3) (.slice a4 x.comms.length c4) (.slice ao1 x.path.length cap1) (.slice ao2 x.comms.length cap2) wr HX.out HX.out HS.out HS.out (RM.out.bel BWr.out) (RN.out.bel BWr.out)
        rw [cmpR_self] at h11
        unfold rv at h11
        go_wp2_with fail
        refine h11.mono ?_
        rintro e w11 ⟨rfl, G11⟩
        have D11 : Hid (Below w.heap.size w w11) := (D4.out.trans (BWr.out.mono D4.out.size)).trans (G11.below.mono (D4.out.trans (BWr.out.mono D4.out.size)).size)
        clear h11 G11
        go_wp2_with fail
        go_ret
        exact ⟨rfl, D11.out⟩
end Go.Proofs.Ytaaaccgakahapaa
