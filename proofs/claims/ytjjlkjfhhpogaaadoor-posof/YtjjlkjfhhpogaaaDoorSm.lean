/-
  The walk of the document's Same, where both are the same.
-/
import Derived.Test.YtjjlkjfhhpogaaaDoorW2
import Derived.ChangeKeysEq
import Derived.Deep.DeepCutAuto
namespace Go.Proofs.YtjjlkjfhhpogaaaDoor
open Go.RowKit

theorem cell_grown {w : World} {a : Addr} {v : Value} (ha : a.block < w.heap.size) (h : w.cell? a = some v) (n : Nat) (os : Array Obj) : (Sort.grow (w.drewN n) os).cell? a = some v :=
  ((Gr.below (⟨n, os, rfl⟩ : Gr w _)).cell ha).trans h

theorem eqIn61 (d : Nat) (a b : Int) (w : World) : (Op.equalIn (d + 1 + 1) 78 (.agg #[.int .u32 a, .int .u32 b]) (.agg #[.int .u32 a, .int .u32 b])).run Tryd.prog w = .ok true w := by
  have u3 := Tryd.underlying43
  have a3 := Tryd.isAgg43
  have z3 := Tryd.sizeOf43
  have hS5 : Tryd.prog.underlying 78 = some (.struct (Tryd.prog.fieldsOf 78)) := by kernel_rfl
  have hp5 : Tryd.prog.stoodInHeld 78 = false := by kernel_rfl
  rw [run_equalIn_agg w (d + 1) 78 _ _ hS5 hp5]
  simp only [Program.fieldsOf, Tryd.underlying78]
  go_simp
theorem neq61 (a b : Int) (w : World) : (binOp .neq 78 (.agg #[.int .u32 a, .int .u32 b]) (.agg #[.int .u32 a, .int .u32 b])).run Tryd.prog w = .ok (.bool false) w := by
  rw [run_neq_struct, show (10000 : Nat) = 9998 + 1 + 1 from rfl, eqIn61]
  rfl

set_option maxHeartbeats 2000000 in
theorem rsame_true (u v : Value) (l : List (Int × Int)) (w : World) (hl : l.length ≤ 4611686018427387903) (hu : RowS w u l) (hv : RowS w v l) :
    Calls Tryd.prog 47 #[u, v] w fun e w' => e = .returned (.bool true) ∧ Gr w w' := by
  obtain ⟨ao, cap, rfl⟩ := hu.form
  obtain ⟨ao2, cap2, rfl⟩ := hv.form
  have HU : Hid (RowS w (.slice ao l.length cap) l) := hu
  have HV : Hid (RowS w (.slice ao2 l.length cap2) l) := hv
  obtain ⟨N, hN⟩ : ∃ N : Nat, N = l.length := ⟨_, rfl⟩
  have HN : Hid (N = l.length) := hN
  rw [← hN] at HU HV hl ⊢
  clear hu hv hN
  have hmx : Tryd.prog.follows .mixedOrders = true := by kernel_rfl
  go_enter Tryd.func47, Tryd.ntmps47
  go_wp2_with fail
  go_loopw [13] (fun vi wr => ∃ k : Nat, k ≤ N ∧ vi = .int .i64 k ∧ Hid (Gr w wr)) (fun vi _ => N - (intOf vi).toNat)
  case atStart => exact ⟨0, Nat.zero_le _, rfl, Gr.refl _⟩
  case round =>
    obtain ⟨k, hk, rfl, HG⟩ := hrel
    by_cases hlt : k < N
    case neg =>
      have hle : ¬ (k : Int) < N := by omega
      go_wp2_with fail
      go_ret
      exact ⟨rfl, HG.out⟩
    obtain ⟨y, hy⟩ : ∃ y, l[k]? = some y := ⟨_, List.getElem?_eq_getElem (by have := HN.out; omega)⟩
    obtain ⟨b, off, rfl, hb, d0, d1⟩ := (HU.out.gr HG.out).cs2 hy
    obtain ⟨b2, off2, rfl, hb2, f0, f1⟩ := (HV.out.gr HG.out).cs2 hy
    have c0 := fun n os => cell_grown (w := wr) hb d0 n os
    have c1 := fun n os => cell_grown (w := wr) hb d1 n os
    have e0 := fun n os => cell_grown (w := wr) hb2 f0 n os
    have e1 := fun n os => cell_grown (w := wr) hb2 f1 n os
    have hq := fun W => neq61 y.1 y.2 W
    clear hy hb hb2 d0 f0 d1 f1
    have hlt2 : (k : Int) < N := by omega
    go_wp2_with fail
    refine wp_region_quiet_grownB (by assumption) (by kernel_rfl) ?_
    repeat (refine wpQuiet_stepB (fun K hK => ?_); go_simp; first | (refine hK _ ?_; clear hK K) | (apply Exists.intro; refine ⟨fun _ => ?_, hK _ ?_⟩; fail; clear hK K))
    refine wpQuiet_nilB ?_
    intro _ hw'
    obtain ⟨⟨nq, osq⟩, hw''⟩ := hw'
    subst hw''
    go_wp2_with fail
    go_roundw
    case rel => exact ⟨k + 1, by omega, by go_num, HG.out.trans ⟨_, _, rfl⟩⟩
    case measure => simp [intOf]; omega


set_option maxHeartbeats 4000000 in
theorem same_true (m : Nat) : ∀ (t : Tree) (x y : PC) (w : World), size t ≤ m → okT t → HT w t x → HT w t y → Calls Tryd.prog 22 #[x.v, y.v] w fun e w' => e = .returned (.bool true) ∧ Gr w w' := by
  induction m with
  | zero => intro t x y w h; have := size_pos t; omega
  | succ m ih =>
  intro t x y w hm hok hx hy
  obtain ⟨k, set, subs, rows, sa, sc, ba, bc, rfl, rfl, hS, hB, hT⟩ := hx.parts
  obtain ⟨k2, set2, subs2, rows2, sa2, sc2, ba2, bc2, he, rfl, hS2, hB2, hT2⟩ := hy.parts
  injection he with e1 e2 e3
  subst e1 e2 e3
  rw [size_mk] at hm
  obtain ⟨ok1, ok2, ok3⟩ := (okT_mk _ _ _).1 hok
  have HE : Hid (∀ (j : Nat) (s : Tree) (r r' : PC) (W : World), subs[j]? = some s → HT W s r → HT W s r' → Calls Tryd.prog 22 #[r.v, r'.v] W fun e w' => e = .returned (.bool true) ∧ Gr W w') := fun j s r r' W hs h1 h2 => ih s r r' W (by have := size_le_of_at hs; omega) (okL.at ok3 hs) h1 h2
  have krs : ∀ W, Gr w W → Calls Tryd.prog 47 #[.slice sa set.length sc, .slice sa2 set.length sc2] W fun e w' => e = .returned (.bool true) ∧ Gr W w' := fun W g => rsame_true _ _ set W (by omega) (hS.gr g) (hS2.gr g)
  obtain ⟨N, hN⟩ : ∃ N, N = subs.length := ⟨_, rfl⟩
  obtain ⟨S, hSn⟩ : ∃ S, S = set.length := ⟨_, rfl⟩
  have HN : Hid (N = subs.length) := hN
  have HB : Hid (RowT w (.slice ba N bc) rows) := by rw [hN]; exact hB
  have HB2 : Hid (RowT w (.slice ba2 N bc2) rows2) := by rw [hN]; exact hB2
  have HT' : Hid (HTs w subs rows) := hT
  have HT2 : Hid (HTs w subs rows2) := hT2
  rw [← hN] at ok2 ⊢
  rw [← hSn] at krs ⊢
  have hmx : Tryd.prog.follows .mixedOrders = true := by kernel_rfl
  clear hS hB hT hx hS2 hB2 hT2 hy hm ih hN hSn ok1 ok3 hok
  go_enter Tryd.func22, Tryd.ntmps22
  go_upto_region 1 with fail
  generalize hW : World.alloc _ _ = W2
  have HG2 : Hid (Gr w W2) := by rw [← hW]; exact ((Gr.refl _).alloc _).alloc _
  have HX2 : Hid (Blk W2 w.heap.size (encT ⟨k, ⟨sa, S, sc⟩, ⟨ba, N, bc⟩⟩).toArray 25) := by rw [← hW]; exact (Blk.new _ _ _).alloc _
  have HY2 : Hid (Blk W2 (w.heap.size + 1) (encT ⟨k, ⟨sa2, S, sc2⟩, ⟨ba2, N, bc2⟩⟩).toArray 25) := by rw [← hW]; exact Blk.new' _ _ _ _ (by simp)
  clear hW
  obtain ⟨x0, x1, x2⟩ := BlkT.cs HX2.out
  obtain ⟨y0, y1, y2⟩ := BlkT.cs HY2.out
  simp only at x0 x1 x2 y0 y1 y2
  go_wp2_with (go_at_call 47; refine (krs _ HG2.out).mono ?_; rintro _ w3 ⟨rfl, gw⟩; have HG3 : Hid (Gr w w3) := HG2.out.trans gw; have HX3 : Hid (Blk w3 w.heap.size (encT ⟨k, ⟨sa, S, sc⟩, ⟨ba, N, bc⟩⟩).toArray 25) := HX2.out.gr gw; have HY3 : Hid (Blk w3 (w.heap.size + 1) (encT ⟨k, ⟨sa2, S, sc2⟩, ⟨ba2, N, bc2⟩⟩).toArray 25) := HY2.out.gr gw; clear gw; obtain ⟨p0, p1, p2⟩ := BlkT.cs HX3.out; obtain ⟨q0, q1, q2⟩ := BlkT.cs HY3.out)
  clear HG2 HX2 HY2 x0 x1 x2 y0 y1 y2 p0 p1 p2 q0 q1 q2 krs
  go_loopw [31] (fun vi wr => ∃ j : Nat, j ≤ N ∧ vi = .int .i64 j ∧ Hid (Gr w3 wr)) (fun vi _ => N - (intOf vi).toNat)
  case atStart => exact ⟨0, Nat.zero_le _, rfl, Gr.refl _⟩
  case round =>
    obtain ⟨j, hj, rfl, HG⟩ := hrel
    by_cases hlt : j < N
    case neg =>
      have hle : ¬ (j : Int) < N := by omega
      go_wp2_with fail
      go_ret
      exact ⟨rfl, HG3.out.trans HG.out⟩
    obtain ⟨s, hs⟩ : ∃ s, subs[j]? = some s := ⟨_, List.getElem?_eq_getElem (by have := HN.out; omega)⟩
    obtain ⟨r, hr, hr2⟩ := HTs.at HT'.out hs
    obtain ⟨r', hr', hr2'⟩ := HTs.at HT2.out hs
    have gw := HG3.out.trans HG.out
    have kE : ∀ n os, Calls Tryd.prog 22 #[r.v, r'.v] (Sort.grow (wr.drewN n) os) fun e w' => e = .returned (.bool true) ∧ ∃ q os', w' = Sort.grow ((Sort.grow (wr.drewN n) os).drewN q) os' := fun n os => HE.out j s r r' _ hs (hr2.gr (gw.trans ⟨n, os, rfl⟩)) (hr2'.gr (gw.trans ⟨n, os, rfl⟩))
    obtain ⟨rb, ro, rfl, hrb, d0, d1, d2⟩ := (HB.out.gr gw).cs3 hr
    obtain ⟨rb2, ro2, rfl, hrb2, f0, f1, f2⟩ := (HB2.out.gr gw).cs3 hr'
    have c0 := fun n os => cell_grown (w := wr) hrb d0 n os
    have c1 := fun n os => cell_grown (w := wr) hrb d1 n os
    have c2 := fun n os => cell_grown (w := wr) hrb d2 n os
    have e0 := fun n os => cell_grown (w := wr) hrb2 f0 n os
    have e1 := fun n os => cell_grown (w := wr) hrb2 f1 n os
    have e2 := fun n os => cell_grown (w := wr) hrb2 f2 n os
    have m2 := fun n os => ((HX3.out.gr HG.out).grow n os).c 2
    have o2 := fun n os => ((HY3.out.gr HG.out).grow n os).c 2
    simp [encT] at m2 o2
    obtain ⟨rk, ⟨rsa, rsn, rsc⟩, rba, rbn, rbc⟩ := r
    obtain ⟨tk, ⟨tsa, tsn, tsc⟩, tba, tbn, tbc⟩ := r'
    simp only at c0 c1 c2 e0 e1 e2
    have hlt2 : (j : Int) < N := by omega
    clear hs hr hr2 hr' hr2' d0 d1 d2 f0 f1 f2 hrb hrb2 gw
    go_wp2_with fail
    refine wp_region_quiet_grownB (by assumption) (by kernel_rfl) ?_
    repeat (refine wpQuiet_stepB (fun K hK => ?_); go_simp; first | (refine hK _ ?_; clear hK K) | (apply Exists.intro; refine ⟨fun _ => ?_, hK _ ?_⟩; (go_at_call 22; with_reducible refine Calls.grown_of (kE _ _)); clear hK K))
    refine wpQuiet_nilB ?_
    intro _ hw'
    obtain ⟨⟨nq, osq⟩, hw''⟩ := hw'
    subst hw''
    have HG4 : Hid (Gr w3 (Sort.grow (wr.drewN nq) osq)) := HG.out.trans ⟨nq, osq, rfl⟩
    generalize Sort.grow (wr.drewN nq) osq = W5 at HG4 ⊢
    clear kE c0 c1 c2 e0 e1 e2 m2 o2
    go_wp2_with fail
    go_roundw
    case rel => exact ⟨j + 1, by omega, by go_num, HG4⟩
    case measure => simp [intOf]; omega

end Go.Proofs.YtjjlkjfhhpogaaaDoor
