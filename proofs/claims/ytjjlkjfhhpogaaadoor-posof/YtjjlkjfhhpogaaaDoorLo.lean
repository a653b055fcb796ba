/-
  The document's Same of two values of positions that hold the same.
  The walk of PosOf.
-/
import Derived.Test.YtjjlkjfhhpogaaaDoorLe
import Derived.Test.YtjjlkjfhhpogaaaDoorSm
import Derived.Test.YtjjlkjfhhpogaaaDoorZn
import Derived.Test.YtjjlkjfhhpogaaaDoorCq
namespace Go.Proofs.YtjjlkjfhhpogaaaDoor
open Go.RowKit

/-- Where a row lies, and how long it is. -/
theorem HP.rowAt2 {w : World} {sv fv fi la : Sl} {ss rs : List Sl} {sets : List (List (Int × Int))} {rows : List (List Nat)} {Lf Ll : List Nat} (h : HP w sv fv fi la ss rs sets rows Lf Ll) {p : Nat} {R : List Nat} (hm : rows[p]? = some R) :
    ∃ (s : Sl) (b off : Nat), fv.a = some ⟨b, off, none⟩ ∧ b < w.heap.size ∧ w.cell? ⟨b, off + p, none⟩ = some (.slice s.a s.n s.c) ∧ RowI w (.slice s.a s.n s.c) R := by
  obtain ⟨s, b, off, h1, h2, h3, h4⟩ := h.rowAt hm
  exact ⟨⟨s.a, R.length, s.c⟩, b, off, h1, h2, h3, h4⟩

set_option maxRecDepth 100000 in
set_option maxHeartbeats 8000000 in
theorem same8_true (sv fv fi la sv' fv' fi' la' : Sl) (ss rs ss' rs' : List Sl) (sets : List (List (Int × Int))) (rows : List (List Nat)) (Lf Ll : List Nat) (E : Bool) (w : World)
    (hx : HP w sv fv fi la ss rs sets rows Lf Ll) (hy : HP w sv' fv' fi' la' ss' rs' sets rows Lf Ll) (h1 : sets.length ≤ 200) (h2 : rows.length ≤ 200) (h3 : Lf.length ≤ 200) (h4 : Ll.length ≤ 200) (h5 : ∀ s ∈ sets, s.length ≤ 10000) (h6 : ∀ r ∈ rows, r.length ≤ 10000) :
    Calls Tryd.prog 35 #[PVal sv fv fi la E, PVal sv' fv' fi' la' E] w fun e w' => e = .returned (.bool true) ∧ Gr w w' := by
  obtain ⟨n1, n2, n3, n4⟩ := hx.nums
  obtain ⟨m1, m2, m3, m4⟩ := hy.nums
  obtain ⟨sa, sn, sc⟩ := sv
  obtain ⟨va, vn, vc⟩ := fv
  obtain ⟨ia, iN, ic⟩ := fi
  obtain ⟨la, ln, lc⟩ := la
  obtain ⟨sa', sn', sc'⟩ := sv'
  obtain ⟨va', vn', vc'⟩ := fv'
  obtain ⟨ia', iN', ic'⟩ := fi'
  obtain ⟨la', ln', lc'⟩ := la'
  simp only at n1 n2 n3 n4 m1 m2 m3 m4
  obtain rfl : sn' = sn := by omega
  obtain rfl : vn' = vn := by omega
  obtain rfl : iN' = iN := by omega
  obtain rfl : ln' = ln := by omega
  have HN : Hid (sn' = sets.length ∧ vn' = rows.length) := ⟨n1, n2⟩
  have hs2 : sn' ≤ 200 := by omega
  have hv2 : vn' ≤ 200 := by omega
  have HX : Hid (HP w ⟨sa, sn', sc⟩ ⟨va, vn', vc⟩ ⟨ia, iN', ic⟩ ⟨la, ln', lc⟩ ss rs sets rows Lf Ll) := hx
  have HY : Hid (HP w ⟨sa', sn', sc'⟩ ⟨va', vn', vc'⟩ ⟨ia', iN', ic'⟩ ⟨la', ln', lc'⟩ ss' rs' sets rows Lf Ll) := hy
  have H5 : Hid (∀ s ∈ sets, s.length ≤ 10000) := h5
  have H6 : Hid (∀ r ∈ rows, r.length ≤ 10000) := h6
  have kF : ∀ W, Gr w W → Calls Tryd.prog 38 #[.slice ia iN' ic, .slice ia' iN' ic'] W fun e w' => e = .returned (.bool true) ∧ Gr W w' := fun W g => by
    have := ints_any _ _ Lf Lf W (by omega) (HX.out.hf.gr g) (HY.out.hf.gr g)
    simpa using this
  have kL : ∀ W, Gr w W → Calls Tryd.prog 38 #[.slice la ln' lc, .slice la' ln' lc'] W fun e w' => e = .returned (.bool true) ∧ Gr W w' := fun W g => by
    have := ints_any _ _ Ll Ll W (by omega) (HX.out.hl.gr g) (HY.out.hl.gr g)
    simpa using this
  have hmx : Tryd.prog.follows .mixedOrders = true := by kernel_rfl
  clear hx hy h1 h2 h3 h4 h5 h6 n1 n2 n3 n4 m1 m2 m3 m4
  go_enter Tryd.func35, Tryd.ntmps35
  go_upto_region 1 with fail
  generalize hW : World.alloc _ _ = W1
  have G1 : Hid (Gr w W1) := by rw [← hW]; exact ((Gr.refl _).alloc _).alloc _
  have P1 : Hid (Blk W1 w.heap.size #[.slice sa sn' sc, .bool E, .slice ia iN' ic, .slice la ln' lc, .slice va vn' vc] 56) := by rw [← hW]; exact (Blk.new _ _ _).alloc _
  have Q1 : Hid (Blk W1 (w.heap.size + 1) #[.slice sa' sn' sc', .bool E, .slice ia' iN' ic', .slice la' ln' lc', .slice va' vn' vc'] 56) := by rw [← hW]; exact Blk.new' _ _ _ _ (by simp)
  clear hW
  have p0 := P1.out.c 0
  have p1 := P1.out.c 1
  have p2 := P1.out.c 2
  have q1 := Q1.out.c 1
  have q2 := Q1.out.c 2
  simp only [List.getElem?_toArray, List.getElem?_cons_zero, List.getElem?_cons_succ] at p0 p1 p2 q1 q2
  go_upto_region 3 with (first
    | (go_at_call 38; (with_reducible refine (kF _ G1.out).mono ?_); rintro _ w2 ⟨rfl, gw⟩; have G2 : Hid (Gr w w2) := G1.out.trans gw; have P2 : Hid (Blk w2 w.heap.size #[.slice sa sn' sc, .bool E, .slice ia iN' ic, .slice la ln' lc, .slice va vn' vc] 56) := P1.out.gr gw; have Q2 : Hid (Blk w2 (w.heap.size + 1) #[.slice sa' sn' sc', .bool E, .slice ia' iN' ic', .slice la' ln' lc', .slice va' vn' vc'] 56) := Q1.out.gr gw; clear gw kF p0 p1 p2 q1 q2; have p3 := P2.out.c 3; have q3 := Q2.out.c 3; simp only [List.getElem?_toArray, List.getElem?_cons_zero, List.getElem?_cons_succ] at p3 q3)
    | (go_at_call 38; (with_reducible refine (kL _ G2.out).mono ?_); rintro _ w3 ⟨rfl, gw⟩; have G3 : Hid (Gr w w3) := G2.out.trans gw; have P3 : Hid (Blk w3 w.heap.size #[.slice sa sn' sc, .bool E, .slice ia iN' ic, .slice la ln' lc, .slice va vn' vc] 56) := P2.out.gr gw; have Q3 : Hid (Blk w3 (w.heap.size + 1) #[.slice sa' sn' sc', .bool E, .slice ia' iN' ic', .slice la' ln' lc', .slice va' vn' vc'] 56) := Q2.out.gr gw; clear gw kL p3 q3; have p4 := P3.out.c 4; have q4 := Q3.out.c 4; have p0 := P3.out.c 0; have q0 := Q3.out.c 0; simp only [List.getElem?_toArray, List.getElem?_cons_zero, List.getElem?_cons_succ] at p4 q4 p0 q0))
  clear P1 Q1 P2 Q2 G1 G2
  go_wp2_with fail
  go_loopw [49] (fun vi wr => ∃ i : Nat, i ≤ vn' ∧ vi = .int .i64 i ∧ Hid (Gr w3 wr)) (fun vi _ => vn' - (intOf vi).toNat)
  case atStart => exact ⟨0, Nat.zero_le _, rfl, Gr.refl _⟩
  case round =>
    clear p4 q4 p0 q0
    obtain ⟨i, hi, rfl, HG⟩ := hrel
    by_cases hlt : i < vn'
    case pos =>
      obtain ⟨R, hR⟩ : ∃ R, rows[i]? = some R := ⟨_, List.getElem?_eq_getElem (by have := HN.out; omega)⟩
      have hR2 := H6.out R (List.mem_of_getElem? hR)
      have gw := G3.out.trans HG.out
      obtain ⟨⟨y1, y2, y3⟩, yb, yo, hya, hyb, cy, hyr⟩ := (HX.out.gr gw).rowAt2 hR
      obtain ⟨⟨z1, z2, z3⟩, zb, zo, hza, hzb, cz, hzr⟩ := (HY.out.gr gw).rowAt2 hR
      have kE : ∀ n os, Calls Tryd.prog 38 #[.slice y1 y2 y3, .slice z1 z2 z3] (Sort.grow (wr.drewN n) os) fun e w' => e = .returned (.bool true) ∧ ∃ q os', w' = Sort.grow ((Sort.grow (wr.drewN n) os).drewN q) os' := fun n os => by
        have h := ints_any _ _ R R _ (by omega) (hyr.gr (w' := Sort.grow (wr.drewN n) os) ⟨n, os, rfl⟩) (hzr.gr (w' := Sort.grow (wr.drewN n) os) ⟨n, os, rfl⟩)
        rw [decide_eq_true rfl] at h
        exact h
      simp only at hya hza cy cz
      have c0 := fun n os => cell_gr (w := wr) hyb cy n os
      have e0 := fun n os => cell_gr (w := wr) hzb cz n os
      have m4 := fun n os => ((P3.out.gr HG.out).grow n os).c 4
      have o4 := fun n os => ((Q3.out.gr HG.out).grow n os).c 4
      simp at m4 o4
      rw [hya] at m4
      rw [hza] at o4
      have hlt2 : (i : Int) < vn' := by omega
      clear hR hR2 gw hyb hzb cy cz hyr hzr hya hza
      go_wp2_with fail
      refine wp_region_quiet_grownB (by assumption) (by kernel_rfl) ?_
      repeat (refine wpQuiet_stepB (fun K hK => ?_); go_simp; first | (refine hK _ ?_; clear hK K) | (apply Exists.intro; refine ⟨fun _ => ?_, hK _ ?_⟩; (go_at_call 38; with_reducible refine Calls.grown_of (kE _ _)); clear hK K))
      refine wpQuiet_nilB ?_
      intro _ hw'
      obtain ⟨⟨nq, osq⟩, hw''⟩ := hw'
      subst hw''
      have HG4 : Hid (Gr w3 (Sort.grow (wr.drewN nq) osq)) := HG.out.trans ⟨nq, osq, rfl⟩
      generalize Sort.grow (wr.drewN nq) osq = W5 at HG4 ⊢
      clear kE c0 e0 m4 o4
      go_wp2_with fail
      go_roundw
      case rel => exact ⟨i + 1, by omega, by go_num, HG4⟩
      case measure => simp [intOf]; omega
    case neg =>
      have hle : ¬ (i : Int) < vn' := by omega
      rename World => w4
      have G5 : Hid (Gr w w4) := G3.out.trans HG.out
      have P5 : Hid (Blk w4 w.heap.size #[.slice sa sn' sc, .bool E, .slice ia iN' ic, .slice la ln' lc, .slice va vn' vc] 56) := P3.out.gr HG.out
      have Q5 : Hid (Blk w4 (w.heap.size + 1) #[.slice sa' sn' sc', .bool E, .slice ia' iN' ic', .slice la' ln' lc', .slice va' vn' vc'] 56) := Q3.out.gr HG.out
      have p0 := P5.out.c 0
      simp only [List.getElem?_toArray, List.getElem?_cons_zero] at p0
      clear HG P3 Q3 G3
      go_wp2_with fail
      go_loopw [68] (fun vi wl => ∃ j : Nat, j ≤ sn' ∧ vi = .int .i64 j ∧ Hid (Gr w4 wl)) (fun vi _ => sn' - (intOf vi).toNat)
      case atStart => exact ⟨0, Nat.zero_le _, rfl, Gr.refl _⟩
      case round =>
        clear p0
        obtain ⟨j, hj, rfl, HG⟩ := hrel
        by_cases hlt : j < sn'
        case neg =>
          have hle2 : ¬ (j : Int) < sn' := by omega
          go_wp2_with fail
          go_ret
          exact ⟨rfl, G5.out.trans HG.out⟩
        obtain ⟨R, hR⟩ : ∃ R, sets[j]? = some R := ⟨_, List.getElem?_eq_getElem (by have := HN.out; omega)⟩
        have hR2 := H5.out R (List.mem_of_getElem? hR)
        have gw := G5.out.trans HG.out
        obtain ⟨⟨y1, y2, y3⟩, yb, yo, hya, hyb, cy, hyr⟩ := (HX.out.gr gw).setAt hR
        obtain ⟨⟨z1, z2, z3⟩, zb, zo, hza, hzb, cz, hzr⟩ := (HY.out.gr gw).setAt hR
        have kE : ∀ n os, Calls Tryd.prog 47 #[.slice y1 y2 y3, .slice z1 z2 z3] (Sort.grow (wr.drewN n) os) fun e w' => e = .returned (.bool true) ∧ ∃ q os', w' = Sort.grow ((Sort.grow (wr.drewN n) os).drewN q) os' := fun n os =>
          rsame_true _ _ R _ (by omega) (hyr.gr (w' := Sort.grow (wr.drewN n) os) ⟨n, os, rfl⟩) (hzr.gr (w' := Sort.grow (wr.drewN n) os) ⟨n, os, rfl⟩)
        simp only at hya hza cy cz
        have c0 := fun n os => cell_gr (w := wr) hyb cy n os
        have e0 := fun n os => cell_gr (w := wr) hzb cz n os
        have m4 := fun n os => ((P5.out.gr HG.out).grow n os).c 0
        have o4 := fun n os => ((Q5.out.gr HG.out).grow n os).c 0
        simp at m4 o4
        rw [hya] at m4
        rw [hza] at o4
        have hlt2 : (j : Int) < sn' := by omega
        clear hR hR2 gw hyb hzb cy cz hyr hzr hya hza
        go_wp2_with fail
        refine wp_region_quiet_grownB (by assumption) (by kernel_rfl) ?_
        repeat (refine wpQuiet_stepB (fun K hK => ?_); go_simp; first | (refine hK _ ?_; clear hK K) | (apply Exists.intro; refine ⟨fun _ => ?_, hK _ ?_⟩; (go_at_call 47; with_reducible refine Calls.grown_of (kE _ _)); clear hK K))
        refine wpQuiet_nilB ?_
        intro _ hw'
        obtain ⟨⟨nq, osq⟩, hw''⟩ := hw'
        subst hw''
        have HG4 : Hid (Gr w4 (Sort.grow (wr.drewN nq) osq)) := HG.out.trans ⟨nq, osq, rfl⟩
        generalize Sort.grow (wr.drewN nq) osq = W5 at HG4 ⊢
        clear kE c0 e0 m4 o4
        go_wp2_with fail
        go_roundw
        case rel => exact ⟨j + 1, by omega, by go_num, HG4⟩
        case measure => simp [intOf]; omega

end Go.Proofs.YtjjlkjfhhpogaaaDoor

namespace Go.Proofs.YtjjlkjfhhpogaaaDoor
open Go.RowKit

/-- A law's world: nothing old has turned, the pattern lies in its box, its copy in another one. -/
structure CX (w : World) (x : PC) (b : Nat) (y : PC) (W : World) : Prop where
  bel : Below w.heap.size w W
  box : Blk W w.heap.size (encT x).toArray 25
  cop : Blk W b (encT y).toArray 25
theorem CX.go {w : World} {x y : PC} {b : Nat} {W W' : World} (h : CX w x b y W) (g : Below W.heap.size W W') : CX w x b y W' := ⟨bstep h.bel g, h.box.bel g, h.cop.bel g⟩

theorem rof_right (rn : RNK) (t : Tree) (x : PC) (w : World) (hok : okT t) (hg : goodT t) (hx : HT w t x) (hr : rightT t = true) (E : Bool) (hE : E = emp t) :
    Calls Tryd.prog 34 #[x.v] w fun e w' => ∃ (sv fv fi la : Sl) (ss rs : List Sl) (sets : List (List (Int × Int))) (rows : List (List Nat)) (Lf Ll : List Nat),
      e = .returned (.tuple #[.agg #[.slice sv.a sv.n sv.c, .bool E, .slice fi.a fi.n fi.c, .slice la.a la.n la.c, .slice fv.a fv.n fv.c], .int .i64 0]) ∧ HP w' sv fv fi la ss rs sets rows Lf Ll ∧ IsPosR t sets rows Lf Ll ∧ Below w.heap.size w w' :=
  (rof_any rn t x w hok hg hx).mono fun e w' h => by
    obtain ⟨hb, ⟨h1, _⟩ | ⟨_, sv, fv, fi, la, ss, rs, sets, rows, Lf, Ll, rfl, hp, ip⟩⟩ := h
    · rw [hr] at h1; cases h1
    · exact ⟨sv, fv, fi, la, ss, rs, sets, rows, Lf, Ll, by rw [hE]; rfl, hp, ip, hb⟩
theorem rof_wrong (rn : RNK) (t : Tree) (x : PC) (w : World) (hok : okT t) (hg : goodT t) (hx : HT w t x) (hr : rightT t = false) :
    Calls Tryd.prog 34 #[x.v] w fun e w' => e = .returned (.tuple #[.agg #[.slice none 0 0, .bool false, .slice none 0 0, .slice none 0 0, .slice none 0 0], .int .i64 4]) ∧ Below w.heap.size w w' :=
  (rof_any rn t x w hok hg hx).mono fun e w' h => by
    obtain ⟨hb, ⟨_, rfl⟩ | ⟨h1, _⟩⟩ := h
    · exact ⟨rfl, hb⟩
    · rw [hr] at h1; cases h1

theorem HP.none (w : World) : HP w ⟨none, 0, 0⟩ ⟨none, 0, 0⟩ ⟨none, 0, 0⟩ ⟨none, 0, 0⟩ [] [] [] [] [] [] :=
  ⟨RowX.nil _ _ _, RowX.nil _ _ _, rfl, rfl, fun _ _ _ h => by simp at h, fun _ _ _ h => by simp at h, RowX.nil _ _ _, RowX.nil _ _ _⟩

set_option maxRecDepth 100000 in
set_option maxHeartbeats 8000000 in
theorem law_posof (kn : KN) (kal : ALIVE) (rn : RNK) (t : Tree) (x : PC) (w : World) (hok : okT t) (hg : goodT t) (hx : HT w t x) (hT : Tab w) :
    Calls Tryd.prog 10 #[x.v] w fun e w' => e = .returned (.bool true) ∧ Below w.heap.size w w' := by
  have kg := fun W h => great_any t x W hok h
  have HX : Hid (HT w t x) := hx
  have HTb : Hid (Tab w) := hT
  have HG : Hid (goodT t) := hg
  have HOk : Hid (okT t) := hok
  obtain ⟨xk, ⟨x1, x2, x3⟩, x4, x5, x6⟩ := x
  clear hT hx hg hok
  go_enter Tryd.func10, Tryd.ntmps10
  go_upto_region 1 with fail
  generalize hW : World.alloc _ _ = W
  have HI : Hid (BX w ⟨xk, ⟨x1, x2, x3⟩, ⟨x4, x5, x6⟩⟩ W) := by
    rw [← hW]
    exact ⟨(Below.refl _ _).alloc (Nat.le_refl _) _, Blk.new _ _ _⟩
  clear hW
  by_cases c : 3000 < size t
  · have kg2 : ∀ W, HT W t ⟨xk, ⟨x1, x2, x3⟩, ⟨x4, x5, x6⟩⟩ → Calls Tryd.prog 15 #[PC.v ⟨xk, ⟨x1, x2, x3⟩, ⟨x4, x5, x6⟩⟩] W fun e w' => e = .returned (.bool true) ∧ Gr W w' := fun W h => by have := kg W h; simpa [c] using this
    clear kg
    go_wp2_with (first
      | (go_at_call 32; refine (kal _ (HTb.out.bel HI.out.bel)).mono ?_; rintro _ w2 ⟨rfl, gw⟩; have I2 : Hid (BX w ⟨xk, ⟨x1, x2, x3⟩, ⟨x4, x5, x6⟩⟩ w2) := HI.out.go gw; clear gw; obtain ⟨e0, e1, e2⟩ := BlkT.cs I2.out.box)
      | (go_at_call 15; refine (kg2 _ (HT.bel I2.out.bel HX.out)).mono ?_; rintro _ w3 ⟨rfl, gw⟩; have I3 : Hid (BX w ⟨xk, ⟨x1, x2, x3⟩, ⟨x4, x5, x6⟩⟩ w3) := I2.out.go gw.below; clear gw))
    go_ret
    exact ⟨rfl, I3.out.bel⟩
  have kg2 : ∀ W, HT W t ⟨xk, ⟨x1, x2, x3⟩, ⟨x4, x5, x6⟩⟩ → Calls Tryd.prog 15 #[PC.v ⟨xk, ⟨x1, x2, x3⟩, ⟨x4, x5, x6⟩⟩] W fun e w' => e = .returned (.bool false) ∧ Gr W w' := fun W h => by have := kg W h; simpa [c] using this
  have kc := fun W h => copy_any _ t ⟨xk, ⟨x1, x2, x3⟩, ⟨x4, x5, x6⟩⟩ W (Nat.le_refl _) (by omega) HOk.out h
  clear kg
  go_upto_region 6 with (first
    | (go_at_call 32; refine (kal _ (HTb.out.bel HI.out.bel)).mono ?_; rintro _ w2 ⟨rfl, gw⟩; have I2 : Hid (BX w ⟨xk, ⟨x1, x2, x3⟩, ⟨x4, x5, x6⟩⟩ w2) := HI.out.go gw; clear gw; obtain ⟨e0, e1, e2⟩ := BlkT.cs I2.out.box)
    | (go_at_call 15; refine (kg2 _ (HT.bel I2.out.bel HX.out)).mono ?_; rintro _ w3 ⟨rfl, gw⟩; have I3 : Hid (BX w ⟨xk, ⟨x1, x2, x3⟩, ⟨x4, x5, x6⟩⟩ w3) := I2.out.go gw.below; clear gw; obtain ⟨f0, f1, f2⟩ := BlkT.cs I3.out.box)
    | (go_at_call 16; refine (kc _ (HT.bel I3.out.bel HX.out)).mono ?_; rintro _ w4 ⟨⟨i0, ⟨i1, i2, i3⟩, i4, i5, i6⟩, rfl, ho4, bb4⟩; have I4 : Hid (BX w ⟨xk, ⟨x1, x2, x3⟩, ⟨x4, x5, x6⟩⟩ w4) := I3.out.go bb4; have H4 : Hid (HT w4 t ⟨i0, ⟨i1, i2, i3⟩, ⟨i4, i5, i6⟩⟩) := ho4.held; clear ho4 bb4))
  generalize hW5 : World.alloc _ _ = W5
  have V5 : Hid (CX w ⟨xk, ⟨x1, x2, x3⟩, ⟨x4, x5, x6⟩⟩ w4.heap.size ⟨i0, ⟨i1, i2, i3⟩, ⟨i4, i5, i6⟩⟩ W5) := by rw [← hW5]; exact ⟨bstep I4.out.bel (bel_alloc _ _), I4.out.box.alloc _, Blk.new _ _ _⟩
  have H5 : Hid (HT W5 t ⟨i0, ⟨i1, i2, i3⟩, ⟨i4, i5, i6⟩⟩) := by rw [← hW5]; exact HT.bel (bel_alloc _ _) H4.out
  clear hW5 H4 I4 I3 I2 HI kal kg2 kc e0 e1 e2 f0 f1 f2 c
  have ks := fun y y' W h h' => same_true _ t y y' W (Nat.le_refl _) HOk.out h h'
  obtain ⟨j0, j1, j2⟩ := BlkT.cs V5.out.cop
  simp only at j0 j1 j2
  cases c4 : rightT t with
  | false =>
    have ko := fun y W h => of_wrong kn t y W HOk.out HG.out h c4
    have kr := fun W h => rof_wrong rn t ⟨xk, ⟨x1, x2, x3⟩, x4, x5, x6⟩ W HOk.out HG.out h c4
    clear c4
    go_upto_region 7 with (go_at_call 33; refine (ko ⟨i0, ⟨i1, i2, i3⟩, i4, i5, i6⟩ _ H5.out).mono ?_; rintro _ w6 ⟨rfl, gw⟩; have V6 : Hid (CX w ⟨xk, ⟨x1, x2, x3⟩, ⟨x4, x5, x6⟩⟩ w4.heap.size ⟨i0, ⟨i1, i2, i3⟩, ⟨i4, i5, i6⟩⟩ w6) := V5.out.go gw; have H6 : Hid (HT w6 t ⟨i0, ⟨i1, i2, i3⟩, ⟨i4, i5, i6⟩⟩) := HT.bel gw H5.out; clear gw)
    generalize hW7 : World.alloc _ _ = W7
    have V7 : Hid (CX w ⟨xk, ⟨x1, x2, x3⟩, ⟨x4, x5, x6⟩⟩ w4.heap.size ⟨i0, ⟨i1, i2, i3⟩, ⟨i4, i5, i6⟩⟩ W7) := by rw [← hW7]; exact V6.out.go (bel_alloc _ _)
    have H7 : Hid (HT W7 t ⟨i0, ⟨i1, i2, i3⟩, ⟨i4, i5, i6⟩⟩) := by rw [← hW7]; exact HT.bel (bel_alloc _ _) H6.out
    have P7 : Hid (Blk W7 w6.heap.size #[.slice none 0 0, .bool false, .slice none 0 0, .slice none 0 0, .slice none 0 0] 53) := by rw [← hW7]; exact Blk.new _ _ _
    clear hW7 V6 H6 V5 H5 j0 j1 j2 ko
    obtain ⟨j0, j1, j2⟩ := BlkT.cs V7.out.box
    simp only at j0 j1 j2
    go_upto_region 8 with (go_at_call 34; refine (kr _ (HT.bel V7.out.bel HX.out)).mono ?_; rintro _ w8 ⟨rfl, gw⟩; have V8 : Hid (CX w ⟨xk, ⟨x1, x2, x3⟩, ⟨x4, x5, x6⟩⟩ w4.heap.size ⟨i0, ⟨i1, i2, i3⟩, ⟨i4, i5, i6⟩⟩ w8) := V7.out.go gw; have H8 : Hid (HT w8 t ⟨i0, ⟨i1, i2, i3⟩, ⟨i4, i5, i6⟩⟩) := HT.bel gw H7.out; have P8 : Hid (Blk w8 w6.heap.size #[.slice none 0 0, .bool false, .slice none 0 0, .slice none 0 0, .slice none 0 0] 53) := P7.out.bel gw; clear gw)
    generalize hW9 : World.alloc _ _ = W9
    have V9 : Hid (CX w ⟨xk, ⟨x1, x2, x3⟩, ⟨x4, x5, x6⟩⟩ w4.heap.size ⟨i0, ⟨i1, i2, i3⟩, ⟨i4, i5, i6⟩⟩ W9) := by rw [← hW9]; exact V8.out.go (bel_alloc _ _)
    have H9 : Hid (HT W9 t ⟨i0, ⟨i1, i2, i3⟩, ⟨i4, i5, i6⟩⟩) := by rw [← hW9]; exact HT.bel (bel_alloc _ _) H8.out
    have P9 : Hid (Blk W9 w6.heap.size #[.slice none 0 0, .bool false, .slice none 0 0, .slice none 0 0, .slice none 0 0] 53) := by rw [← hW9]; exact P8.out.bel (bel_alloc _ _)
    have Q9 : Hid (Blk W9 w8.heap.size #[.slice none 0 0, .bool false, .slice none 0 0, .slice none 0 0, .slice none 0 0] 56) := by rw [← hW9]; exact Blk.new _ _ _
    clear hW9 V8 H8 P8 V7 H7 P7 j0 j1 j2 kr
    have k35 : Calls Tryd.prog 35 #[.agg #[.slice none 0 0, .bool false, .slice none 0 0, .slice none 0 0, .slice none 0 0], .agg #[.slice none 0 0, .bool false, .slice none 0 0, .slice none 0 0, .slice none 0 0]] W9 fun e w' => e = .returned (.bool true) ∧ Gr W9 w' :=
      same8_true ⟨none, 0, 0⟩ ⟨none, 0, 0⟩ ⟨none, 0, 0⟩ ⟨none, 0, 0⟩ ⟨none, 0, 0⟩ ⟨none, 0, 0⟩ ⟨none, 0, 0⟩ ⟨none, 0, 0⟩ [] [] [] [] [] [] [] [] false W9 (HP.none _) (HP.none _) (by simp) (by simp) (by simp) (by simp) (by simp) (by simp)
    have p0 := P9.out.c 0
    have p1 := P9.out.c 1
    have p2 := P9.out.c 2
    have p3 := P9.out.c 3
    have p4 := P9.out.c 4
    have q0 := Q9.out.c 0
    have q1 := Q9.out.c 1
    have q2 := Q9.out.c 2
    have q3 := Q9.out.c 3
    have q4 := Q9.out.c 4
    simp only [List.getElem?_toArray, List.getElem?_cons_zero, List.getElem?_cons_succ] at p0 p1 p2 p3 p4 q0 q1 q2 q3 q4
    go_wp2_with (first
      | (go_at_call 35; refine k35.mono ?_; rintro _ w10 ⟨rfl, gw⟩; have V10 : Hid (CX w ⟨xk, ⟨x1, x2, x3⟩, ⟨x4, x5, x6⟩⟩ w4.heap.size ⟨i0, ⟨i1, i2, i3⟩, ⟨i4, i5, i6⟩⟩ w10) := V9.out.go gw.below; have H10 : Hid (HT w10 t ⟨i0, ⟨i1, i2, i3⟩, ⟨i4, i5, i6⟩⟩) := H9.out.gr gw; clear gw p0 p1 p2 p3 p4 q0 q1 q2 q3 q4; obtain ⟨f0, f1, f2⟩ := BlkT.cs V10.out.box; obtain ⟨g0, g1, g2⟩ := BlkT.cs V10.out.cop)
      | (go_at_call 22; refine (ks ⟨i0, ⟨i1, i2, i3⟩, i4, i5, i6⟩ ⟨xk, ⟨x1, x2, x3⟩, x4, x5, x6⟩ _ H10.out (HT.bel V10.out.bel HX.out)).mono ?_; rintro _ w11 ⟨rfl, gw⟩; have B11 : Hid (Below w.heap.size w w11) := bstep V10.out.bel gw.below; clear gw))
    go_ret
    exact ⟨rfl, B11.out⟩
  | true =>
    obtain ⟨E, hE⟩ : ∃ E, E = emp t := ⟨_, rfl⟩
    have ko := fun y W h => of_right kn t y W HOk.out HG.out h c4 E hE
    have kr := fun W h => rof_right rn t ⟨xk, ⟨x1, x2, x3⟩, x4, x5, x6⟩ W HOk.out HG.out h c4 E hE
    have HR : Hid (rightT t = true) := c4
    clear c4 hE
    go_upto_region 7 with (go_at_call 33; refine (ko ⟨i0, ⟨i1, i2, i3⟩, i4, i5, i6⟩ _ H5.out).mono ?_; rintro _ w6 ⟨⟨sa, sn, sc⟩, ⟨va, vn, vc⟩, ⟨ia, iN, ic⟩, ⟨la, ln, lc⟩, ss, rs, sets, rows, Lf, Ll, rfl, hp, ip, gw⟩; have HH : Hid _ := hp; have IP : Hid _ := ip; have V6 : Hid (CX w ⟨xk, ⟨x1, x2, x3⟩, ⟨x4, x5, x6⟩⟩ w4.heap.size ⟨i0, ⟨i1, i2, i3⟩, ⟨i4, i5, i6⟩⟩ w6) := V5.out.go gw; have H6 : Hid (HT w6 t ⟨i0, ⟨i1, i2, i3⟩, ⟨i4, i5, i6⟩⟩) := HT.bel gw H5.out; clear gw hp ip)
    generalize hW7 : World.alloc _ _ = W7
    have V7 : Hid (CX w ⟨xk, ⟨x1, x2, x3⟩, ⟨x4, x5, x6⟩⟩ w4.heap.size ⟨i0, ⟨i1, i2, i3⟩, ⟨i4, i5, i6⟩⟩ W7) := by rw [← hW7]; exact V6.out.go (bel_alloc _ _)
    have H7 : Hid (HT W7 t ⟨i0, ⟨i1, i2, i3⟩, ⟨i4, i5, i6⟩⟩) := by rw [← hW7]; exact HT.bel (bel_alloc _ _) H6.out
    have P7 : Hid (Blk W7 w6.heap.size #[.slice sa sn sc, .bool E, .slice ia iN ic, .slice la ln lc, .slice va vn vc] 53) := by rw [← hW7]; exact Blk.new _ _ _
    have HH7 : Hid _ := HH.out.bel (w' := W7) (by rw [← hW7]; exact bel_alloc _ _)
    clear hW7 V6 H6 V5 H5 j0 j1 j2 ko HH
    obtain ⟨j0, j1, j2⟩ := BlkT.cs V7.out.box
    simp only at j0 j1 j2
    go_upto_region 8 with (go_at_call 34; refine (kr _ (HT.bel V7.out.bel HX.out)).mono ?_; rintro _ w8 ⟨⟨sa', sn', sc'⟩, ⟨va', vn', vc'⟩, ⟨ia', iN', ic'⟩, ⟨la', ln', lc'⟩, ss', rs', sets', rows', Lf', Ll', rfl, hp, ip, gw⟩; have HY : Hid _ := hp; have IQ : Hid _ := ip; have HH8 : Hid _ := HH7.out.bel gw; have V8 : Hid (CX w ⟨xk, ⟨x1, x2, x3⟩, ⟨x4, x5, x6⟩⟩ w4.heap.size ⟨i0, ⟨i1, i2, i3⟩, ⟨i4, i5, i6⟩⟩ w8) := V7.out.go gw; have H8 : Hid (HT w8 t ⟨i0, ⟨i1, i2, i3⟩, ⟨i4, i5, i6⟩⟩) := HT.bel gw H7.out; have P8 : Hid (Blk w8 w6.heap.size #[.slice sa sn sc, .bool E, .slice ia iN ic, .slice la ln lc, .slice va vn vc] 53) := P7.out.bel gw; clear gw hp ip)
    generalize hW9 : World.alloc _ _ = W9
    have V9 : Hid (CX w ⟨xk, ⟨x1, x2, x3⟩, ⟨x4, x5, x6⟩⟩ w4.heap.size ⟨i0, ⟨i1, i2, i3⟩, ⟨i4, i5, i6⟩⟩ W9) := by rw [← hW9]; exact V8.out.go (bel_alloc _ _)
    have H9 : Hid (HT W9 t ⟨i0, ⟨i1, i2, i3⟩, ⟨i4, i5, i6⟩⟩) := by rw [← hW9]; exact HT.bel (bel_alloc _ _) H8.out
    have P9 : Hid (Blk W9 w6.heap.size #[.slice sa sn sc, .bool E, .slice ia iN ic, .slice la ln lc, .slice va vn vc] 53) := by rw [← hW9]; exact P8.out.bel (bel_alloc _ _)
    have Q9 : Hid (Blk W9 w8.heap.size #[.slice sa' sn' sc', .bool E, .slice ia' iN' ic', .slice la' ln' lc', .slice va' vn' vc'] 56) := by rw [← hW9]; exact Blk.new _ _ _
    have HH9 := HH8.out.bel (w' := W9) (by rw [← hW9]; exact bel_alloc _ _)
    have HY9 := HY.out.bel (w' := W9) (by rw [← hW9]; exact bel_alloc _ _)
    obtain ⟨t1, t2, t3, t4⟩ := same_lists IP.out IQ.out
    subst t1 t2 t3 t4
    obtain ⟨len1, len2, len3, len4⟩ := IP.out.lens HR.out
    have hsm := IP.out.small (sets_small t (right_facts HR.out).1)
    have k35 : Calls Tryd.prog 35 #[.agg #[.slice sa sn sc, .bool E, .slice ia iN ic, .slice la ln lc, .slice va vn vc], .agg #[.slice sa' sn' sc', .bool E, .slice ia' iN' ic', .slice la' ln' lc', .slice va' vn' vc']] W9 fun e w' => e = .returned (.bool true) ∧ Gr W9 w' :=
      same8_true ⟨sa, sn, sc⟩ ⟨va, vn, vc⟩ ⟨ia, iN, ic⟩ ⟨la, ln, lc⟩ ⟨sa', sn', sc'⟩ ⟨va', vn', vc'⟩ ⟨ia', iN', ic'⟩ ⟨la', ln', lc'⟩ ss rs ss' rs' sets' rows' Lf' Ll' E W9 HH9 HY9 len1 len2 len3 len4 (fun s hs => by have := hsm s hs; omega) (fun r hr => by
        obtain ⟨i, hi⟩ := List.mem_iff_getElem?.1 hr
        have := rises_len (IP.out.ok i r hi).1 (IP.out.ok i r hi).2
        omega)
    clear hW9 V8 H8 P8 V7 H7 P7 j0 j1 j2 kr HH9 HY9 len1 len2 len3 len4 hsm HH7 HH8 HY
    have p0 := P9.out.c 0
    have p1 := P9.out.c 1
    have p2 := P9.out.c 2
    have p3 := P9.out.c 3
    have p4 := P9.out.c 4
    have q0 := Q9.out.c 0
    have q1 := Q9.out.c 1
    have q2 := Q9.out.c 2
    have q3 := Q9.out.c 3
    have q4 := Q9.out.c 4
    simp only [List.getElem?_toArray, List.getElem?_cons_zero, List.getElem?_cons_succ] at p0 p1 p2 p3 p4 q0 q1 q2 q3 q4
    go_wp2_with (first
      | (go_at_call 35; refine k35.mono ?_; rintro _ w10 ⟨rfl, gw⟩; have V10 : Hid (CX w ⟨xk, ⟨x1, x2, x3⟩, ⟨x4, x5, x6⟩⟩ w4.heap.size ⟨i0, ⟨i1, i2, i3⟩, ⟨i4, i5, i6⟩⟩ w10) := V9.out.go gw.below; have H10 : Hid (HT w10 t ⟨i0, ⟨i1, i2, i3⟩, ⟨i4, i5, i6⟩⟩) := H9.out.gr gw; clear gw p0 p1 p2 p3 p4 q0 q1 q2 q3 q4; obtain ⟨f0, f1, f2⟩ := BlkT.cs V10.out.box; obtain ⟨g0, g1, g2⟩ := BlkT.cs V10.out.cop)
      | (go_at_call 22; refine (ks ⟨i0, ⟨i1, i2, i3⟩, i4, i5, i6⟩ ⟨xk, ⟨x1, x2, x3⟩, x4, x5, x6⟩ _ H10.out (HT.bel V10.out.bel HX.out)).mono ?_; rintro _ w11 ⟨rfl, gw⟩; have B11 : Hid (Below w.heap.size w w11) := bstep V10.out.bel gw.below; clear gw))
    go_ret
    exact ⟨rfl, B11.out⟩

end Go.Proofs.YtjjlkjfhhpogaaaDoor
