/-
  The walk of PatJoins.
-/
import Derived.Test.YtjjlkjfhhpogaaaDoorL7
namespace Go.Proofs.YtjjlkjfhhpogaaaDoor
open Go.RowKit

/-- A law's world: nothing old has turned, the patterns lie in their boxes, the Cat and the Alt of them in two others. -/
structure JX (w : World) (x y : PC) (b : Nat) (W : World) : Prop where
  bel : Below w.heap.size w W
  box : Blk W w.heap.size (encT x).toArray 25
  box2 : Blk W (w.heap.size + 1) (encT y).toArray 25
  sub : Blk W b (encT x ++ encT y).toArray 25
  cat : Blk W (b + 1) (encT ⟨2, ⟨none, 0, 0⟩, ⟨some ⟨b, 0, none⟩, 2, 2⟩⟩).toArray 25
  sub2 : Blk W (b + 1 + 1) (encT x ++ encT y).toArray 25
  alt : Blk W (b + 1 + 1 + 1) (encT ⟨3, ⟨none, 0, 0⟩, ⟨some ⟨b + 1 + 1, 0, none⟩, 2, 2⟩⟩).toArray 25
theorem JX.go {w : World} {x y : PC} {b : Nat} {W W' : World} (h : JX w x y b W) (g : Below W.heap.size W W') : JX w x y b W' := ⟨bstep h.bel g, h.box.bel g, h.box2.bel g, h.sub.bel g, h.cat.bel g, h.sub2.bel g, h.alt.bel g⟩
theorem JX.hcat {w : World} {x y : PC} {b : Nat} {W : World} (h : JX w x y b W) {t s : Tree} (hx : HT w t x) (hy : HT w s y) : HT W (.mk 2 [] [t, s]) ⟨2, ⟨none, 0, 0⟩, ⟨some ⟨b, 0, none⟩, 2, 2⟩⟩ := HT_sub2 (HT.bel h.bel hx) (HT.bel h.bel hy) h.sub (by simp [cellsOf])
theorem JX.halt {w : World} {x y : PC} {b : Nat} {W : World} (h : JX w x y b W) {t s : Tree} (hx : HT w t x) (hy : HT w s y) : HT W (.mk 3 [] [t, s]) ⟨3, ⟨none, 0, 0⟩, ⟨some ⟨b + 1 + 1, 0, none⟩, 2, 2⟩⟩ := HT_sub2 (HT.bel h.bel hx) (HT.bel h.bel hy) h.sub2 (by simp [cellsOf])

theorem ok_two {t s : Tree} (k : Int) (h : okT t) (h' : okT s) : okT (.mk k [] [t, s]) := (okT_mk _ _ _).2 ⟨by simp, by simp, (okL_cons _ _).2 ⟨h, (okL_cons _ _).2 ⟨h', okL_nil.2 trivial⟩⟩⟩
theorem right_alt {t s : Tree} (h : rightT (.mk 2 [] [t, s]) = true) : rightT (.mk 3 [] [t, s]) = true := by
  obtain ⟨h1, h2, h3⟩ := right_parts h
  rw [size_mk] at h1
  rw [deep_mk] at h2
  rw [kindsT_mk] at h3
  unfold rightT
  rw [size_mk, deep_mk, kindsT_mk]
  simp only [Bool.and_eq_true] at h3
  rw [h3.2]
  simp [h1, h2, okAlone]

theorem step_join {t s : Tree} {l : List Int} {i : Nat} {c c' q1 q2 : Bool} (h : Tells c (∃ j, j < i ∧ matchP t (l.take j) ∧ matchP s (l.drop j))) (hc : c' = (c || (q1 && q2))) (h1 : Tells q1 (matchP t (l.take i))) (h2 : Tells q2 (matchP s (l.drop i))) :
    Tells c' (∃ j, j < i + 1 ∧ matchP t (l.take j) ∧ matchP s (l.drop j)) := by
  unfold Tells at h h1 h2 ⊢
  rw [hc]
  simp only [Bool.or_eq_true, Bool.and_eq_true]
  rw [h, h1, h2]
  constructor
  · rintro (⟨j, b, c⟩ | h)
    · exact ⟨j, by omega, c⟩
    · exact ⟨i, by omega, h⟩
  · rintro ⟨j, b, c⟩
    by_cases e : j = i
    · subst e
      exact Or.inr c
    · exact Or.inl ⟨j, by omega, c⟩

theorem row_emp (W : World) {ao : Option Addr} {n c : Nat} {l : List Int} (hl : l = []) (hn : n = 0) (h : ao = none → c = 0) : RowN W (.slice ao n c) l := by
  subst hl hn
  exact ⟨ao, c, rfl, fun h => absurd rfl h, h⟩
theorem row_none (W : World) {ao : Option Addr} {c : Nat} (h : ao = none → c = 0) : RowN W (.slice ao 0 c) [] := ⟨ao, c, rfl, fun h => absurd rfl h, h⟩

set_option maxRecDepth 100000 in
set_option maxHeartbeats 8000000 in
theorem law_joins (t s : Tree) (x y : PC) (pv : Value) (l : List Int) (w : World) (hok : okT t) (hok2 : okT s) (hx : HT w t x) (hy : HT w s y) (hp : RowN w pv l) (hcap : ∀ ao n c, pv = .slice ao n c → n ≤ c) (hl : l.length ≤ 4611686018427387903) (hT : Tab w) :
    Calls Tryd.prog 6 #[x.v, y.v, pv] w fun e w' => e = .returned (.bool true) ∧ Below w.heap.size w w' := by
  have kal := fun W h => alive_any W h
  have kg := fun z W h => great_any (.mk 2 [] [t, s]) z W (ok_two 2 hok hok2) h
  have kr := fun z W h => right_any (.mk 2 [] [t, s]) z W (ok_two 2 hok hok2) h
  have HX : Hid (HT w t x) := hx
  have HY : Hid (HT w s y) := hy
  have HTb : Hid (Tab w) := hT
  obtain ⟨pa, pc, rfl⟩ := hp.form
  have HP : Hid (RowN w (.slice pa l.length pc) l) := hp
  have hcp := hcap _ _ _ rfl
  obtain ⟨L, hL⟩ : ∃ L, L = l.length := ⟨_, rfl⟩
  have HL : Hid (L = l.length) := hL
  rw [← hL] at HP hcp hl ⊢
  obtain ⟨xk, ⟨x1, x2, x3⟩, x4, x5, x6⟩ := x
  obtain ⟨yk, ⟨y1, y2, y3⟩, y4, y5, y6⟩ := y
  have HOk : Hid (okT t) := hok
  have HOk2 : Hid (okT s) := hok2
  clear hx hy hT hp hcap hL hok hok2
  go_enter Tryd.func6, Tryd.ntmps6
  go_upto_region 1 with fail
  generalize hW : World.alloc _ _ = W
  have HI : Hid (BX w ⟨xk, ⟨x1, x2, x3⟩, ⟨x4, x5, x6⟩⟩ W ∧ Blk W (w.heap.size + 1) (encT ⟨yk, ⟨y1, y2, y3⟩, ⟨y4, y5, y6⟩⟩).toArray 25) := by
    rw [← hW]
    exact ⟨⟨((Below.refl _ _).alloc (Nat.le_refl _) _).alloc (by simp) _, (Blk.new _ _ _).alloc _⟩, Blk.new' _ _ _ _ (by simp)⟩
  clear hW
  go_upto_region 5 with (first
    | (go_at_call 14; refine (kal _ (HTb.out.bel HI.out.1.bel)).mono ?_; rintro _ w2 ⟨rfl, gw⟩; have I2 : Hid (BX w ⟨xk, ⟨x1, x2, x3⟩, ⟨x4, x5, x6⟩⟩ w2) := HI.out.1.go gw; have J2 : Hid (Blk w2 (w.heap.size + 1) (encT ⟨yk, ⟨y1, y2, y3⟩, ⟨y4, y5, y6⟩⟩).toArray 25) := HI.out.2.bel gw; clear gw; obtain ⟨e0, e1, e2⟩ := BlkT.cs I2.out.box; obtain ⟨d0, d1, d2⟩ := BlkT.cs J2.out; have dl : w.heap.size < w2.heap.size := I2.out.box.lt; have dl2 : w.heap.size + 1 < w2.heap.size := J2.out.lt; have dl3 : w.heap.size < w2.heap.size + 1 := Nat.lt_succ_of_lt dl; have dl4 : w.heap.size + 1 < w2.heap.size + 1 := Nat.lt_succ_of_lt dl2))
  generalize hW3 : World.alloc _ _ = W3
  have HS : Hid (JX w ⟨xk, ⟨x1, x2, x3⟩, ⟨x4, x5, x6⟩⟩ ⟨yk, ⟨y1, y2, y3⟩, ⟨y4, y5, y6⟩⟩ w2.heap.size W3) := by
    rw [← hW3]
    exact ⟨bstep (bstep (bstep (bstep I2.out.bel (bel_alloc _ _)) (bel_alloc _ _)) (bel_alloc _ _)) (bel_alloc _ _), (((I2.out.box.alloc _).alloc _).alloc _).alloc _, (((J2.out.alloc _).alloc _).alloc _).alloc _, (((Blk.new _ _ _).alloc _).alloc _).alloc _, ((Blk.new' _ _ _ _ (by simp)).alloc _).alloc _, (Blk.new' _ _ _ _ (by simp)).alloc _, Blk.new' _ _ _ _ (by simp)⟩
  clear hW3 HI I2 J2 e0 e1 e2 d0 d1 d2 dl dl2 dl3 dl4 kal
  obtain ⟨e0, e1, e2⟩ := BlkT.cs HS.out.cat
  simp only at e0 e1 e2
  have hmx : Tryd.prog.follows .mixedOrders = true := by kernel_rfl
  by_cases c1 : 3000 < size (.mk 2 [] [t, s])
  · have kg2 : ∀ W, HT W (.mk 2 [] [t, s]) ⟨2, ⟨none, 0, 0⟩, ⟨some ⟨w2.heap.size, 0, none⟩, 2, 2⟩⟩ → Calls Tryd.prog 15 #[PC.v ⟨2, ⟨none, 0, 0⟩, ⟨some ⟨w2.heap.size, 0, none⟩, 2, 2⟩⟩] W fun e w' => e = .returned (.bool true) ∧ Gr W w' := fun W h => by have := kg _ W h; simpa [c1] using this
    clear kg
    go_wp2_with (go_at_call 15; refine (kg2 _ (HS.out.hcat HX.out HY.out)).mono ?_; rintro _ w3 ⟨rfl, gw⟩; have S3 : Hid (JX w ⟨xk, ⟨x1, x2, x3⟩, ⟨x4, x5, x6⟩⟩ ⟨yk, ⟨y1, y2, y3⟩, ⟨y4, y5, y6⟩⟩ w2.heap.size w3) := HS.out.go gw.below; clear gw)
    go_ret
    exact ⟨rfl, S3.out.bel⟩
  have kg2 : ∀ W, HT W (.mk 2 [] [t, s]) ⟨2, ⟨none, 0, 0⟩, ⟨some ⟨w2.heap.size, 0, none⟩, 2, 2⟩⟩ → Calls Tryd.prog 15 #[PC.v ⟨2, ⟨none, 0, 0⟩, ⟨some ⟨w2.heap.size, 0, none⟩, 2, 2⟩⟩] W fun e w' => e = .returned (.bool false) ∧ Gr W w' := fun W h => by have := kg _ W h; simpa [c1] using this
  clear kg c1
  by_cases c2 : L ≤ 30
  case neg =>
    have c3 : (30 : Int) < L := by omega
    go_wp2_with (go_at_call 15; refine (kg2 _ (HS.out.hcat HX.out HY.out)).mono ?_; rintro _ w3 ⟨rfl, gw⟩; have S3 : Hid (JX w ⟨xk, ⟨x1, x2, x3⟩, ⟨x4, x5, x6⟩⟩ ⟨yk, ⟨y1, y2, y3⟩, ⟨y4, y5, y6⟩⟩ w2.heap.size w3) := HS.out.go gw.below; clear gw)
    go_ret
    exact ⟨rfl, S3.out.bel⟩
  have c3 : decide ((30 : Int) < L) = false := by simp; omega
  cases c4 : rightT (.mk 2 [] [t, s]) with
  | false =>
    rw [c4] at kr
    clear c4
    go_wp2_with (first
      | (go_at_call 15; refine (kg2 _ (HS.out.hcat HX.out HY.out)).mono ?_; rintro _ w3 ⟨rfl, gw⟩; have S3 : Hid (JX w ⟨xk, ⟨x1, x2, x3⟩, ⟨x4, x5, x6⟩⟩ ⟨yk, ⟨y1, y2, y3⟩, ⟨y4, y5, y6⟩⟩ w2.heap.size w3) := HS.out.go gw.below; clear gw; obtain ⟨f0, f1, f2⟩ := BlkT.cs S3.out.cat)
      | (go_at_call 17; refine (kr ⟨2, ⟨none, 0, 0⟩, ⟨some ⟨w2.heap.size, 0, none⟩, 2, 2⟩⟩ _ (S3.out.hcat HX.out HY.out)).mono ?_; rintro _ w4 ⟨rfl, gw⟩; have S4 : Hid (JX w ⟨xk, ⟨x1, x2, x3⟩, ⟨x4, x5, x6⟩⟩ ⟨yk, ⟨y1, y2, y3⟩, ⟨y4, y5, y6⟩⟩ w2.heap.size w4) := S3.out.go gw.below; clear gw))
    go_ret
    exact ⟨rfl, S4.out.bel⟩
  | true =>
    rw [c4] at kr
    have HR : Hid (rightT (.mk 2 [] [t, s]) = true) := c4
    clear c4
    go_wp2_with (first
      | (go_at_call 15; refine (kg2 _ (HS.out.hcat HX.out HY.out)).mono ?_; rintro _ w3 ⟨rfl, gw⟩; have S3 : Hid (JX w ⟨xk, ⟨x1, x2, x3⟩, ⟨x4, x5, x6⟩⟩ ⟨yk, ⟨y1, y2, y3⟩, ⟨y4, y5, y6⟩⟩ w2.heap.size w3) := HS.out.go gw.below; clear gw; obtain ⟨f0, f1, f2⟩ := BlkT.cs S3.out.cat)
      | (go_at_call 17; refine (kr ⟨2, ⟨none, 0, 0⟩, ⟨some ⟨w2.heap.size, 0, none⟩, 2, 2⟩⟩ _ (S3.out.hcat HX.out HY.out)).mono ?_; rintro _ w4 ⟨rfl, gw⟩; have S4 : Hid (JX w ⟨xk, ⟨x1, x2, x3⟩, ⟨x4, x5, x6⟩⟩ ⟨yk, ⟨y1, y2, y3⟩, ⟨y4, y5, y6⟩⟩ w2.heap.size w4) := S3.out.go gw.below; clear gw))
    clear kr kg2 e0 e1 e2 f0 f1 f2 S3 HS
    go_loopw [9, 36] (fun vc vi wr => ∃ (i : Nat) (c : Bool), i ≤ L + 1 ∧ vi = .int .i64 i ∧ vc = .bool c ∧ Hid (JX w ⟨xk, ⟨x1, x2, x3⟩, ⟨x4, x5, x6⟩⟩ ⟨yk, ⟨y1, y2, y3⟩, ⟨y4, y5, y6⟩⟩ w2.heap.size wr) ∧ Tells c (∃ j, j < i ∧ matchP t (l.take j) ∧ matchP s (l.drop j))) (fun _ vi _ => L + 1 - (intOf vi).toNat)
    case atStart =>
      refine ⟨0, false, by omega, rfl, rfl, S4, ?_⟩
      unfold Tells
      simp
    case round =>
      clear S4
      obtain ⟨i, c, hi2, rfl, rfl, HS, HC⟩ := hrel
      by_cases hlt : i ≤ L
      case neg =>
        have hiL : i = L + 1 := by omega
        have hle : ¬ (i : Int) < (L : Int) + 1 := by omega
        have HAll : Tells c (matchP (.mk 2 [] [t, s]) l) := by
          unfold Tells at HC ⊢
          rw [HC, cat_cut HR.out (by have := HL.out; omega)]
          constructor
          · rintro ⟨j, b, c⟩
            exact ⟨j, by have := HL.out; omega, c⟩
          · rintro ⟨j, b, c⟩
            exact ⟨j, by have := HL.out; omega, c⟩
        obtain ⟨q1, hq1⟩ := bool_of (matchP t l)
        obtain ⟨q2, hq2⟩ := bool_of (matchP s l)
        have HAlt : Tells (q1 || q2) (matchP (.mk 3 [] [t, s]) l) := by
          unfold Tells
          rw [alt_two (right_alt HR.out), Bool.or_eq_true, hq1, hq2]
        have kC : ∀ n os, Calls Tryd.prog 19 #[PC.v ⟨2, ⟨none, 0, 0⟩, ⟨some ⟨w2.heap.size, 0, none⟩, 2, 2⟩⟩, .slice pa L pc] (Sort.grow (wr.drewN n) os) fun e w' => e = .returned (.bool (c)) ∧ ∃ q os', w' = Sort.grow ((Sort.grow (wr.drewN n) os).drewN q) os' := fun n os => by
          have g : Gr wr (Sort.grow (wr.drewN n) os) := ⟨n, os, rfl⟩
          have b1 := bstep HS.out.bel g.below
          refine (match_any (.mk 2 [] [t, s]) ⟨2, ⟨none, 0, 0⟩, ⟨some ⟨w2.heap.size, 0, none⟩, 2, 2⟩⟩ _ l _ (ok_two 2 HOk.out HOk2.out) ((HS.out.go g.below).hcat HX.out HY.out) (HP.out.bel b1) (HTb.out.bel b1) (by have := HL.out; omega)).mono ?_
          rintro e w' ⟨⟨q, rfl, hq⟩, gr⟩
          rw [bool_same hq HAll]
          exact ⟨rfl, gr⟩
        have kA : ∀ n os, Calls Tryd.prog 19 #[PC.v ⟨3, ⟨none, 0, 0⟩, ⟨some ⟨w2.heap.size + 1 + 1, 0, none⟩, 2, 2⟩⟩, .slice pa L pc] (Sort.grow (wr.drewN n) os) fun e w' => e = .returned (.bool (q1 || q2)) ∧ ∃ q os', w' = Sort.grow ((Sort.grow (wr.drewN n) os).drewN q) os' := fun n os => by
          have g : Gr wr (Sort.grow (wr.drewN n) os) := ⟨n, os, rfl⟩
          have b1 := bstep HS.out.bel g.below
          refine (match_any (.mk 3 [] [t, s]) ⟨3, ⟨none, 0, 0⟩, ⟨some ⟨w2.heap.size + 1 + 1, 0, none⟩, 2, 2⟩⟩ _ l _ (ok_two 3 HOk.out HOk2.out) ((HS.out.go g.below).halt HX.out HY.out) (HP.out.bel b1) (HTb.out.bel b1) (by have := HL.out; omega)).mono ?_
          rintro e w' ⟨⟨q, rfl, hq⟩, gr⟩
          rw [bool_same hq HAlt]
          exact ⟨rfl, gr⟩
        have k1 : ∀ n os, Calls Tryd.prog 19 #[PC.v ⟨xk, ⟨x1, x2, x3⟩, ⟨x4, x5, x6⟩⟩, .slice pa L pc] (Sort.grow (wr.drewN n) os) fun e w' => e = .returned (.bool (q1)) ∧ ∃ q os', w' = Sort.grow ((Sort.grow (wr.drewN n) os).drewN q) os' := fun n os => by
          have g : Gr wr (Sort.grow (wr.drewN n) os) := ⟨n, os, rfl⟩
          have b1 := bstep HS.out.bel g.below
          refine (match_any t ⟨xk, ⟨x1, x2, x3⟩, ⟨x4, x5, x6⟩⟩ _ l _ HOk.out (HT.bel b1 HX.out) (HP.out.bel b1) (HTb.out.bel b1) (by have := HL.out; omega)).mono ?_
          rintro e w' ⟨⟨q, rfl, hq⟩, gr⟩
          rw [bool_same hq hq1]
          exact ⟨rfl, gr⟩
        have k2 : ∀ n os, Calls Tryd.prog 19 #[PC.v ⟨yk, ⟨y1, y2, y3⟩, ⟨y4, y5, y6⟩⟩, .slice pa L pc] (Sort.grow (wr.drewN n) os) fun e w' => e = .returned (.bool (q2)) ∧ ∃ q os', w' = Sort.grow ((Sort.grow (wr.drewN n) os).drewN q) os' := fun n os => by
          have g : Gr wr (Sort.grow (wr.drewN n) os) := ⟨n, os, rfl⟩
          have b1 := bstep HS.out.bel g.below
          refine (match_any s ⟨yk, ⟨y1, y2, y3⟩, ⟨y4, y5, y6⟩⟩ _ l _ HOk2.out (HT.bel b1 HY.out) (HP.out.bel b1) (HTb.out.bel b1) (by have := HL.out; omega)).mono ?_
          rintro e w' ⟨⟨q, rfl, hq⟩, gr⟩
          rw [bool_same hq hq2]
          exact ⟨rfl, gr⟩
        clear hq1 hq2 hiL HC HAll HAlt
        have m0 := fun n os => (HS.out.box.grow n os).c 0
        have m1 := fun n os => (HS.out.box.grow n os).c 1
        have m2 := fun n os => (HS.out.box.grow n os).c 2
        have n0 := fun n os => (HS.out.box2.grow n os).c 0
        have n1 := fun n os => (HS.out.box2.grow n os).c 1
        have n2 := fun n os => (HS.out.box2.grow n os).c 2
        have s0 := fun n os => (HS.out.cat.grow n os).c 0
        have s1 := fun n os => (HS.out.cat.grow n os).c 1
        have s2 := fun n os => (HS.out.cat.grow n os).c 2
        have a0 := fun n os => (HS.out.alt.grow n os).c 0
        have a1 := fun n os => (HS.out.alt.grow n os).c 1
        have a2 := fun n os => (HS.out.alt.grow n os).c 2
        simp [encT] at m0 m1 m2 n0 n1 n2 s0 s1 s2 a0 a1 a2
        cases q1
        · simp only [Bool.false_or] at kA
          go_wp2_with fail
          refine wp_region_quiet_grownB (by assumption) (by kernel_rfl) ?_
          repeat (refine wpQuiet_stepB (fun K hK => ?_); go_simp; first | (refine hK _ ?_; clear hK K) | (apply Exists.intro; refine ⟨fun _ => ?_, hK _ ?_⟩; (first | (go_at_call 19; with_reducible refine Calls.grown_of (kC _ _)) | (go_at_call 19; with_reducible refine Calls.grown_of (kA _ _)) | (go_at_call 19; with_reducible refine Calls.grown_of (k1 _ _)) | (go_at_call 19; with_reducible refine Calls.grown_of (k2 _ _))); clear hK K))
          refine wpQuiet_nilB ?_
          intro _ hw'
          obtain ⟨⟨nq, osq⟩, hw''⟩ := hw'
          subst hw''
          have HB2 : Hid (Below w.heap.size w (Sort.grow (wr.drewN nq) osq)) := bstep HS.out.bel (Gr.below ⟨nq, osq, rfl⟩)
          generalize Sort.grow (wr.drewN nq) osq = W5 at HB2 ⊢
          clear kC kA k1 k2 m0 m1 m2 n0 n1 n2 s0 s1 s2 a0 a1 a2 HS
          go_wp2_with fail
          go_ret
          exact ⟨by simp, HB2.out⟩
        · simp only [Bool.true_or] at kA
          go_wp2_with fail
          refine wp_region_quiet_grownB (by assumption) (by kernel_rfl) ?_
          repeat (refine wpQuiet_stepB (fun K hK => ?_); go_simp; first | (refine hK _ ?_; clear hK K) | (apply Exists.intro; refine ⟨fun _ => ?_, hK _ ?_⟩; (first | (go_at_call 19; with_reducible refine Calls.grown_of (kC _ _)) | (go_at_call 19; with_reducible refine Calls.grown_of (kA _ _)) | (go_at_call 19; with_reducible refine Calls.grown_of (k1 _ _)) | (go_at_call 19; with_reducible refine Calls.grown_of (k2 _ _))); clear hK K))
          refine wpQuiet_nilB ?_
          intro _ hw'
          obtain ⟨⟨nq, osq⟩, hw''⟩ := hw'
          subst hw''
          have HB2 : Hid (Below w.heap.size w (Sort.grow (wr.drewN nq) osq)) := bstep HS.out.bel (Gr.below ⟨nq, osq, rfl⟩)
          generalize Sort.grow (wr.drewN nq) osq = W5 at HB2 ⊢
          clear kC kA k1 k2 m0 m1 m2 n0 n1 n2 s0 s1 s2 a0 a1 a2 HS
          go_wp2_with fail
          go_ret
          exact ⟨by simp, HB2.out⟩
      case pos =>
        obtain ⟨q1, hq1⟩ := bool_of (matchP t (l.take i))
        obtain ⟨q2, hq2⟩ := bool_of (matchP s (l.drop i))
        by_cases hL0 : L = 0
        case neg =>
          obtain ⟨v0, hv0⟩ : ∃ v, l[0]? = some v := ⟨_, List.getElem?_eq_getElem (by have := HL.out; omega)⟩
          obtain ⟨b, off, rfl, _, _⟩ := RowX.cs1 HP.out hv0
          clear hv0
          have kM1 : ∀ (n : Nat) (os : Array Obj), Calls Tryd.prog 19 #[PC.v ⟨xk, ⟨x1, x2, x3⟩, ⟨x4, x5, x6⟩⟩, .slice (some ⟨b, off, none⟩) i pc] (Sort.grow (wr.drewN n) os) fun e w' => e = .returned (.bool q1) ∧ ∃ q os', w' = Sort.grow ((Sort.grow (wr.drewN n) os).drewN q) os' := fun n os => by
            have g : Gr wr (Sort.grow (wr.drewN n) os) := ⟨n, os, rfl⟩
            have b1 := bstep HS.out.bel g.below
            refine (match_any t ⟨xk, ⟨x1, x2, x3⟩, ⟨x4, x5, x6⟩⟩ _ (l.take i) _ HOk.out (HT.bel b1 HX.out) (row_front (HP.out.bel b1) i (by have := HL.out; omega) pc (fun e => by cases e)) (HTb.out.bel b1) (by simp; omega)).mono ?_
            rintro e w' ⟨⟨q, rfl, hq⟩, gr⟩
            rw [bool_same hq hq1]
            exact ⟨rfl, gr⟩
          have kM2 : ∀ (n : Nat) (os : Array Obj), Calls Tryd.prog 19 #[PC.v ⟨yk, ⟨y1, y2, y3⟩, ⟨y4, y5, y6⟩⟩, .slice (if pc = i then some ⟨b, off, none⟩ else some ⟨b, off + i, none⟩) (L - i) (pc - i)] (Sort.grow (wr.drewN n) os) fun e w' => e = .returned (.bool q2) ∧ ∃ q os', w' = Sort.grow ((Sort.grow (wr.drewN n) os).drewN q) os' := fun n os => by
            have g : Gr wr (Sort.grow (wr.drewN n) os) := ⟨n, os, rfl⟩
            have b1 := bstep HS.out.bel g.below
            refine (match_any s ⟨yk, ⟨y1, y2, y3⟩, ⟨y4, y5, y6⟩⟩ _ (l.drop i) _ HOk2.out (HT.bel b1 HY.out) (row_back2 (HP.out.bel b1) i (L - i) (by rw [HL.out]) pc (by have := HL.out; omega)) (HTb.out.bel b1) (by simp; have := HL.out; omega)).mono ?_
            rintro e w' ⟨⟨q, rfl, hq⟩, gr⟩
            rw [bool_same hq hq2]
            exact ⟨rfl, gr⟩
          have HQ1 : Tells q1 (matchP t (l.take i)) := hq1
          have HQ2 : Tells q2 (matchP s (l.drop i)) := hq2
          clear hq1 hq2
          have m0 := fun n os => (HS.out.box.grow n os).c 0
          have m1 := fun n os => (HS.out.box.grow n os).c 1
          have m2 := fun n os => (HS.out.box.grow n os).c 2
          have n0 := fun n os => (HS.out.box2.grow n os).c 0
          have n1 := fun n os => (HS.out.box2.grow n os).c 1
          have n2 := fun n os => (HS.out.box2.grow n os).c 2
          simp [encT] at m0 m1 m2 n0 n1 n2
          have i0 : (0 : Int) ≤ i := by omega
          have i1 : (i : Int) ≤ L := by omega
          have i2 : (i : Int) ≤ pc := by omega
          have i3 : (L : Int) ≤ pc := by omega
          have i4 : (i : Int) < (L : Int) + 1 := by omega
          cases c
          · cases q1
            · go_wp2_with fail
              refine wp_region_quiet_grownB (by assumption) (by kernel_rfl) ?_
              repeat (refine wpQuiet_stepB (fun K hK => ?_); go_simp; first | (refine hK _ ?_; clear hK K) | (apply Exists.intro; refine ⟨fun _ => ?_, hK _ ?_⟩; (first | (go_at_call 19; with_reducible refine Calls.grown_of (kM1 _ _)) | (go_at_call 19; with_reducible refine Calls.grown_of (kM2 _ _))); clear hK K))
              refine wpQuiet_nilB ?_
              intro _ hw'
              obtain ⟨⟨nq, osq⟩, hw''⟩ := hw'
              subst hw''
              have HS2 : Hid (JX w ⟨xk, ⟨x1, x2, x3⟩, ⟨x4, x5, x6⟩⟩ ⟨yk, ⟨y1, y2, y3⟩, ⟨y4, y5, y6⟩⟩ w2.heap.size (Sort.grow (wr.drewN nq) osq)) := HS.out.go (Gr.below ⟨nq, osq, rfl⟩)
              generalize Sort.grow (wr.drewN nq) osq = W5 at HS2 ⊢
              clear kM1 kM2 m0 m1 m2 n0 n1 n2 HS
              go_wp2_with fail
              go_roundw
              case rel => exact ⟨i + 1, false, by omega, by go_num, rfl, HS2, step_join HC (by simp) HQ1 HQ2⟩
              case measure => simp [intOf]; omega
            · go_wp2_with fail
              refine wp_region_quiet_grownB (by assumption) (by kernel_rfl) ?_
              repeat (refine wpQuiet_stepB (fun K hK => ?_); go_simp; first | (refine hK _ ?_; clear hK K) | (apply Exists.intro; refine ⟨fun _ => ?_, hK _ ?_⟩; (first | (go_at_call 19; with_reducible refine Calls.grown_of (kM1 _ _)) | (go_at_call 19; with_reducible refine Calls.grown_of (kM2 _ _))); clear hK K))
              refine wpQuiet_nilB ?_
              intro _ hw'
              obtain ⟨⟨nq, osq⟩, hw''⟩ := hw'
              subst hw''
              have HS2 : Hid (JX w ⟨xk, ⟨x1, x2, x3⟩, ⟨x4, x5, x6⟩⟩ ⟨yk, ⟨y1, y2, y3⟩, ⟨y4, y5, y6⟩⟩ w2.heap.size (Sort.grow (wr.drewN nq) osq)) := HS.out.go (Gr.below ⟨nq, osq, rfl⟩)
              generalize Sort.grow (wr.drewN nq) osq = W5 at HS2 ⊢
              clear kM1 kM2 m0 m1 m2 n0 n1 n2 HS
              go_wp2_with fail
              go_roundw
              case rel => exact ⟨i + 1, q2, by omega, by go_num, rfl, HS2, step_join HC (by simp) HQ1 HQ2⟩
              case measure => simp [intOf]; omega
          · go_wp2_with fail
            refine wp_region_quiet_grownB (by assumption) (by kernel_rfl) ?_
            repeat (refine wpQuiet_stepB (fun K hK => ?_); go_simp; first | (refine hK _ ?_; clear hK K) | (apply Exists.intro; refine ⟨fun _ => ?_, hK _ ?_⟩; (first | (go_at_call 19; with_reducible refine Calls.grown_of (kM1 _ _)) | (go_at_call 19; with_reducible refine Calls.grown_of (kM2 _ _))); clear hK K))
            refine wpQuiet_nilB ?_
            intro _ hw'
            obtain ⟨⟨nq, osq⟩, hw''⟩ := hw'
            subst hw''
            have HS2 : Hid (JX w ⟨xk, ⟨x1, x2, x3⟩, ⟨x4, x5, x6⟩⟩ ⟨yk, ⟨y1, y2, y3⟩, ⟨y4, y5, y6⟩⟩ w2.heap.size (Sort.grow (wr.drewN nq) osq)) := HS.out.go (Gr.below ⟨nq, osq, rfl⟩)
            generalize Sort.grow (wr.drewN nq) osq = W5 at HS2 ⊢
            clear kM1 kM2 m0 m1 m2 n0 n1 n2 HS
            go_wp2_with fail
            go_roundw
            case rel => exact ⟨i + 1, true, by omega, by go_num, rfl, HS2, step_join HC (by simp) HQ1 HQ2⟩
            case measure => simp [intOf]; omega
        case pos =>
          have HE : Hid (l = []) := List.length_eq_zero_iff.1 (by have := HL.out; omega)
          have HE1 : Hid (l.take i = []) := by show _ = _; rw [HE.out]; simp
          have HE2 : Hid (l.drop i = []) := by show _ = _; rw [HE.out]; simp
          have HI0 : Hid (i = 0) := by show _ = _; omega
          have HL0 : Hid (L = 0) := hL0
          have hc0 : c = false := by
            cases c
            · rfl
            · obtain ⟨j, hj, _⟩ := HC.1 rfl
              omega
          subst hc0
          have i0 : (0 : Int) ≤ i := by omega
          have i1 : (i : Int) ≤ L := by omega
          have i2 : (i : Int) ≤ pc := by omega
          have i3 : (L : Int) ≤ pc := by omega
          have i4 : (i : Int) < (L : Int) + 1 := by omega
          clear hL0
          have m0 := fun n os => (HS.out.box.grow n os).c 0
          have m1 := fun n os => (HS.out.box.grow n os).c 1
          have m2 := fun n os => (HS.out.box.grow n os).c 2
          have n0 := fun n os => (HS.out.box2.grow n os).c 0
          have n1 := fun n os => (HS.out.box2.grow n os).c 1
          have n2 := fun n os => (HS.out.box2.grow n os).c 2
          simp [encT] at m0 m1 m2 n0 n1 n2
          have HQ1 : Tells q1 (matchP t (l.take i)) := hq1
          have HQ2 : Tells q2 (matchP s (l.drop i)) := hq2
          clear hq1 hq2
          cases pa with
          | none =>
            have HPC : Hid (pc = 0) := by
              obtain ⟨ao, cap, hv, _, hz⟩ := HP.out
              injection hv with h1 _ h3
              show pc = 0
              rw [h3]
              exact hz h1.symm
            have kM1 : ∀ (n : Nat) (os : Array Obj), Calls Tryd.prog 19 #[PC.v ⟨xk, ⟨x1, x2, x3⟩, ⟨x4, x5, x6⟩⟩, .slice none i pc] (Sort.grow (wr.drewN n) os) fun e w' => e = .returned (.bool q1) ∧ ∃ q os', w' = Sort.grow ((Sort.grow (wr.drewN n) os).drewN q) os' := fun n os => by
              have g : Gr wr (Sort.grow (wr.drewN n) os) := ⟨n, os, rfl⟩
              have b1 := bstep HS.out.bel g.below
              refine (match_any t ⟨xk, ⟨x1, x2, x3⟩, ⟨x4, x5, x6⟩⟩ _ (l.take i) _ HOk.out (HT.bel b1 HX.out) (row_emp _ HE1.out HI0.out (fun _ => HPC.out)) (HTb.out.bel b1) (by simp; have := HL.out; omega)).mono ?_
              rintro e w' ⟨⟨q, rfl, hq⟩, gr⟩
              rw [bool_same hq HQ1]
              exact ⟨rfl, gr⟩
            have kM2 : ∀ (n : Nat) (os : Array Obj), Calls Tryd.prog 19 #[PC.v ⟨yk, ⟨y1, y2, y3⟩, ⟨y4, y5, y6⟩⟩, .slice none (L - i) (pc - i)] (Sort.grow (wr.drewN n) os) fun e w' => e = .returned (.bool q2) ∧ ∃ q os', w' = Sort.grow ((Sort.grow (wr.drewN n) os).drewN q) os' := fun n os => by
              have g : Gr wr (Sort.grow (wr.drewN n) os) := ⟨n, os, rfl⟩
              have b1 := bstep HS.out.bel g.below
              refine (match_any s ⟨yk, ⟨y1, y2, y3⟩, ⟨y4, y5, y6⟩⟩ _ (l.drop i) _ HOk2.out (HT.bel b1 HY.out) (row_emp _ HE2.out (by have := HI0.out; have := HL0.out; omega) (fun _ => by have := HPC.out; omega)) (HTb.out.bel b1) (by simp; have := HL.out; omega)).mono ?_
              rintro e w' ⟨⟨q, rfl, hq⟩, gr⟩
              rw [bool_same hq HQ2]
              exact ⟨rfl, gr⟩
            cases q1
            · go_wp2_with fail
              refine wp_region_quiet_grownB (by assumption) (by kernel_rfl) ?_
              repeat (refine wpQuiet_stepB (fun K hK => ?_); go_simp; first | (refine hK _ ?_; clear hK K) | (apply Exists.intro; refine ⟨fun _ => ?_, hK _ ?_⟩; (first | (go_at_call 19; with_reducible refine Calls.grown_of (kM1 _ _)) | (go_at_call 19; with_reducible refine Calls.grown_of (kM2 _ _))); clear hK K))
              refine wpQuiet_nilB ?_
              intro _ hw'
              obtain ⟨⟨nq, osq⟩, hw''⟩ := hw'
              subst hw''
              have HS2 : Hid (JX w ⟨xk, ⟨x1, x2, x3⟩, ⟨x4, x5, x6⟩⟩ ⟨yk, ⟨y1, y2, y3⟩, ⟨y4, y5, y6⟩⟩ w2.heap.size (Sort.grow (wr.drewN nq) osq)) := HS.out.go (Gr.below ⟨nq, osq, rfl⟩)
              generalize Sort.grow (wr.drewN nq) osq = W5 at HS2 ⊢
              clear kM1 kM2 m0 m1 m2 n0 n1 n2 HS
              go_wp2_with fail
              go_roundw
              case rel => exact ⟨i + 1, false, by omega, by go_num, rfl, HS2, step_join HC (by simp) HQ1 HQ2⟩
              case measure => simp [intOf]; omega
            · go_wp2_with fail
              refine wp_region_quiet_grownB (by assumption) (by kernel_rfl) ?_
              repeat (refine wpQuiet_stepB (fun K hK => ?_); go_simp; first | (refine hK _ ?_; clear hK K) | (apply Exists.intro; refine ⟨fun _ => ?_, hK _ ?_⟩; (first | (go_at_call 19; with_reducible refine Calls.grown_of (kM1 _ _)) | (go_at_call 19; with_reducible refine Calls.grown_of (kM2 _ _))); clear hK K))
              refine wpQuiet_nilB ?_
              intro _ hw'
              obtain ⟨⟨nq, osq⟩, hw''⟩ := hw'
              subst hw''
              have HS2 : Hid (JX w ⟨xk, ⟨x1, x2, x3⟩, ⟨x4, x5, x6⟩⟩ ⟨yk, ⟨y1, y2, y3⟩, ⟨y4, y5, y6⟩⟩ w2.heap.size (Sort.grow (wr.drewN nq) osq)) := HS.out.go (Gr.below ⟨nq, osq, rfl⟩)
              generalize Sort.grow (wr.drewN nq) osq = W5 at HS2 ⊢
              clear kM1 kM2 m0 m1 m2 n0 n1 n2 HS
              go_wp2_with fail
              go_roundw
              case rel => exact ⟨i + 1, q2, by omega, by go_num, rfl, HS2, step_join HC (by simp) HQ1 HQ2⟩
              case measure => simp [intOf]; omega
          | some a =>
            obtain ⟨ab, aoff, asp⟩ := a
            have kM1 : ∀ (n : Nat) (os : Array Obj) (a1 : Addr), Calls Tryd.prog 19 #[PC.v ⟨xk, ⟨x1, x2, x3⟩, ⟨x4, x5, x6⟩⟩, .slice (some a1) i pc] (Sort.grow (wr.drewN n) os) fun e w' => e = .returned (.bool q1) ∧ ∃ q os', w' = Sort.grow ((Sort.grow (wr.drewN n) os).drewN q) os' := fun n os a1 => by
              have g : Gr wr (Sort.grow (wr.drewN n) os) := ⟨n, os, rfl⟩
              have b1 := bstep HS.out.bel g.below
              refine (match_any t ⟨xk, ⟨x1, x2, x3⟩, ⟨x4, x5, x6⟩⟩ _ (l.take i) _ HOk.out (HT.bel b1 HX.out) (row_emp _ HE1.out HI0.out (fun e => by cases e)) (HTb.out.bel b1) (by simp; have := HL.out; omega)).mono ?_
              rintro e w' ⟨⟨q, rfl, hq⟩, gr⟩
              rw [bool_same hq HQ1]
              exact ⟨rfl, gr⟩
            have kM2 : ∀ (n : Nat) (os : Array Obj) (a1 a2 : Addr), Calls Tryd.prog 19 #[PC.v ⟨yk, ⟨y1, y2, y3⟩, ⟨y4, y5, y6⟩⟩, .slice (if pc = i then some a1 else some a2) (L - i) (pc - i)] (Sort.grow (wr.drewN n) os) fun e w' => e = .returned (.bool q2) ∧ ∃ q os', w' = Sort.grow ((Sort.grow (wr.drewN n) os).drewN q) os' := fun n os a1 a2 => by
              have g : Gr wr (Sort.grow (wr.drewN n) os) := ⟨n, os, rfl⟩
              have b1 := bstep HS.out.bel g.below
              refine (match_any s ⟨yk, ⟨y1, y2, y3⟩, ⟨y4, y5, y6⟩⟩ _ (l.drop i) _ HOk2.out (HT.bel b1 HY.out) (row_emp _ HE2.out (by have := HI0.out; have := HL0.out; omega) (fun e => by split at e <;> cases e)) (HTb.out.bel b1) (by simp; have := HL.out; omega)).mono ?_
              rintro e w' ⟨⟨q, rfl, hq⟩, gr⟩
              rw [bool_same hq HQ2]
              exact ⟨rfl, gr⟩
            cases q1
            · go_wp2_with fail
              refine wp_region_quiet_grownB (by assumption) (by kernel_rfl) ?_
              repeat (refine wpQuiet_stepB (fun K hK => ?_); go_simp; first | (refine hK _ ?_; clear hK K) | (apply Exists.intro; refine ⟨fun _ => ?_, hK _ ?_⟩; (first | (go_at_call 19; with_reducible refine Calls.grown_of (kM1 _ _ _)) | (go_at_call 19; with_reducible refine Calls.grown_of (kM2 _ _ _ _))); clear hK K))
              refine wpQuiet_nilB ?_
              intro _ hw'
              obtain ⟨⟨nq, osq⟩, hw''⟩ := hw'
              subst hw''
              have HS2 : Hid (JX w ⟨xk, ⟨x1, x2, x3⟩, ⟨x4, x5, x6⟩⟩ ⟨yk, ⟨y1, y2, y3⟩, ⟨y4, y5, y6⟩⟩ w2.heap.size (Sort.grow (wr.drewN nq) osq)) := HS.out.go (Gr.below ⟨nq, osq, rfl⟩)
              generalize Sort.grow (wr.drewN nq) osq = W5 at HS2 ⊢
              clear kM1 kM2 m0 m1 m2 n0 n1 n2 HS
              go_wp2_with fail
              go_roundw
              case rel => exact ⟨i + 1, false, by omega, by go_num, rfl, HS2, step_join HC (by simp) HQ1 HQ2⟩
              case measure => simp [intOf]; omega
            · go_wp2_with fail
              refine wp_region_quiet_grownB (by assumption) (by kernel_rfl) ?_
              repeat (refine wpQuiet_stepB (fun K hK => ?_); go_simp; first | (refine hK _ ?_; clear hK K) | (apply Exists.intro; refine ⟨fun _ => ?_, hK _ ?_⟩; (first | (go_at_call 19; with_reducible refine Calls.grown_of (kM1 _ _ _)) | (go_at_call 19; with_reducible refine Calls.grown_of (kM2 _ _ _ _))); clear hK K))
              refine wpQuiet_nilB ?_
              intro _ hw'
              obtain ⟨⟨nq, osq⟩, hw''⟩ := hw'
              subst hw''
              have HS2 : Hid (JX w ⟨xk, ⟨x1, x2, x3⟩, ⟨x4, x5, x6⟩⟩ ⟨yk, ⟨y1, y2, y3⟩, ⟨y4, y5, y6⟩⟩ w2.heap.size (Sort.grow (wr.drewN nq) osq)) := HS.out.go (Gr.below ⟨nq, osq, rfl⟩)
              generalize Sort.grow (wr.drewN nq) osq = W5 at HS2 ⊢
              clear kM1 kM2 m0 m1 m2 n0 n1 n2 HS
              go_wp2_with fail
              go_roundw
              case rel => exact ⟨i + 1, q2, by omega, by go_num, rfl, HS2, step_join HC (by simp) HQ1 HQ2⟩
              case measure => simp [intOf]; omega

end Go.Proofs.YtjjlkjfhhpogaaaDoor
