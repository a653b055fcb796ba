/-
  The walk of PatMatches.
-/
import Derived.Test.YtjjlkjfhhpogaaaDoorRt
import Derived.Test.YtjjlkjfhhpogaaaDoorCq
import Derived.Test.YtjjlkjfhhpogaaaDoorL4
import Derived.Test.YtjjlkjfhhpogaaaDoorKd
namespace Go.Proofs.YtjjlkjfhhpogaaaDoor
open Go.RowKit

set_option maxHeartbeats 4000000 in
theorem rtakes_any (t : Tree) (x : PC) (pv : Value) (l : List Int) (w : World) (hok : okT t) (hx : HT w t x) (hp : RowN w pv l) (hl : l.length ≤ 4611686018427387903) :
    Calls Tryd.prog 20 #[x.v, pv] w fun e w' => (∃ q : Bool, e = .returned (.bool q) ∧ (q = true ↔ matchP t l)) ∧ Gr w w' := by
  have kr := fun W h => rright_any t x W hok h
  have HX : Hid (HT w t x) := hx
  have HMp : Hid (matchP t l ↔ (rightT t = true ∧ l.length ≤ 255 ∧ takes t l)) := Iff.rfl
  obtain ⟨pa, pc, rfl⟩ := hp.form
  obtain ⟨L, hL⟩ : ∃ L, L = l.length := ⟨_, rfl⟩
  have HL : Hid (L = l.length) := hL
  have HP : Hid (RowN w (.slice pa L pc) l) := by rw [hL]; exact hp
  by_cases c1 : rightT t = true
  · rw [c1] at kr
    by_cases c2 : l.length ≤ 255
    · obtain ⟨hz, _, hk⟩ := right_parts c1
      have km := fun W h1 h2 => rmatch_any t x (.slice pa l.length pc) l W hz hk c2 h1 h2
      have HMq : Hid (matchP t l ↔ takes t l) := ⟨fun h => h.2.2, fun h => ⟨c1, c2, h⟩⟩
      rw [← hL] at c2 km ⊢
      obtain ⟨xk, ⟨x1, x2, x3⟩, x4, x5, x6⟩ := x
      have HBx : Hid (Blk (w.alloc (.cells #[.int .i64 xk, .slice x1 x2 x3, .slice x4 x5 x6] 25)) w.heap.size #[.int .i64 xk, .slice x1 x2 x3, .slice x4 x5 x6] 25) := Blk.new _ _ _
      have c3 : decide ((L : Int) ≤ 255) = true := by simp; omega
      clear hx hp hL c1 hz hk HMp hok hl
      go_enter Tryd.func20, Tryd.ntmps20
      go_wp2_with (first
        | (go_at_call 18; refine (kr _ (HX.out.gr ((Gr.refl _).alloc _))).mono ?_; rintro _ w2 ⟨rfl, gw⟩; have G2 : Hid (Gr w w2) := ((Gr.refl _).alloc _).trans gw; have B2 : Hid (Blk w2 w.heap.size #[.int .i64 xk, .slice x1 x2 x3, .slice x4 x5 x6] 25) := HBx.out.gr gw; obtain ⟨e0, e1, e2⟩ : w2.cell? ⟨w.heap.size, 0, none⟩ = some (.int .i64 xk) ∧ w2.cell? ⟨w.heap.size, 1, none⟩ = some (.slice x1 x2 x3) ∧ w2.cell? ⟨w.heap.size, 2, none⟩ = some (.slice x4 x5 x6) := ⟨B2.out.c 0, B2.out.c 1, B2.out.c 2⟩; clear gw)
        | (go_at_call 46; refine (km _ (HX.out.gr G2.out) (HP.out.gr G2.out)).mono ?_; rintro _ w3 ⟨⟨q, rfl, hq⟩, gw⟩; have G3 : Hid (Gr w w3) := G2.out.trans gw; have HQ : Hid (q = true ↔ takes t l) := hq; clear gw hq))
      go_ret
      exact ⟨⟨q, rfl, HQ.out.trans HMq.out.symm⟩, G3.out⟩
    · have HQ : Hid (¬ matchP t l) := fun h => c2 h.2.1
      rw [← hL] at c2 hl ⊢
      obtain ⟨xk, ⟨x1, x2, x3⟩, x4, x5, x6⟩ := x
      have c3 : decide ((L : Int) ≤ 255) = false := by simp; omega
      clear hx hp hL c1 HMp hok c2
      go_enter Tryd.func20, Tryd.ntmps20
      go_wp2_with (go_at_call 18; refine (kr _ (HX.out.gr ((Gr.refl _).alloc _))).mono ?_; rintro _ w2 ⟨rfl, gw⟩; have G2 : Hid (Gr w w2) := ((Gr.refl _).alloc _).trans gw; clear gw)
      go_ret
      exact ⟨⟨false, rfl, by simp; exact HQ.out⟩, G2.out⟩
  · have HQ : Hid (¬ matchP t l) := fun h => c1 h.1
    have c4 : rightT t = false := by simpa using c1
    rw [c4] at kr
    rw [← hL]
    obtain ⟨xk, ⟨x1, x2, x3⟩, x4, x5, x6⟩ := x
    clear hx hp hL c1 HMp hok c4
    go_enter Tryd.func20, Tryd.ntmps20
    go_wp2_with (go_at_call 18; refine (kr _ (HX.out.gr ((Gr.refl _).alloc _))).mono ?_; rintro _ w2 ⟨rfl, gw⟩; have G2 : Hid (Gr w w2) := ((Gr.refl _).alloc _).trans gw; clear gw)
    go_ret
    exact ⟨⟨false, rfl, by simp; exact HQ.out⟩, G2.out⟩


/-- A law's world: the pattern lies in its box, its copy in another one, the path's copy in a row of its own. -/
structure MX (w : World) (x : PC) (b : Nat) (y : PC) (v : Value) (l : List Int) (t : Tree) (W : World) : Prop where
  bel : Below w.heap.size w W
  box : Blk W w.heap.size (encT x).toArray 25
  cop : Blk W b (encT y).toArray 25
  row : RowN W v l
  held : HT W t y
theorem MX.go {w : World} {x : PC} {b : Nat} {y : PC} {v : Value} {l : List Int} {t : Tree} {W W' : World} (h : MX w x b y v l t W) (g : Below W.heap.size W W') : MX w x b y v l t W' := ⟨bstep h.bel g, h.box.bel g, h.cop.bel g, h.row.bel g, HT.bel g h.held⟩

set_option maxRecDepth 100000 in
set_option maxHeartbeats 8000000 in
theorem law_matches (t : Tree) (x : PC) (pv : Value) (l : List Int) (w : World) (hok : okT t) (hx : HT w t x) (hp : RowN w pv l) (hl : l.length ≤ 4611686018427387903) (hT : Tab w) :
    Calls Tryd.prog 3 #[x.v, pv] w fun e w' => e = .returned (.bool true) ∧ Below w.heap.size w w' := by
  have kal := fun W h => alive_any W h
  have kg := fun W h => great_any t x W hok h
  have HX : Hid (HT w t x) := hx
  have HTb : Hid (Tab w) := hT
  obtain ⟨pa, pc, rfl⟩ := hp.form
  have HP : Hid (RowN w (.slice pa l.length pc) l) := hp
  obtain ⟨L, hL⟩ : ∃ L, L = l.length := ⟨_, rfl⟩
  have HL : Hid (L = l.length) := hL
  rw [← hL] at HP hl ⊢
  obtain ⟨xk, ⟨x1, x2, x3⟩, x4, x5, x6⟩ := x
  have HOk : Hid (okT t) := hok
  clear hT hp hL
  go_enter Tryd.func3, Tryd.ntmps3
  go_upto_region 1 with fail
  generalize hW : World.alloc _ _ = W
  have HI : Hid (BX w ⟨xk, ⟨x1, x2, x3⟩, ⟨x4, x5, x6⟩⟩ W) := by
    rw [← hW]
    exact ⟨(Below.refl _ _).alloc (Nat.le_refl _) _, Blk.new _ _ _⟩
  clear hW
  by_cases c : 3000 < size t
  · have kg2 : ∀ W, HT W t ⟨xk, ⟨x1, x2, x3⟩, ⟨x4, x5, x6⟩⟩ → Calls Tryd.prog 15 #[PC.v ⟨xk, ⟨x1, x2, x3⟩, ⟨x4, x5, x6⟩⟩] W fun e w' => e = .returned (.bool true) ∧ Gr W w' := fun W h => by have := kg W h; simpa [c] using this
    clear kg hx hok
    go_wp2_with (first
      | (go_at_call 14; refine (kal _ (HTb.out.bel HI.out.bel)).mono ?_; rintro _ w2 ⟨rfl, gw⟩; have I2 : Hid (BX w ⟨xk, ⟨x1, x2, x3⟩, ⟨x4, x5, x6⟩⟩ w2) := HI.out.go gw; clear gw; obtain ⟨e0, e1, e2⟩ := BlkT.cs I2.out.box)
      | (go_at_call 15; refine (kg2 _ (HT.bel I2.out.bel HX.out)).mono ?_; rintro _ w3 ⟨rfl, gw⟩; have I3 : Hid (BX w ⟨xk, ⟨x1, x2, x3⟩, ⟨x4, x5, x6⟩⟩ w3) := I2.out.go gw.below; clear gw))
    go_ret
    exact ⟨rfl, I3.out.bel⟩
  have kg2 : ∀ W, HT W t ⟨xk, ⟨x1, x2, x3⟩, ⟨x4, x5, x6⟩⟩ → Calls Tryd.prog 15 #[PC.v ⟨xk, ⟨x1, x2, x3⟩, ⟨x4, x5, x6⟩⟩] W fun e w' => e = .returned (.bool false) ∧ Gr W w' := fun W h => by have := kg W h; simpa [c] using this
  have kc := fun W h => copy_any _ t ⟨xk, ⟨x1, x2, x3⟩, ⟨x4, x5, x6⟩⟩ W (Nat.le_refl _) (by omega) hok h
  clear kg hx hok c
  by_cases c2 : L ≤ 300
  case neg =>
    have c3 : decide ((300 : Int) < L) = true := by simp; omega
    clear c2 kc
    go_wp2_with (first
      | (go_at_call 14; refine (kal _ (HTb.out.bel HI.out.bel)).mono ?_; rintro _ w2 ⟨rfl, gw⟩; have I2 : Hid (BX w ⟨xk, ⟨x1, x2, x3⟩, ⟨x4, x5, x6⟩⟩ w2) := HI.out.go gw; clear gw; obtain ⟨e0, e1, e2⟩ := BlkT.cs I2.out.box)
      | (go_at_call 15; refine (kg2 _ (HT.bel I2.out.bel HX.out)).mono ?_; rintro _ w3 ⟨rfl, gw⟩; have I3 : Hid (BX w ⟨xk, ⟨x1, x2, x3⟩, ⟨x4, x5, x6⟩⟩ w3) := I2.out.go gw.below; clear gw))
    go_ret
    exact ⟨rfl, I3.out.bel⟩
  case pos =>
    have c3 : decide ((300 : Int) < L) = false := by simp; omega
    have hl2 : L ≤ 4611686018427387903 := hl
    go_upto_region 6 with (first
      | (go_at_call 14; refine (kal _ (HTb.out.bel HI.out.bel)).mono ?_; rintro _ w2 ⟨rfl, gw⟩; have I2 : Hid (BX w ⟨xk, ⟨x1, x2, x3⟩, ⟨x4, x5, x6⟩⟩ w2) := HI.out.go gw; clear gw; obtain ⟨e0, e1, e2⟩ := BlkT.cs I2.out.box)
      | (go_at_call 15; refine (kg2 _ (HT.bel I2.out.bel HX.out)).mono ?_; rintro _ w3 ⟨rfl, gw⟩; have I3 : Hid (BX w ⟨xk, ⟨x1, x2, x3⟩, ⟨x4, x5, x6⟩⟩ w3) := I2.out.go gw.below; clear gw; obtain ⟨f0, f1, f2⟩ := BlkT.cs I3.out.box)
      | (go_at_call 16; refine (kc _ (HT.bel I3.out.bel HX.out)).mono ?_; rintro _ w4 ⟨⟨i0, ⟨i1, i2, i3⟩, i4, i5, i6⟩, rfl, ho4, bb4⟩; have I4 : Hid (BX w ⟨xk, ⟨x1, x2, x3⟩, ⟨x4, x5, x6⟩⟩ w4) := I3.out.go bb4; have H4 : Hid (HT w4 t ⟨i0, ⟨i1, i2, i3⟩, ⟨i4, i5, i6⟩⟩) := ho4.held; clear ho4 bb4)
      | (at_builtin; refine wp_appXall info43 Tryd.underlying26 encN_len oneN rfl (by omega) (by rfl) _ _ (by rfl) w4.heap.size (.slice (some ⟨w4.heap.size, 0, none⟩) 0 0) ([] : List Int) (by rfl) (OwnX.empty (b := w4.heap.size) (Blk.new w4 #[] 43) (Nat.le_refl _)) (.slice pa L pc) l (by rfl) (HP.out.bel (bstep I4.out.bel (bel_alloc _ _))) (by have := HL.out; simp; omega) (by have := HL.out; simp; omega) (bel_alloc _ _).size ?_; intro v6 w6 ow6 bb6; have I6 : Hid (BX w ⟨xk, ⟨x1, x2, x3⟩, ⟨x4, x5, x6⟩⟩ w6) := I4.out.go ((bel_alloc w4 _).trans bb6); have H6 : Hid (HT w6 t ⟨i0, ⟨i1, i2, i3⟩, ⟨i4, i5, i6⟩⟩) := HT.bel ((bel_alloc w4 _).trans bb6) H4.out; obtain ⟨va, vc, rfl⟩ := ow6.form; have N6 : Hid (RowN w6 (.slice va l.length vc) l) := ow6.row encN_len; clear ow6 bb6))
    generalize hW5 : World.alloc _ _ = W5
    have HIn : w.heap.size < w6.heap.size := I6.out.box.lt
    have V5 : Hid (MX w ⟨xk, ⟨x1, x2, x3⟩, ⟨x4, x5, x6⟩⟩ w6.heap.size ⟨i0, ⟨i1, i2, i3⟩, ⟨i4, i5, i6⟩⟩ (.slice va l.length vc) l t W5) := by rw [← hW5]; exact ⟨bstep I6.out.bel (bel_alloc _ _), I6.out.box.alloc _, Blk.new _ _ _, N6.out.bel (bel_alloc _ _), HT.bel (bel_alloc _ _) H6.out⟩
    clear hW5 H6 N6 I6 H4 I4 I3 I2 HI kal kg2 kc e0 e1 e2 f0 f1 f2 c3
    rw [← HL.out] at V5
    rw [← HL.out]
    have hmx : Tryd.prog.follows .mixedOrders = true := by kernel_rfl
    obtain ⟨qr, hqr⟩ : ∃ q, q = rightT t := ⟨_, rfl⟩
    obtain ⟨qm, hqm⟩ := bool_of (matchP t l)
    obtain ⟨qe, hqe⟩ := bool_of (matchP t [])
    have kR : ∀ n os, Calls Tryd.prog 17 #[PC.v ⟨i0, ⟨i1, i2, i3⟩, ⟨i4, i5, i6⟩⟩] (Sort.grow (W5.drewN n) os) fun e w' => e = .returned (.bool qr) ∧ ∃ q os', w' = Sort.grow ((Sort.grow (W5.drewN n) os).drewN q) os' := fun n os => by
      have g : Gr W5 (Sort.grow (W5.drewN n) os) := ⟨n, os, rfl⟩
      have b1 := bstep V5.out.bel g.below
      rw [hqr]; exact right_any t ⟨i0, ⟨i1, i2, i3⟩, ⟨i4, i5, i6⟩⟩ _ HOk.out (HT.bel g.below V5.out.held)
    have kr : ∀ n os, Calls Tryd.prog 18 #[PC.v ⟨xk, ⟨x1, x2, x3⟩, ⟨x4, x5, x6⟩⟩] (Sort.grow (W5.drewN n) os) fun e w' => e = .returned (.bool qr) ∧ ∃ q os', w' = Sort.grow ((Sort.grow (W5.drewN n) os).drewN q) os' := fun n os => by
      have g : Gr W5 (Sort.grow (W5.drewN n) os) := ⟨n, os, rfl⟩
      have b1 := bstep V5.out.bel g.below
      rw [hqr]; exact rright_any t ⟨xk, ⟨x1, x2, x3⟩, ⟨x4, x5, x6⟩⟩ _ HOk.out (HT.bel b1 HX.out)
    have kM : ∀ n os, Calls Tryd.prog 19 #[PC.v ⟨i0, ⟨i1, i2, i3⟩, ⟨i4, i5, i6⟩⟩, .slice va L vc] (Sort.grow (W5.drewN n) os) fun e w' => e = .returned (.bool qm) ∧ ∃ q os', w' = Sort.grow ((Sort.grow (W5.drewN n) os).drewN q) os' := fun n os => by
      have g : Gr W5 (Sort.grow (W5.drewN n) os) := ⟨n, os, rfl⟩
      have b1 := bstep V5.out.bel g.below
      refine (match_any t ⟨i0, ⟨i1, i2, i3⟩, ⟨i4, i5, i6⟩⟩ _ l _ HOk.out (HT.bel g.below V5.out.held) (V5.out.row.bel g.below) (HTb.out.bel b1) (by have := HL.out; omega)).mono ?_
      rintro e w' ⟨⟨q, rfl, hq⟩, gr⟩
      rw [bool_same hq hqm]
      exact ⟨rfl, gr⟩
    have kT : ∀ n os, Calls Tryd.prog 20 #[PC.v ⟨xk, ⟨x1, x2, x3⟩, ⟨x4, x5, x6⟩⟩, .slice pa L pc] (Sort.grow (W5.drewN n) os) fun e w' => e = .returned (.bool qm) ∧ ∃ q os', w' = Sort.grow ((Sort.grow (W5.drewN n) os).drewN q) os' := fun n os => by
      have g : Gr W5 (Sort.grow (W5.drewN n) os) := ⟨n, os, rfl⟩
      have b1 := bstep V5.out.bel g.below
      refine (rtakes_any t ⟨xk, ⟨x1, x2, x3⟩, ⟨x4, x5, x6⟩⟩ _ l _ HOk.out (HT.bel b1 HX.out) (HP.out.bel b1) (by have := HL.out; omega)).mono ?_
      rintro e w' ⟨⟨q, rfl, hq⟩, gr⟩
      rw [bool_same hq hqm]
      exact ⟨rfl, gr⟩
    have kE : ∀ n os, Calls Tryd.prog 21 #[PC.v ⟨i0, ⟨i1, i2, i3⟩, ⟨i4, i5, i6⟩⟩] (Sort.grow (W5.drewN n) os) fun e w' => e = .returned (.bool qe) ∧ ∃ q os', w' = Sort.grow ((Sort.grow (W5.drewN n) os).drewN q) os' := fun n os => by
      have g : Gr W5 (Sort.grow (W5.drewN n) os) := ⟨n, os, rfl⟩
      have b1 := bstep V5.out.bel g.below
      refine (empty_any t ⟨i0, ⟨i1, i2, i3⟩, ⟨i4, i5, i6⟩⟩ _ HOk.out (HT.bel g.below V5.out.held) (HTb.out.bel b1)).mono ?_
      rintro e w' ⟨⟨q, rfl, hq⟩, gr⟩
      rw [bool_same hq hqe]
      exact ⟨rfl, gr⟩
    have kT0 : ∀ n os, Calls Tryd.prog 20 #[PC.v ⟨xk, ⟨x1, x2, x3⟩, ⟨x4, x5, x6⟩⟩, .slice none 0 0] (Sort.grow (W5.drewN n) os) fun e w' => e = .returned (.bool qe) ∧ ∃ q os', w' = Sort.grow ((Sort.grow (W5.drewN n) os).drewN q) os' := fun n os => by
      have g : Gr W5 (Sort.grow (W5.drewN n) os) := ⟨n, os, rfl⟩
      have b1 := bstep V5.out.bel g.below
      refine (rtakes_any t ⟨xk, ⟨x1, x2, x3⟩, ⟨x4, x5, x6⟩⟩ _ [] _ HOk.out (HT.bel b1 HX.out) (RowX.nil _ _ _) (by simp)).mono ?_
      rintro e w' ⟨⟨q, rfl, hq⟩, gr⟩
      rw [bool_same hq hqe]
      exact ⟨rfl, gr⟩
    have kS : ∀ n os, Calls Tryd.prog 22 #[PC.v ⟨i0, ⟨i1, i2, i3⟩, ⟨i4, i5, i6⟩⟩, PC.v ⟨xk, ⟨x1, x2, x3⟩, ⟨x4, x5, x6⟩⟩] (Sort.grow (W5.drewN n) os) fun e w' => e = .returned (.bool true) ∧ ∃ q os', w' = Sort.grow ((Sort.grow (W5.drewN n) os).drewN q) os' := fun n os => by
      have g : Gr W5 (Sort.grow (W5.drewN n) os) := ⟨n, os, rfl⟩
      have b1 := bstep V5.out.bel g.below
      exact same_true _ t ⟨i0, ⟨i1, i2, i3⟩, ⟨i4, i5, i6⟩⟩ ⟨xk, ⟨x1, x2, x3⟩, ⟨x4, x5, x6⟩⟩ _ (Nat.le_refl _) HOk.out (HT.bel g.below V5.out.held) (HT.bel b1 HX.out)
    have kN : ∀ n os, Calls Tryd.prog 23 #[.slice va L vc, .slice pa L pc] (Sort.grow (W5.drewN n) os) fun e w' => e = .returned (.bool true) ∧ ∃ q os', w' = Sort.grow ((Sort.grow (W5.drewN n) os).drewN q) os' := fun n os => by
      have g : Gr W5 (Sort.grow (W5.drewN n) os) := ⟨n, os, rfl⟩
      have b1 := bstep V5.out.bel g.below
      exact nums_true _ _ l _ (by have := HL.out; omega) (V5.out.row.bel g.below) (HP.out.bel b1)
    clear hqr hqm hqe
    have m0 := fun n os => (V5.out.box.grow n os).c 0
    have m1 := fun n os => (V5.out.box.grow n os).c 1
    have m2 := fun n os => (V5.out.box.grow n os).c 2
    have n0 := fun n os => (V5.out.cop.grow n os).c 0
    have n1 := fun n os => (V5.out.cop.grow n os).c 1
    have n2 := fun n os => (V5.out.cop.grow n os).c 2
    simp [encT] at m0 m1 m2 n0 n1 n2
    refine wp_region_quiet_grownB (by assumption) (by kernel_rfl) ?_
    repeat (refine wpQuiet_stepB (fun K hK => ?_); go_simp; first | (refine hK _ ?_; clear hK K) | (apply Exists.intro; refine ⟨fun _ => ?_, hK _ ?_⟩; (first | (go_at_call 17; with_reducible refine Calls.grown_of (kR _ _)) | (go_at_call 18; with_reducible refine Calls.grown_of (kr _ _)) | (go_at_call 19; with_reducible refine Calls.grown_of (kM _ _)) | (go_at_call 20; with_reducible refine Calls.grown_of (kT _ _)) | (go_at_call 20; with_reducible refine Calls.grown_of (kT0 _ _)) | (go_at_call 21; with_reducible refine Calls.grown_of (kE _ _)) | (go_at_call 22; with_reducible refine Calls.grown_of (kS _ _)) | (go_at_call 23; with_reducible refine Calls.grown_of (kN _ _))); clear hK K))
    refine wpQuiet_nilB ?_
    intro _ hw'
    obtain ⟨⟨nq, osq⟩, hw''⟩ := hw'
    subst hw''
    have HB2 : Hid (Below w.heap.size w (Sort.grow (W5.drewN nq) osq)) := bstep V5.out.bel (Gr.below ⟨nq, osq, rfl⟩)
    generalize Sort.grow (W5.drewN nq) osq = W9 at HB2 ⊢
    clear kR kr kM kT kE kT0 kS kN m0 m1 m2 n0 n1 n2 V5
    go_wp2_with fail
    go_ret
    exact ⟨by simp, HB2.out⟩

end Go.Proofs.YtjjlkjfhhpogaaaDoor
