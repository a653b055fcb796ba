/-
  The walk of PosRuns.
-/
import Derived.Test.YtjjlkjfhhpogaaaDoorLz
namespace Go.Proofs.YtjjlkjfhhpogaaaDoor
open Go.RowKit

set_option maxRecDepth 100000 in
set_option maxHeartbeats 8000000 in
theorem law_runs (kn : KN) (kal : ALIVE) (t : Tree) (x : PC) (pv : Value) (l : List Int) (w : World) (hok : okT t) (hg : goodT t) (hx : HT w t x) (hp : RowN w pv l) (hl : l.length ≤ 4611686018427387903) (hT : Tab w) :
    Calls Tryd.prog 11 #[x.v, pv] w fun e w' => e = .returned (.bool true) ∧ Below w.heap.size w w' := by
  have kg := fun W h => great_any t x W hok h
  have kr := fun W h => right_any t x W hok h
  have HX : Hid (HT w t x) := hx
  have HTb : Hid (Tab w) := hT
  have HG : Hid (goodT t) := hg
  obtain ⟨pa, pc, rfl⟩ := hp.form
  have HP : Hid (RowN w (.slice pa l.length pc) l) := hp
  obtain ⟨L, hL⟩ : ∃ L, L = l.length := ⟨_, rfl⟩
  have HL : Hid (L = l.length) := hL
  rw [← hL] at HP hl ⊢
  obtain ⟨xk, ⟨x1, x2, x3⟩, x4, x5, x6⟩ := x
  have HOk : Hid (okT t) := hok
  clear hT hp hL hx hg hok
  go_enter Tryd.func11, Tryd.ntmps11
  go_upto_region 1 with fail
  generalize hW : World.alloc _ _ = W
  have HI : Hid (BX w ⟨xk, ⟨x1, x2, x3⟩, ⟨x4, x5, x6⟩⟩ W) := by
    rw [← hW]
    exact ⟨(Below.refl _ _).alloc (Nat.le_refl _) _, Blk.new _ _ _⟩
  clear hW
  by_cases c : 3000 < size t
  · have kg2 : ∀ W, HT W t ⟨xk, ⟨x1, x2, x3⟩, ⟨x4, x5, x6⟩⟩ → Calls Tryd.prog 15 #[PC.v ⟨xk, ⟨x1, x2, x3⟩, ⟨x4, x5, x6⟩⟩] W fun e w' => e = .returned (.bool true) ∧ Gr W w' := fun W h => by have := kg W h; simpa [c] using this
    clear kg
    go_wp2_with (first
      | (go_at_call 32; refine (kal _ (HTb.out.bel HI.out.bel)).mono ?_; rintro _ w2 ⟨rfl, gw⟩; have I2 : Hid (BX w ⟨xk, ⟨x1, x2, x3⟩, ⟨x4, x5, x6⟩⟩ w2) := HI.out.go gw; clear gw; obtain ⟨e0, e1, e2⟩ := BlkT.cs I2.out.box)
      | (go_at_call 15; refine (kg2 _ (HT.bel I2.out.bel HX.out)).mono ?_; rintro _ w3 ⟨rfl, gw⟩; have I3 : Hid (BX w ⟨xk, ⟨x1, x2, x3⟩, ⟨x4, x5, x6⟩⟩ w3) := I2.out.go gw.below; clear gw))
    go_ret
    exact ⟨rfl, I3.out.bel⟩
  have kg2 : ∀ W, HT W t ⟨xk, ⟨x1, x2, x3⟩, ⟨x4, x5, x6⟩⟩ → Calls Tryd.prog 15 #[PC.v ⟨xk, ⟨x1, x2, x3⟩, ⟨x4, x5, x6⟩⟩] W fun e w' => e = .returned (.bool false) ∧ Gr W w' := fun W h => by have := kg W h; simpa [c] using this
  clear kg c
  by_cases c2 : L ≤ 255
  case neg =>
    have c3 : decide ((255 : Int) < L) = true := by simp; omega
    clear c2
    go_wp2_with (first
      | (go_at_call 32; refine (kal _ (HTb.out.bel HI.out.bel)).mono ?_; rintro _ w2 ⟨rfl, gw⟩; have I2 : Hid (BX w ⟨xk, ⟨x1, x2, x3⟩, ⟨x4, x5, x6⟩⟩ w2) := HI.out.go gw; clear gw; obtain ⟨e0, e1, e2⟩ := BlkT.cs I2.out.box)
      | (go_at_call 15; refine (kg2 _ (HT.bel I2.out.bel HX.out)).mono ?_; rintro _ w3 ⟨rfl, gw⟩; have I3 : Hid (BX w ⟨xk, ⟨x1, x2, x3⟩, ⟨x4, x5, x6⟩⟩ w3) := I2.out.go gw.below; clear gw))
    go_ret
    exact ⟨rfl, I3.out.bel⟩
  have c3 : decide ((255 : Int) < L) = false := by simp; omega
  cases hr : rightT t with
  | false =>
    have ko := fun W h => of_wrong kn t ⟨xk, ⟨x1, x2, x3⟩, x4, x5, x6⟩ W HOk.out HG.out h hr
    rw [hr] at kr
    clear hr
    go_wp2_with (first
      | (go_at_call 32; refine (kal _ (HTb.out.bel HI.out.bel)).mono ?_; rintro _ w2 ⟨rfl, gw⟩; have I2 : Hid (BX w ⟨xk, ⟨x1, x2, x3⟩, ⟨x4, x5, x6⟩⟩ w2) := HI.out.go gw; clear gw; obtain ⟨e0, e1, e2⟩ := BlkT.cs I2.out.box)
      | (go_at_call 15; refine (kg2 _ (HT.bel I2.out.bel HX.out)).mono ?_; rintro _ w3 ⟨rfl, gw⟩; have I3 : Hid (BX w ⟨xk, ⟨x1, x2, x3⟩, ⟨x4, x5, x6⟩⟩ w3) := I2.out.go gw.below; clear gw; obtain ⟨f0, f1, f2⟩ := BlkT.cs I3.out.box)
      | (go_at_call 33; refine (ko _ (HT.bel I3.out.bel HX.out)).mono ?_; rintro _ w4 ⟨rfl, gw⟩; have I4 : Hid (BX w ⟨xk, ⟨x1, x2, x3⟩, ⟨x4, x5, x6⟩⟩ w4) := I3.out.go gw; clear gw; have I5 : Hid (BX w ⟨xk, ⟨x1, x2, x3⟩, ⟨x4, x5, x6⟩⟩ (w4.alloc (.cells #[.slice none 0 0, .bool false, .slice none 0 0, .slice none 0 0, .slice none 0 0] 53))) := I4.out.go (bel_alloc _ _); obtain ⟨h0, h1, h2⟩ := BlkT.cs I5.out.box)
      | (go_at_call 17; refine (kr _ (HT.bel I5.out.bel HX.out)).mono ?_; rintro _ w6 ⟨rfl, gw⟩; have I6 : Hid (BX w ⟨xk, ⟨x1, x2, x3⟩, ⟨x4, x5, x6⟩⟩ w6) := I5.out.go gw.below; clear gw))
    go_ret
    exact ⟨rfl, I6.out.bel⟩
  | true =>
    obtain ⟨E, hE⟩ : ∃ E, E = emp t := ⟨_, rfl⟩
    have ko := fun W h => of_right kn t ⟨xk, ⟨x1, x2, x3⟩, x4, x5, x6⟩ W HOk.out HG.out h hr E hE
    have HE : Hid (E = emp t) := hE
    have HR : Hid (rightT t = true) := hr
    clear hr hE kr
    go_upto_region 6 with (first
      | (go_at_call 32; refine (kal _ (HTb.out.bel HI.out.bel)).mono ?_; rintro _ w2 ⟨rfl, gw⟩; have I2 : Hid (BX w ⟨xk, ⟨x1, x2, x3⟩, ⟨x4, x5, x6⟩⟩ w2) := HI.out.go gw; clear gw; obtain ⟨e0, e1, e2⟩ := BlkT.cs I2.out.box)
      | (go_at_call 15; refine (kg2 _ (HT.bel I2.out.bel HX.out)).mono ?_; rintro _ w3 ⟨rfl, gw⟩; have I3 : Hid (BX w ⟨xk, ⟨x1, x2, x3⟩, ⟨x4, x5, x6⟩⟩ w3) := I2.out.go gw.below; clear gw; obtain ⟨f0, f1, f2⟩ := BlkT.cs I3.out.box)
      | (go_at_call 33; refine (ko _ (HT.bel I3.out.bel HX.out)).mono ?_; rintro _ w4 ⟨⟨sa, sn, sc⟩, ⟨va, vn, vc⟩, ⟨ia, iN, ic⟩, ⟨la, ln, lc⟩, ss, rs, sets, rows, Lf, Ll, rfl, hp, ip, gw⟩; have I4 : Hid (BX w ⟨xk, ⟨x1, x2, x3⟩, ⟨x4, x5, x6⟩⟩ w4) := I3.out.go gw; have HH : Hid _ := hp; have IP : Hid _ := ip; clear gw hp ip))
    generalize hW5 : World.alloc _ _ = W5
    have I5 : Hid (BX w ⟨xk, ⟨x1, x2, x3⟩, ⟨x4, x5, x6⟩⟩ W5) := by rw [← hW5]; exact I4.out.go (bel_alloc _ _)
    have P5 : Hid (Blk W5 w4.heap.size #[.slice sa sn sc, .bool E, .slice ia iN ic, .slice la ln lc, .slice va vn vc] 53) := by rw [← hW5]; exact Blk.new _ _ _
    have H5 := HH.out.bel (w' := W5) (by rw [← hW5]; exact bel_alloc _ _)
    have HH5 : Hid _ := H5
    clear hW5 I4 I3 I2 HI kg2 ko HH H5 e0 e1 e2 f0 f1 f2 c3 kal
    go_upto_region 9 with (at_builtin; refine wp_appXall info43 Tryd.underlying26 encN_len oneN rfl (by omega) (by rfl) _ _ (by rfl) W5.heap.size (.slice (some ⟨W5.heap.size, 0, none⟩) 0 0) ([] : List Int) (by rfl) (OwnX.empty (b := W5.heap.size) (Blk.new W5 #[] 43) (Nat.le_refl _)) (.slice pa L pc) l (by rfl) (HP.out.bel (bstep I5.out.bel (bel_alloc _ _))) (by have := HL.out; simp; omega) (by have := HL.out; simp; omega) (bel_alloc _ _).size ?_; intro v6 w6 ow6 bb6; have B6 : Hid (Below W5.heap.size W5 w6) := (bel_alloc W5 _).trans bb6; obtain ⟨ua, uc, rfl⟩ := ow6.form; have N6 : Hid (RowN w6 (.slice ua l.length uc) l) := ow6.row encN_len; clear ow6 bb6)
    have I6 : Hid (BX w ⟨xk, ⟨x1, x2, x3⟩, ⟨x4, x5, x6⟩⟩ w6) := I5.out.go B6.out
    have P6 : Hid (Blk w6 w4.heap.size #[.slice sa sn sc, .bool E, .slice ia iN ic, .slice la ln lc, .slice va vn vc] 53) := P5.out.bel B6.out
    have HH6 : Hid _ := HH5.out.bel B6.out
    rw [← HL.out] at N6
    rw [← HL.out]
    clear HH5 P5 I5 B6
    have hmx : Tryd.prog.follows .mixedOrders = true := by kernel_rfl
    obtain ⟨hk, hsz⟩ := right_facts HR.out
    obtain ⟨q, hq⟩ := bool_of (takes t l)
    have hq2 : q = true ↔ matchP t l := hq.trans ⟨fun h => ⟨HR.out, by have := HL.out; omega, h⟩, fun h => h.2.2⟩
    have kR : ∀ n os, Calls Tryd.prog 36 #[.agg #[.slice sa sn sc, .bool E, .slice ia iN ic, .slice la ln lc, .slice va vn vc], .slice ua L uc] (Sort.grow (w6.drewN n) os) fun e w' => e = .returned (.bool q) ∧ ∃ q os', w' = Sort.grow ((Sort.grow (w6.drewN n) os).drewN q) os' := fun n os => by
      have g : Gr w6 (Sort.grow (w6.drewN n) os) := ⟨n, os, rfl⟩
      have b1 := bstep I6.out.bel g.below
      have k := run_any t _ ⟨sa, sn, sc⟩ ⟨va, vn, vc⟩ ⟨ia, iN, ic⟩ ⟨la, ln, lc⟩ ss rs sets rows Lf Ll (HH6.out.gr g) IP.out hk hsz (IP.out.small fun s hs => Nat.le_trans (sets_small t hk s hs) (by omega)) (HTb.out.bel b1) _ l (N6.out.bel g.below) (by have := HL.out; omega)
      rw [← HE.out] at k
      refine k.mono ?_
      rintro e w' ⟨⟨q', rfl, hq'⟩, gr⟩
      rw [bool_same hq' hq]
      exact ⟨rfl, gr⟩
    have kM : ∀ n os, Calls Tryd.prog 19 #[PC.v ⟨xk, ⟨x1, x2, x3⟩, ⟨x4, x5, x6⟩⟩, .slice pa L pc] (Sort.grow (w6.drewN n) os) fun e w' => e = .returned (.bool q) ∧ ∃ q os', w' = Sort.grow ((Sort.grow (w6.drewN n) os).drewN q) os' := fun n os => by
      have g : Gr w6 (Sort.grow (w6.drewN n) os) := ⟨n, os, rfl⟩
      have b1 := bstep I6.out.bel g.below
      refine (match_any t ⟨xk, ⟨x1, x2, x3⟩, ⟨x4, x5, x6⟩⟩ _ l _ HOk.out (HT.bel b1 HX.out) (HP.out.bel b1) (HTb.out.bel b1) (by have := HL.out; omega)).mono ?_
      rintro e w' ⟨⟨q', rfl, hq'⟩, gr⟩
      rw [bool_same hq' hq2]
      exact ⟨rfl, gr⟩
    have kN : ∀ n os, Calls Tryd.prog 23 #[.slice ua L uc, .slice pa L pc] (Sort.grow (w6.drewN n) os) fun e w' => e = .returned (.bool true) ∧ ∃ q os', w' = Sort.grow ((Sort.grow (w6.drewN n) os).drewN q) os' := fun n os => by
      have g : Gr w6 (Sort.grow (w6.drewN n) os) := ⟨n, os, rfl⟩
      have b1 := bstep I6.out.bel g.below
      have k := nums_any _ _ l l _ (by have := HL.out; omega) (N6.out.bel g.below) (HP.out.bel b1)
      simpa using k
    clear hq hq2 hk hsz
    have m0 := fun n os => (I6.out.box.grow n os).c 0
    have m1 := fun n os => (I6.out.box.grow n os).c 1
    have m2 := fun n os => (I6.out.box.grow n os).c 2
    have n0 := fun n os => (P6.out.grow n os).c 0
    have n1 := fun n os => (P6.out.grow n os).c 1
    have n2 := fun n os => (P6.out.grow n os).c 2
    have n3 := fun n os => (P6.out.grow n os).c 3
    have n4 := fun n os => (P6.out.grow n os).c 4
    simp [encT] at m0 m1 m2 n0 n1 n2 n3 n4
    refine wp_region_quiet_grownB (by assumption) (by kernel_rfl) ?_
    repeat (refine wpQuiet_stepB (fun K hK => ?_); go_simp; first | (refine hK _ ?_; clear hK K) | (apply Exists.intro; refine ⟨fun _ => ?_, hK _ ?_⟩; (first | (go_at_call 36; with_reducible refine Calls.grown_of (kR _ _)) | (go_at_call 19; with_reducible refine Calls.grown_of (kM _ _)) | (go_at_call 23; with_reducible refine Calls.grown_of (kN _ _))); clear hK K))
    refine wpQuiet_nilB ?_
    intro _ hw'
    obtain ⟨⟨nq, osq⟩, hw''⟩ := hw'
    subst hw''
    have HB2 : Hid (Below w.heap.size w (Sort.grow (w6.drewN nq) osq)) := bstep I6.out.bel (Gr.below ⟨nq, osq, rfl⟩)
    generalize Sort.grow (w6.drewN nq) osq = W9 at HB2 ⊢
    clear kR kM kN m0 m1 m2 n0 n1 n2 n3 n4 I6 P6
    go_wp2_with fail
    go_ret
    exact ⟨by simp, HB2.out⟩

end Go.Proofs.YtjjlkjfhhpogaaaDoor
