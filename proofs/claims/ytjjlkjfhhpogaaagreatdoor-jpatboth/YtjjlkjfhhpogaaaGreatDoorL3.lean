/-
  What the laws of reading again need; the walk of IpatBack.
-/
import Derived.Test.YtjjlkjfhhpogaaaGreatDoorAl
import Derived.Test.YtjjlkjfhhpogaaaGreatDoorBl
namespace Go.Proofs.YtjjlkjfhhpogaaaGreatDoor
open Go.RowKit

/-- Nothing old has turned; the pattern lies in its box. -/
structure BX (w : World) (x : PC) (W : World) : Prop where
  bel : Below w.heap.size w W
  box : Blk W w.heap.size (encT x).toArray 26
theorem BX.go {w : World} {x : PC} {W W' : World} (h : BX w x W) (g : Below W.heap.size W W') : BX w x W' := ⟨bstep h.bel g, h.box.bel g⟩
/-- And a second pattern in another box. -/
structure BY (w : World) (x y : PC) (b : Nat) (t : Tree) (W : World) : Prop where
  bx : BX w x W
  res : Blk W b (encT y).toArray 26
  held : HT W t y
theorem BY.go {w : World} {x y : PC} {b : Nat} {t : Tree} {W W' : World} (h : BY w x y b t W) (g : Below W.heap.size W W') : BY w x y b t W' := ⟨h.bx.go g, h.res.bel g, HT.bel g h.held⟩
theorem bool_of (p : Prop) : ∃ q : Bool, q = true ↔ p := by
  by_cases h : p
  · exact ⟨true, by simp [h]⟩
  · exact ⟨false, by simp [h]⟩
theorem bool_same {q q' : Bool} {p : Prop} (h : q = true ↔ p) (h' : q' = true ↔ p) : q = q' := by
  cases q <;> cases q' <;> simp_all

/-- A pattern in new memory, and a number beside it. -/
def PostK (t : Tree) (k : Int) (w : World) (e : Ending) (w' : World) : Prop := ∃ r : PC, e = .returned (.tuple #[r.v, .int .i64 k]) ∧ HT w' t r ∧ Below w.heap.size w w' ∧ (k = 0 → rightT t = true)
theorem parse_str {l : Bs} {q : Tree × Int} (h : parseM l = q) (W : World) : Calls Tryz.prog 11 #[str l] W fun e w' => PostK q.1 q.2 W e w' := by
  subst h
  exact (parse_any ⟨l.toArray⟩ W).mono fun _ _ ⟨⟨r, h1, h2, h3⟩, h4⟩ => ⟨r, h1, h2.held, h3, h4⟩
theorem match_read {t : Tree} (hr : rightT t = true) (hq : rightT (readT t) = true) (hg : goodT t) (l : List Int) : matchP (readT t) l ↔ matchP t l := by
  unfold matchP
  rw [takes_read _ t (Nat.le_refl _) (right_parts hr).2.2 hg l]
  exact ⟨fun h => ⟨hr, h.2⟩, fun h => ⟨hq, h.2⟩⟩
theorem Tab.bel {w w' : World} (h : Tab w) (hB : Below w.heap.size w w') : Tab w' := h.same (hB.block 0 h.lt)

set_option maxRecDepth 100000 in
set_option maxHeartbeats 8000000 in
theorem law_back (t : Tree) (x : PC) (pv : Value) (l : List Int) (w : World) (hok : okT t) (hg : goodT t) (hx : HT w t x) (hp : RowN w pv l) (hl : l.length ≤ 4611686018427387903) (hT : Tab w) (hP : TabP w) :
    Calls Tryz.prog 5 #[x.v, pv] w fun e w' => e = .returned (.bool true) ∧ Below w.heap.size w w' := by
  have kal := fun W h => alive_any W h
  have kg := fun W h => great_any t x W hok h
  have kr := fun W h => right_any t x W hok h
  have kp := fun W h1 h2 => print_any t x W hok hg h1 h2
  have HX : Hid (HT w t x) := hx
  have HTb : Hid (Tab w) := hT
  have HTp : Hid (TabP w) := hP
  obtain ⟨pa, pc, rfl⟩ := hp.form
  have HP : Hid (RowN w (.slice pa l.length pc) l) := hp
  obtain ⟨L, hL⟩ : ∃ L, L = l.length := ⟨_, rfl⟩
  have HL : Hid (L = l.length) := hL
  rw [← hL] at HP hl ⊢
  obtain ⟨xk, ⟨x1, x2, x3⟩, x4, x5, x6⟩ := x
  have HOk : Hid (okT t) := hok
  have HGd : Hid (goodT t) := hg
  clear hx hT hP hp hL hok hg
  go_enter Tryz.func5, Tryz.ntmps5
  go_upto_region 1 with fail
  generalize hW : World.alloc _ _ = W
  have HI : Hid (BX w ⟨xk, ⟨x1, x2, x3⟩, ⟨x4, x5, x6⟩⟩ W) := by
    rw [← hW]
    exact ⟨(Below.refl _ _).alloc (Nat.le_refl _) _, Blk.new _ _ _⟩
  clear hW
  go_upto_region 3 with (go_at_call 10; refine (kal _ (HTp.out.bel HI.out.bel)).mono ?_; rintro _ w2 ⟨rfl, gw⟩; have I2 : Hid (BX w ⟨xk, ⟨x1, x2, x3⟩, ⟨x4, x5, x6⟩⟩ w2) := HI.out.go gw; clear gw; obtain ⟨e0, e1, e2⟩ := BlkT.cs I2.out.box)
  clear HI kal
  by_cases c1 : 3000 < size t
  · have kg2 : ∀ W, HT W t ⟨xk, ⟨x1, x2, x3⟩, ⟨x4, x5, x6⟩⟩ → Calls Tryz.prog 14 #[PC.v ⟨xk, ⟨x1, x2, x3⟩, ⟨x4, x5, x6⟩⟩] W fun e w' => e = .returned (.bool true) ∧ Gr W w' := fun W h => by have := kg W h; simpa [c1] using this
    clear kg kr kp
    go_wp2_with (go_at_call 14; refine (kg2 _ (HT.bel I2.out.bel HX.out)).mono ?_; rintro _ w3 ⟨rfl, gw⟩; have I3 : Hid (BX w ⟨xk, ⟨x1, x2, x3⟩, ⟨x4, x5, x6⟩⟩ w3) := I2.out.go gw.below; clear gw)
    go_ret
    exact ⟨rfl, I3.out.bel⟩
  have kg2 : ∀ W, HT W t ⟨xk, ⟨x1, x2, x3⟩, ⟨x4, x5, x6⟩⟩ → Calls Tryz.prog 14 #[PC.v ⟨xk, ⟨x1, x2, x3⟩, ⟨x4, x5, x6⟩⟩] W fun e w' => e = .returned (.bool false) ∧ Gr W w' := fun W h => by have := kg W h; simpa [c1] using this
  clear kg c1
  by_cases c2 : L ≤ 40
  case neg =>
    have c3 : decide ((40 : Int) < L) = true := by simp; omega
    clear kr kp
    go_wp2_with (go_at_call 14; refine (kg2 _ (HT.bel I2.out.bel HX.out)).mono ?_; rintro _ w3 ⟨rfl, gw⟩; have I3 : Hid (BX w ⟨xk, ⟨x1, x2, x3⟩, ⟨x4, x5, x6⟩⟩ w3) := I2.out.go gw.below; clear gw)
    go_ret
    exact ⟨rfl, I3.out.bel⟩
  have c3 : decide ((40 : Int) < L) = false := by simp; omega
  cases hr : rightT t with
  | false =>
    have kp2 : ∀ W, HT W t ⟨xk, ⟨x1, x2, x3⟩, ⟨x4, x5, x6⟩⟩ → TabP W → Calls Tryz.prog 16 #[PC.v ⟨xk, ⟨x1, x2, x3⟩, ⟨x4, x5, x6⟩⟩] W fun e w' => e = .returned (.tuple #[.string ⟨#[]⟩, .int .i64 4]) ∧ Below W.heap.size W w' := fun W h1 h2 => by
      have := kp W h1 h2
      rw [show printM t = ([], 4) by unfold printM; rw [hr]; rfl] at this
      exact this
    rw [hr] at kr
    clear kp hr
    go_wp2_with (first
      | (go_at_call 14; refine (kg2 _ (HT.bel I2.out.bel HX.out)).mono ?_; rintro _ w3 ⟨rfl, gw⟩; have I3 : Hid (BX w ⟨xk, ⟨x1, x2, x3⟩, ⟨x4, x5, x6⟩⟩ w3) := I2.out.go gw.below; clear gw; obtain ⟨f0, f1, f2⟩ := BlkT.cs I3.out.box)
      | (go_at_call 16; refine (kp2 _ (HT.bel I3.out.bel HX.out) (HTp.out.bel I3.out.bel)).mono ?_; rintro _ w4 ⟨rfl, gw⟩; have I4 : Hid (BX w ⟨xk, ⟨x1, x2, x3⟩, ⟨x4, x5, x6⟩⟩ w4) := I3.out.go gw; clear gw; obtain ⟨d0, d1, d2⟩ := BlkT.cs I4.out.box)
      | (go_at_call 18; refine (kr _ (HT.bel I4.out.bel HX.out)).mono ?_; rintro _ w5 ⟨rfl, gw⟩; have I5 : Hid (BX w ⟨xk, ⟨x1, x2, x3⟩, ⟨x4, x5, x6⟩⟩ w5) := I4.out.go gw.below; clear gw))
    go_ret
    exact ⟨rfl, I5.out.bel⟩
  | true =>
    have kp2 : ∀ W, HT W t ⟨xk, ⟨x1, x2, x3⟩, ⟨x4, x5, x6⟩⟩ → TabP W → Calls Tryz.prog 16 #[PC.v ⟨xk, ⟨x1, x2, x3⟩, ⟨x4, x5, x6⟩⟩] W fun e w' => e = .returned (.tuple #[.string ⟨(wholeX t).toArray⟩, .int .i64 0]) ∧ Below W.heap.size W w' := fun W h1 h2 => by
      have := kp W h1 h2
      rw [show printM t = (wholeX t, 0) by unfold printM; rw [hr]; rfl] at this
      exact this
    have HR : Hid (rightT t = true) := hr
    rw [hr] at kr
    clear kp hr
    have kq := back_whole (right_parts HR.out).2.2 HGd.out
    have kS : ∀ W (q : Tree × Int), parseM (wholeX t) = q → Calls Tryz.prog 11 #[.string ⟨(wholeX t).toArray⟩] W fun e w' => PostK q.1 q.2 W e w' := fun W q h => parse_str h W
    generalize (⟨(wholeX t).toArray⟩ : ByteArray) = S at kp2 kS
    rcases kq with kq | kq
    · have kS2 := fun W => kS W _ kq
      simp only at kS2
      clear kS kq kr
      go_wp2_with (first
        | (go_at_call 14; refine (kg2 _ (HT.bel I2.out.bel HX.out)).mono ?_; rintro _ w3 ⟨rfl, gw⟩; have I3 : Hid (BX w ⟨xk, ⟨x1, x2, x3⟩, ⟨x4, x5, x6⟩⟩ w3) := I2.out.go gw.below; clear gw; obtain ⟨f0, f1, f2⟩ := BlkT.cs I3.out.box)
        | (go_at_call 16; refine (kp2 _ (HT.bel I3.out.bel HX.out) (HTp.out.bel I3.out.bel)).mono ?_; rintro _ w4 ⟨rfl, gw⟩; have I4 : Hid (BX w ⟨xk, ⟨x1, x2, x3⟩, ⟨x4, x5, x6⟩⟩ w4) := I3.out.go gw; clear gw; obtain ⟨d0, d1, d2⟩ := BlkT.cs I4.out.box)
        | (go_at_call 11; refine (kS2 _).mono ?_; rintro _ w5 ⟨⟨r0, ⟨r1, r2, r3⟩, r4, r5, r6⟩, rfl, _, gw, _⟩; have I5 : Hid (BX w ⟨xk, ⟨x1, x2, x3⟩, ⟨x4, x5, x6⟩⟩ w5) := I4.out.go gw; clear gw))
      go_ret
      exact ⟨rfl, bstep I5.out.bel (bel_alloc _ _)⟩
    have kS2 := fun W => kS W _ kq
    simp only at kS2
    clear kS kq
    go_upto_region 11 with (first
      | (go_at_call 14; refine (kg2 _ (HT.bel I2.out.bel HX.out)).mono ?_; rintro _ w3 ⟨rfl, gw⟩; have I3 : Hid (BX w ⟨xk, ⟨x1, x2, x3⟩, ⟨x4, x5, x6⟩⟩ w3) := I2.out.go gw.below; clear gw; obtain ⟨f0, f1, f2⟩ := BlkT.cs I3.out.box)
      | (go_at_call 16; refine (kp2 _ (HT.bel I3.out.bel HX.out) (HTp.out.bel I3.out.bel)).mono ?_; rintro _ w4 ⟨rfl, gw⟩; have I4 : Hid (BX w ⟨xk, ⟨x1, x2, x3⟩, ⟨x4, x5, x6⟩⟩ w4) := I3.out.go gw; clear gw; obtain ⟨d0, d1, d2⟩ := BlkT.cs I4.out.box)
      | (go_at_call 11; refine (kS2 _).mono ?_; rintro _ w5 ⟨⟨r0, ⟨r1, r2, r3⟩, r4, r5, r6⟩, rfl, ht5, gw, hr5⟩; have HQR : Hid (rightT (readT t) = true) := hr5 rfl; have H5 : Hid (HT w5 (readT t) ⟨r0, ⟨r1, r2, r3⟩, ⟨r4, r5, r6⟩⟩) := ht5; have I5 : Hid (BX w ⟨xk, ⟨x1, x2, x3⟩, ⟨x4, x5, x6⟩⟩ w5) := I4.out.go gw; clear gw ht5 hr5))
    generalize hW3 : World.alloc _ _ = W3
    have HS : Hid (BY w ⟨xk, ⟨x1, x2, x3⟩, ⟨x4, x5, x6⟩⟩ ⟨r0, ⟨r1, r2, r3⟩, ⟨r4, r5, r6⟩⟩ w5.heap.size (readT t) W3) := by
      rw [← hW3]
      exact ⟨I5.out.go (bel_alloc _ _), Blk.new _ _ _, HT.bel (bel_alloc _ _) H5.out⟩
    clear hW3 I2 I3 I4 I5 H5 e0 e1 e2 f0 f1 f2 d0 d1 d2 kg2 kp2 kS2 kr
    obtain ⟨q1, hq1⟩ := bool_of (matchP t l)
    have hq2 := match_read HR.out HQR.out HGd.out l
    have hmx : Tryz.prog.follows .mixedOrders = true := by kernel_rfl
    have kR : ∀ n os, Calls Tryz.prog 18 #[PC.v ⟨r0, ⟨r1, r2, r3⟩, ⟨r4, r5, r6⟩⟩] (Sort.grow (W3.drewN n) os) fun e w' => e = .returned (.bool true) ∧ ∃ q os', w' = Sort.grow ((Sort.grow (W3.drewN n) os).drewN q) os' := fun n os => by
      have g : Gr W3 (Sort.grow (W3.drewN n) os) := ⟨n, os, rfl⟩
      refine (right_any (readT t) ⟨r0, ⟨r1, r2, r3⟩, ⟨r4, r5, r6⟩⟩ _ (ok_right HQR.out) (HS.out.go g.below).held).mono ?_
      rintro e w' ⟨rfl, gr⟩
      rw [HQR.out]
      exact ⟨rfl, gr⟩
    have kM1 : ∀ n os, Calls Tryz.prog 19 #[PC.v ⟨r0, ⟨r1, r2, r3⟩, ⟨r4, r5, r6⟩⟩, .slice pa L pc] (Sort.grow (W3.drewN n) os) fun e w' => e = .returned (.bool q1) ∧ ∃ q os', w' = Sort.grow ((Sort.grow (W3.drewN n) os).drewN q) os' := fun n os => by
      have g : Gr W3 (Sort.grow (W3.drewN n) os) := ⟨n, os, rfl⟩
      have b1 := bstep HS.out.bx.bel g.below
      refine (match_any (readT t) ⟨r0, ⟨r1, r2, r3⟩, ⟨r4, r5, r6⟩⟩ _ l _ (ok_right HQR.out) (HS.out.go g.below).held (HP.out.bel b1) (HTb.out.bel b1) (by have := HL.out; omega)).mono ?_
      rintro e w' ⟨⟨q, rfl, hq⟩, gr⟩
      rw [bool_same (hq.trans hq2) hq1]
      exact ⟨rfl, gr⟩
    have kM2 : ∀ n os, Calls Tryz.prog 19 #[PC.v ⟨xk, ⟨x1, x2, x3⟩, ⟨x4, x5, x6⟩⟩, .slice pa L pc] (Sort.grow (W3.drewN n) os) fun e w' => e = .returned (.bool q1) ∧ ∃ q os', w' = Sort.grow ((Sort.grow (W3.drewN n) os).drewN q) os' := fun n os => by
      have g : Gr W3 (Sort.grow (W3.drewN n) os) := ⟨n, os, rfl⟩
      have b1 := bstep HS.out.bx.bel g.below
      refine (match_any t ⟨xk, ⟨x1, x2, x3⟩, ⟨x4, x5, x6⟩⟩ _ l _ HOk.out (HT.bel b1 HX.out) (HP.out.bel b1) (HTb.out.bel b1) (by have := HL.out; omega)).mono ?_
      rintro e w' ⟨⟨q, rfl, hq⟩, gr⟩
      rw [bool_same hq hq1]
      exact ⟨rfl, gr⟩
    clear hq1 hq2
    have m0 := fun n os => (HS.out.bx.box.grow n os).c 0
    have m1 := fun n os => (HS.out.bx.box.grow n os).c 1
    have m2 := fun n os => (HS.out.bx.box.grow n os).c 2
    have n0 := fun n os => (HS.out.res.grow n os).c 0
    have n1 := fun n os => (HS.out.res.grow n os).c 1
    have n2 := fun n os => (HS.out.res.grow n os).c 2
    simp [encT] at m0 m1 m2 n0 n1 n2
    go_wp2_with fail
    refine wp_region_quiet_grownB (by assumption) (by kernel_rfl) ?_
    repeat (refine wpQuiet_stepB (fun K hK => ?_); go_simp; first | (refine hK _ ?_; clear hK K) | (apply Exists.intro; refine ⟨fun _ => ?_, hK _ ?_⟩; (first | (go_at_call 18; with_reducible refine Calls.grown_of (kR _ _)) | (go_at_call 19; with_reducible refine Calls.grown_of (kM1 _ _)) | (go_at_call 19; with_reducible refine Calls.grown_of (kM2 _ _))); clear hK K))
    refine wpQuiet_nilB ?_
    intro _ hw'
    obtain ⟨⟨nq, osq⟩, hw''⟩ := hw'
    subst hw''
    have HB2 : Hid (Below w.heap.size w (Sort.grow (W3.drewN nq) osq)) := bstep HS.out.bx.bel (Gr.below ⟨nq, osq, rfl⟩)
    generalize Sort.grow (W3.drewN nq) osq = W5 at HB2 ⊢
    clear kR kM1 kM2 m0 m1 m2 n0 n1 n2 HS
    go_wp2_with fail
    go_ret
    exact ⟨by simp, HB2.out⟩

end Go.Proofs.YtjjlkjfhhpogaaaGreatDoor
