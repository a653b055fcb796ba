/-
  The walk of PatStars.
-/
import Derived.Test.YtjjlkjfhhpogaaaDoorLs
namespace Go.Proofs.YtjjlkjfhhpogaaaDoor
open Go.RowKit

/-- A law's world: nothing old has turned, the pattern lies in its box, the Star of it in another one. -/
structure SX (w : World) (x : PC) (b5 bs : Nat) (W : World) : Prop where
  bel : Below w.heap.size w W
  box : Blk W w.heap.size (encT x).toArray 25
  sub : Blk W bs (encT x).toArray 25
  star : Blk W b5 (encT ⟨4, ⟨none, 0, 0⟩, ⟨some ⟨bs, 0, none⟩, 1, 1⟩⟩).toArray 25
theorem SX.go {w : World} {x : PC} {b5 bs : Nat} {W W' : World} (h : SX w x b5 bs W) (g : Below W.heap.size W W') : SX w x b5 bs W' := ⟨bstep h.bel g, h.box.bel g, h.sub.bel g, h.star.bel g⟩
theorem SX.ht {w : World} {x : PC} {b5 bs : Nat} {W : World} (h : SX w x b5 bs W) {t : Tree} (hx : HT w t x) : HT W (starT t) ⟨4, ⟨none, 0, 0⟩, ⟨some ⟨bs, 0, none⟩, 1, 1⟩⟩ := HT_sub1 (HT.bel h.bel hx) h.sub (by simp [cellsOf])

/-- A bool tells whether. -/
def Tells (q : Bool) (p : Prop) : Prop := q = true ↔ p

theorem step_cut {t : Tree} {l : List Int} {i : Nat} {c c' q1 q2 : Bool} (h : Tells c (l = [] ∨ ∃ j, 1 ≤ j ∧ j < i ∧ matchP t (l.take j) ∧ matchP (starT t) (l.drop j))) (hc : c' = (c || (q1 && q2))) (h1 : Tells q1 (matchP t (l.take i))) (h2 : Tells q2 (matchP (starT t) (l.drop i))) (hi : 1 ≤ i) :
    Tells c' (l = [] ∨ ∃ j, 1 ≤ j ∧ j < i + 1 ∧ matchP t (l.take j) ∧ matchP (starT t) (l.drop j)) := by
  unfold Tells at h h1 h2 ⊢
  rw [hc]
  simp only [Bool.or_eq_true, Bool.and_eq_true]
  rw [h, h1, h2]
  constructor
  · rintro ((h | ⟨j, a, b, c⟩) | h)
    · exact Or.inl h
    · exact Or.inr ⟨j, a, by omega, c⟩
    · exact Or.inr ⟨i, hi, by omega, h⟩
  · rintro (h | ⟨j, a, b, c⟩)
    · exact Or.inl (Or.inl h)
    · by_cases e : j = i
      · subst e
        exact Or.inr c
      · exact Or.inl (Or.inr ⟨j, a, by omega, c⟩)

set_option maxHeartbeats 8000000 in
theorem law_stars (t : Tree) (x : PC) (pv : Value) (l : List Int) (w : World) (hok : okT t) (hx : HT w t x) (hp : RowN w pv l) (hcap : ∀ ao n c, pv = .slice ao n c → n ≤ c) (hl : l.length ≤ 4611686018427387903) (hT : Tab w) :
    Calls Tryd.prog 7 #[x.v, pv] w fun e w' => e = .returned (.bool true) ∧ Below w.heap.size w w' := by
  have kal := fun W h => alive_any W h
  have kg := fun W h => great_any t x W hok h
  have kr := fun y W h => right_any (starT t) y W (okT_star hok) h
  have HX : Hid (HT w t x) := hx
  have HTb : Hid (Tab w) := hT
  obtain ⟨pa, pc, rfl⟩ := hp.form
  have HP : Hid (RowN w (.slice pa l.length pc) l) := hp
  have hcp := hcap _ _ _ rfl
  obtain ⟨L, hL⟩ : ∃ L, L = l.length := ⟨_, rfl⟩
  have HL : Hid (L = l.length) := hL
  rw [← hL] at HP hcp hl ⊢
  obtain ⟨xk, ⟨x1, x2, x3⟩, x4, x5, x6⟩ := x
  have HOk : Hid (okT t) := hok
  clear hx hT hp hcap hL hok
  go_enter Tryd.func7, Tryd.ntmps7
  go_upto_region 1 with fail
  generalize hW : World.alloc _ _ = W
  have HI : Hid (BX w ⟨xk, ⟨x1, x2, x3⟩, ⟨x4, x5, x6⟩⟩ W) := by
    rw [← hW]
    exact ⟨(Below.refl _ _).alloc (Nat.le_refl _) _, Blk.new _ _ _⟩
  clear hW
  go_upto_region 4 with (first
    | (go_at_call 14; refine (kal _ (HTb.out.bel HI.out.bel)).mono ?_; rintro _ w2 ⟨rfl, gw⟩; have I2 : Hid (BX w ⟨xk, ⟨x1, x2, x3⟩, ⟨x4, x5, x6⟩⟩ w2) := HI.out.go gw; clear gw; obtain ⟨e0, e1, e2⟩ := BlkT.cs I2.out.box))
  generalize hW3 : World.alloc _ _ = W3
  have HS : Hid (SX w ⟨xk, ⟨x1, x2, x3⟩, ⟨x4, x5, x6⟩⟩ (w2.heap.size + 1) w2.heap.size W3) := by
    rw [← hW3]
    exact ⟨bstep (bstep I2.out.bel (bel_alloc _ _)) (bel_alloc _ _), (I2.out.box.alloc _).alloc _, (Blk.new _ _ _).alloc _, Blk.new' _ _ _ _ (by simp)⟩
  clear hW3 HI I2 e0 e1 e2 kal
  obtain ⟨e0, e1, e2⟩ := BlkT.cs HS.out.box
  simp only at e0 e1 e2
  have hmx : Tryd.prog.follows .mixedOrders = true := by kernel_rfl
  by_cases c1 : 3000 < size t
  · have kg2 : ∀ W, HT W t ⟨xk, ⟨x1, x2, x3⟩, ⟨x4, x5, x6⟩⟩ → Calls Tryd.prog 15 #[PC.v ⟨xk, ⟨x1, x2, x3⟩, ⟨x4, x5, x6⟩⟩] W fun e w' => e = .returned (.bool true) ∧ Gr W w' := fun W h => by have := kg W h; simpa [c1] using this
    clear kg
    go_wp2_with (go_at_call 15; refine (kg2 _ (HT.bel HS.out.bel HX.out)).mono ?_; rintro _ w3 ⟨rfl, gw⟩; have S3 : Hid (SX w ⟨xk, ⟨x1, x2, x3⟩, ⟨x4, x5, x6⟩⟩ (w2.heap.size + 1) w2.heap.size w3) := HS.out.go gw.below; clear gw)
    go_ret
    exact ⟨rfl, S3.out.bel⟩
  have kg2 : ∀ W, HT W t ⟨xk, ⟨x1, x2, x3⟩, ⟨x4, x5, x6⟩⟩ → Calls Tryd.prog 15 #[PC.v ⟨xk, ⟨x1, x2, x3⟩, ⟨x4, x5, x6⟩⟩] W fun e w' => e = .returned (.bool false) ∧ Gr W w' := fun W h => by have := kg W h; simpa [c1] using this
  clear kg c1
  by_cases c2 : L ≤ 30
  case neg =>
    have c3 : (30 : Int) < L := by omega
    go_wp2_with (go_at_call 15; refine (kg2 _ (HT.bel HS.out.bel HX.out)).mono ?_; rintro _ w3 ⟨rfl, gw⟩; have S3 : Hid (SX w ⟨xk, ⟨x1, x2, x3⟩, ⟨x4, x5, x6⟩⟩ (w2.heap.size + 1) w2.heap.size w3) := HS.out.go gw.below; clear gw)
    go_ret
    exact ⟨rfl, S3.out.bel⟩
  have c3 : decide ((30 : Int) < L) = false := by simp; omega
  cases c4 : rightT (starT t) with
  | false =>
    rw [c4] at kr
    clear c4
    go_wp2_with (first
      | (go_at_call 15; refine (kg2 _ (HT.bel HS.out.bel HX.out)).mono ?_; rintro _ w3 ⟨rfl, gw⟩; have S3 : Hid (SX w ⟨xk, ⟨x1, x2, x3⟩, ⟨x4, x5, x6⟩⟩ (w2.heap.size + 1) w2.heap.size w3) := HS.out.go gw.below; clear gw; obtain ⟨f0, f1, f2⟩ := BlkT.cs S3.out.star)
      | (go_at_call 17; refine (kr ⟨4, ⟨none, 0, 0⟩, ⟨some ⟨w2.heap.size, 0, none⟩, 1, 1⟩⟩ _ (S3.out.ht HX.out)).mono ?_; rintro _ w4 ⟨rfl, gw⟩; have S4 : Hid (SX w ⟨xk, ⟨x1, x2, x3⟩, ⟨x4, x5, x6⟩⟩ (w2.heap.size + 1) w2.heap.size w4) := S3.out.go gw.below; clear gw))
    go_ret
    exact ⟨rfl, S4.out.bel⟩
  | true =>
    rw [c4] at kr
    have HR : Hid (rightT (starT t) = true) := c4
    clear c4
    go_wp2_with (first
      | (go_at_call 15; refine (kg2 _ (HT.bel HS.out.bel HX.out)).mono ?_; rintro _ w3 ⟨rfl, gw⟩; have S3 : Hid (SX w ⟨xk, ⟨x1, x2, x3⟩, ⟨x4, x5, x6⟩⟩ (w2.heap.size + 1) w2.heap.size w3) := HS.out.go gw.below; clear gw; obtain ⟨f0, f1, f2⟩ := BlkT.cs S3.out.star)
      | (go_at_call 17; refine (kr ⟨4, ⟨none, 0, 0⟩, ⟨some ⟨w2.heap.size, 0, none⟩, 1, 1⟩⟩ _ (S3.out.ht HX.out)).mono ?_; rintro _ w4 ⟨rfl, gw⟩; have S4 : Hid (SX w ⟨xk, ⟨x1, x2, x3⟩, ⟨x4, x5, x6⟩⟩ (w2.heap.size + 1) w2.heap.size w4) := S3.out.go gw.below; clear gw))
    clear kr kg2 e0 e1 e2 f0 f1 f2 S3 HS
    go_loopw [6, 7] (fun vc vi wr => ∃ (i : Nat) (c : Bool), 1 ≤ i ∧ i ≤ L + 1 ∧ vi = .int .i64 i ∧ vc = .bool c ∧ Hid (SX w ⟨xk, ⟨x1, x2, x3⟩, ⟨x4, x5, x6⟩⟩ (w2.heap.size + 1) w2.heap.size wr) ∧ Tells c (l = [] ∨ ∃ j, 1 ≤ j ∧ j < i ∧ matchP t (l.take j) ∧ matchP (starT t) (l.drop j))) (fun _ vi _ => L + 1 - (intOf vi).toNat)
    case atStart =>
      refine ⟨1, _, by omega, by omega, rfl, rfl, S4, ?_⟩
      have hl0 : l = [] ↔ L = 0 := by rw [HL.out]; exact List.length_eq_zero_iff.symm
      unfold Tells
      rw [hl0]
      constructor
      · intro h
        simp at h
        exact Or.inl h
      · rintro (h | ⟨j, h1, h2, _⟩)
        · simp [h]
        · omega
    case round =>
      clear S4
      obtain ⟨i, c, hi1, hi2, rfl, rfl, HS, HC⟩ := hrel
      by_cases hlt : i ≤ L
      case neg =>
        have hiL : i = L + 1 := by omega
        have hle : ¬ (i : Int) ≤ L := by omega
        have kE := fun W h1 h2 => empty_any (starT t) ⟨4, ⟨none, 0, 0⟩, ⟨some ⟨w2.heap.size, 0, none⟩, 1, 1⟩⟩ W (okT_star HOk.out) h1 h2
        have kM := fun W h1 h2 h3 => match_any (starT t) ⟨4, ⟨none, 0, 0⟩, ⟨some ⟨w2.heap.size, 0, none⟩, 1, 1⟩⟩ (.slice pa L pc) l W (okT_star HOk.out) h1 h2 h3 (by have := HL.out; omega)
        have HEm : Hid (matchP (starT t) []) := by
          refine ⟨HR.out, by simp, ?_⟩
          rw [starT, takes_star]
          exact .nil
        have HAll : Hid (c = true ↔ matchP (starT t) l) := by
          show _ ↔ _
          rw [show (c = true ↔ _) from HC, star_cut HR.out (by have := HL.out; omega)]
          constructor
          · rintro (h | ⟨j, a, b, c⟩)
            · exact Or.inl h
            · exact Or.inr ⟨j, a, by have := HL.out; omega, c⟩
          · rintro (h | ⟨j, a, b, c⟩)
            · exact Or.inl h
            · exact Or.inr ⟨j, a, by have := HL.out; omega, c⟩
        obtain ⟨s0, s1, s2⟩ := BlkT.cs HS.out.star
        clear hiL HC
        go_wp2_with (first
          | (go_at_call 21; refine (kE _ (HS.out.ht HX.out) (HTb.out.bel HS.out.bel)).mono ?_; rintro _ w5 ⟨⟨q, rfl, hq⟩, gw⟩; have hqt : q = true := hq.2 HEm.out; subst hqt; clear hq; have S5 : Hid (SX w ⟨xk, ⟨x1, x2, x3⟩, ⟨x4, x5, x6⟩⟩ (w2.heap.size + 1) w2.heap.size w5) := HS.out.go gw.below; clear gw; obtain ⟨f0, f1, f2⟩ := BlkT.cs S5.out.star)
          | (go_at_call 19; refine (kM _ (S5.out.ht HX.out) (HP.out.bel S5.out.bel) (HTb.out.bel S5.out.bel)).mono ?_; rintro _ w6 ⟨⟨q, rfl, hq⟩, gw⟩; have hqc : q = c := bool_same hq HAll.out; subst hqc; clear hq; have S6 : Hid (SX w ⟨xk, ⟨x1, x2, x3⟩, ⟨x4, x5, x6⟩⟩ (w2.heap.size + 1) w2.heap.size w6) := S5.out.go gw.below; clear gw))
        go_ret
        exact ⟨by simp, S6.out.bel⟩
      case pos =>
        obtain ⟨v0, hv0⟩ : ∃ v, l[0]? = some v := ⟨_, List.getElem?_eq_getElem (by have := HL.out; omega)⟩
        obtain ⟨b, off, rfl, _, _⟩ := RowX.cs1 HP.out hv0
        clear hv0
        obtain ⟨q1, hq1⟩ := bool_of (matchP t (l.take i))
        obtain ⟨q2, hq2⟩ := bool_of (matchP (starT t) (l.drop i))
        have kM1 : ∀ n os, Calls Tryd.prog 19 #[PC.v ⟨xk, ⟨x1, x2, x3⟩, ⟨x4, x5, x6⟩⟩, .slice (some ⟨b, off, none⟩) i pc] (Sort.grow (wr.drewN n) os) fun e w' => e = .returned (.bool q1) ∧ ∃ q os', w' = Sort.grow ((Sort.grow (wr.drewN n) os).drewN q) os' := fun n os => by
          have g : Gr wr (Sort.grow (wr.drewN n) os) := ⟨n, os, rfl⟩
          have b1 := bstep HS.out.bel g.below
          refine (match_any t ⟨xk, ⟨x1, x2, x3⟩, ⟨x4, x5, x6⟩⟩ _ (l.take i) _ HOk.out (HT.bel b1 HX.out) (row_front (HP.out.bel b1) i (by have := HL.out; omega) pc (fun e => by cases e)) (HTb.out.bel b1) (by simp; omega)).mono ?_
          rintro e w' ⟨⟨q, rfl, hq⟩, gr⟩
          rw [bool_same hq hq1]
          exact ⟨rfl, gr⟩
        have kM2 : ∀ n os, Calls Tryd.prog 19 #[PC.v ⟨4, ⟨none, 0, 0⟩, ⟨some ⟨w2.heap.size, 0, none⟩, 1, 1⟩⟩, .slice (if pc = i then some ⟨b, off, none⟩ else some ⟨b, off + i, none⟩) (L - i) (pc - i)] (Sort.grow (wr.drewN n) os) fun e w' => e = .returned (.bool q2) ∧ ∃ q os', w' = Sort.grow ((Sort.grow (wr.drewN n) os).drewN q) os' := fun n os => by
          have g : Gr wr (Sort.grow (wr.drewN n) os) := ⟨n, os, rfl⟩
          have b1 := bstep HS.out.bel g.below
          refine (match_any (starT t) ⟨4, ⟨none, 0, 0⟩, ⟨some ⟨w2.heap.size, 0, none⟩, 1, 1⟩⟩ _ (l.drop i) _ (okT_star HOk.out) ((HS.out.go g.below).ht HX.out) (row_back2 (HP.out.bel b1) i (L - i) (by rw [HL.out]) pc (by have := HL.out; omega)) (HTb.out.bel b1) (by simp; have := HL.out; omega)).mono ?_
          rintro e w' ⟨⟨q, rfl, hq⟩, gr⟩
          rw [bool_same hq hq2]
          exact ⟨rfl, gr⟩
        have HQ1 : Tells q1 (matchP t (l.take i)) := hq1
        have HQ2 : Tells q2 (matchP (starT t) (l.drop i)) := hq2
        clear hq1 hq2
        have m0 := fun n os => (HS.out.box.grow n os).c 0
        have m1 := fun n os => (HS.out.box.grow n os).c 1
        have m2 := fun n os => (HS.out.box.grow n os).c 2
        have s0 := fun n os => (HS.out.star.grow n os).c 0
        have s1 := fun n os => (HS.out.star.grow n os).c 1
        have s2 := fun n os => (HS.out.star.grow n os).c 2
        simp [encT] at m0 m1 m2 s0 s1 s2
        have i0 : (0 : Int) ≤ i := by omega
        have i1 : (i : Int) ≤ L := by omega
        have i2 : (i : Int) ≤ pc := by omega
        have i3 : (L : Int) ≤ pc := by omega
        cases c
        · cases q1
          · go_wp2_with fail
            refine wp_region_quiet_grownB (by assumption) (by kernel_rfl) ?_
            repeat (refine wpQuiet_stepB (fun K hK => ?_); go_simp; first | (refine hK _ ?_; clear hK K) | (apply Exists.intro; refine ⟨fun _ => ?_, hK _ ?_⟩; (first | (go_at_call 19; with_reducible refine Calls.grown_of (kM1 _ _)) | (go_at_call 19; with_reducible refine Calls.grown_of (kM2 _ _))); clear hK K))
            refine wpQuiet_nilB ?_
            intro _ hw'
            obtain ⟨⟨nq, osq⟩, hw''⟩ := hw'
            subst hw''
            have HS2 : Hid (SX w ⟨xk, ⟨x1, x2, x3⟩, ⟨x4, x5, x6⟩⟩ (w2.heap.size + 1) w2.heap.size (Sort.grow (wr.drewN nq) osq)) := HS.out.go (Gr.below ⟨nq, osq, rfl⟩)
            generalize Sort.grow (wr.drewN nq) osq = W5 at HS2 ⊢
            clear kM1 kM2 m0 m1 m2 s0 s1 s2 HS
            go_wp2_with fail
            go_roundw
            case rel => exact ⟨i + 1, false, by omega, by omega, by go_num, rfl, HS2, step_cut HC (by simp) HQ1 HQ2 hi1⟩
            case measure => simp [intOf]; omega
          · go_wp2_with fail
            refine wp_region_quiet_grownB (by assumption) (by kernel_rfl) ?_
            repeat (refine wpQuiet_stepB (fun K hK => ?_); go_simp; first | (refine hK _ ?_; clear hK K) | (apply Exists.intro; refine ⟨fun _ => ?_, hK _ ?_⟩; (first | (go_at_call 19; with_reducible refine Calls.grown_of (kM1 _ _)) | (go_at_call 19; with_reducible refine Calls.grown_of (kM2 _ _))); clear hK K))
            refine wpQuiet_nilB ?_
            intro _ hw'
            obtain ⟨⟨nq, osq⟩, hw''⟩ := hw'
            subst hw''
            have HS2 : Hid (SX w ⟨xk, ⟨x1, x2, x3⟩, ⟨x4, x5, x6⟩⟩ (w2.heap.size + 1) w2.heap.size (Sort.grow (wr.drewN nq) osq)) := HS.out.go (Gr.below ⟨nq, osq, rfl⟩)
            generalize Sort.grow (wr.drewN nq) osq = W5 at HS2 ⊢
            clear kM1 kM2 m0 m1 m2 s0 s1 s2 HS
            go_wp2_with fail
            go_roundw
            case rel => exact ⟨i + 1, q2, by omega, by omega, by go_num, rfl, HS2, step_cut HC (by simp) HQ1 HQ2 hi1⟩
            case measure => simp [intOf]; omega
        · go_wp2_with fail
          refine wp_region_quiet_grownB (by assumption) (by kernel_rfl) ?_
          repeat (refine wpQuiet_stepB (fun K hK => ?_); go_simp; first | (refine hK _ ?_; clear hK K) | (apply Exists.intro; refine ⟨fun _ => ?_, hK _ ?_⟩; (first | (go_at_call 19; with_reducible refine Calls.grown_of (kM1 _ _)) | (go_at_call 19; with_reducible refine Calls.grown_of (kM2 _ _))); clear hK K))
          refine wpQuiet_nilB ?_
          intro _ hw'
          obtain ⟨⟨nq, osq⟩, hw''⟩ := hw'
          subst hw''
          have HS2 : Hid (SX w ⟨xk, ⟨x1, x2, x3⟩, ⟨x4, x5, x6⟩⟩ (w2.heap.size + 1) w2.heap.size (Sort.grow (wr.drewN nq) osq)) := HS.out.go (Gr.below ⟨nq, osq, rfl⟩)
          generalize Sort.grow (wr.drewN nq) osq = W5 at HS2 ⊢
          clear kM1 kM2 m0 m1 m2 s0 s1 s2 HS
          go_wp2_with fail
          go_roundw
          case rel => exact ⟨i + 1, true, by omega, by omega, by go_num, rfl, HS2, step_cut HC (by simp) HQ1 HQ2 hi1⟩
          case measure => simp [intOf]; omega

end Go.Proofs.YtjjlkjfhhpogaaaDoor
