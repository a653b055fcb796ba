/-
  The walks of Match and Empty.
-/
import Derived.Test.YtihnmamejfoeeaaDoorLd
namespace Go.Proofs.YtihnmamejfoeeaaDoor
open Go.RowKit

/-- A right pattern takes a path that may be. -/
def matchP (t : Tree) (l : List Int) : Prop := rightT t = true ∧ l.length ≤ 255 ∧ takes t l

theorem Fr.toGr {lo hi b : Nat} {w a w' : World} (h : Fr lo hi b a w') (g : Gr w a) (h1 : w.heap.size ≤ lo) (h2 : w.heap.size ≤ b) : Gr w w' :=
  Gr.of ⟨h.os.trans g.below.os, h.tape.trans g.below.tape, h.output.trans g.below.output, Nat.le_trans g.below.size h.size, fun k hk => (h.block k (Nat.lt_of_lt_of_le hk g.below.size) (by omega) (by omega)).trans (g.below.block k hk)⟩ (Nat.le_trans g.drawn h.drawn)

theorem bel_al (w : World) (o : Obj) : Below w.heap.size w (w.alloc o) := (Below.refl _ _).alloc (Nat.le_refl _) o
theorem Tab.gr {w w' : World} (h : Tab w) (g : Gr w w') : Tab w' := h.same (g.below.block 0 h.lt)

set_option maxRecDepth 100000 in
set_option maxHeartbeats 4000000 in
theorem match_any (t : Tree) (x : PC) (pv : Value) (l : List Int) (w : World) (hok : okT t) (hx : HT w t x) (hp : RowN w pv l) (hT : Tab w) (hl : l.length ≤ 4611686018427387903) :
    Calls Tryd.prog 11 #[x.v, pv] w fun e w' => (∃ q : Bool, e = .returned (.bool q) ∧ (q = true ↔ matchP t l)) ∧ Gr w w' := by
  have kr := fun W h => right_any t x W hok h
  have HX : Hid (HT w t x) := hx
  have HP : Hid (RowN w pv l) := hp
  have HTb : Hid (Tab w) := hT
  have HMp : Hid (matchP t l ↔ (rightT t = true ∧ l.length ≤ 255 ∧ takes t l)) := Iff.rfl
  have hw0 : 0 < w.heap.size := hT.lt
  obtain ⟨pa, pc, rfl⟩ := hp.form
  obtain ⟨L, hL⟩ : ∃ L, L = l.length := ⟨_, rfl⟩
  have HL : Hid (L = l.length) := hL
  by_cases c1 : rightT t = true
  · by_cases c2 : l.length ≤ 255
    · obtain ⟨hz, _, hk⟩ := right_parts c1
      have kl := fun W h1 h2 => laid_any (pv := .slice pa l.length pc) c2 _ t x W (Nat.le_refl _) hz hk h1 h2
      have kE := ends_all c2 _ t (Nat.le_refl _) hz hk
      have HMq : Hid (matchP t l ↔ takes t l) := ⟨fun h => h.2.2, fun h => ⟨c1, c2, h⟩⟩
      rw [← hL] at c2 kl HP ⊢
      rw [c1] at kr
      obtain ⟨xk, ⟨x1, x2, x3⟩, x4, x5, x6⟩ := x
      have HBx : Hid (Blk (w.alloc (.cells #[.int .i64 xk, .slice x1 x2 x3, .slice x4 x5 x6] 25)) w.heap.size #[.int .i64 xk, .slice x1 x2 x3, .slice x4 x5 x6] 25) := Blk.new _ _ _
      clear hx hp hT hL c1 hz hk HMp hok hl
      have kE2 := fun W b r lo hi h => kE W b 0 [r] r lo hi (Pl.at 0) h (fun n hn => by rw [Pl.has_at (by omega)] at hn; simp at hn; omega)
      simp only [Nat.zero_mul] at kE2
      clear kE
      have kat := fun W => at_any 0 (by omega) W
      have kh := fun p W => has_any p L (by omega) W
      go_enter Tryd.func11, Tryd.ntmps11
      go_wp2_with (first
        | (go_at_call 9; refine (kr _ (HX.out.gr ((Gr.refl _).alloc _))).mono ?_; rintro _ w2 ⟨rfl, gw⟩; have G2 : Hid (Gr w w2) := ((Gr.refl _).alloc _).trans gw; have B2 : Hid (Blk w2 w.heap.size #[.int .i64 xk, .slice x1 x2 x3, .slice x4 x5 x6] 25) := HBx.out.gr gw; obtain ⟨e0, e1, e2⟩ : w2.cell? ⟨w.heap.size, 0, none⟩ = some (.int .i64 xk) ∧ w2.cell? ⟨w.heap.size, 1, none⟩ = some (.slice x1 x2 x3) ∧ w2.cell? ⟨w.heap.size, 2, none⟩ = some (.slice x4 x5 x6) := ⟨B2.out.c 0, B2.out.c 1, B2.out.c 2⟩; clear gw)
        | (go_at_call 17; refine (kl _ (HX.out.gr G2.out) (HP.out.gr G2.out)).mono ?_; rintro _ w3 ⟨r, rfl, pt, gw⟩; have P3 : Hid (PT w3 l t w2.heap.size w3.heap.size r) := pt; have G3 : Hid (Gr w2 w3) := gw; have St3 : Hid (St l t (w3.alloc (.cells (prow [r]) 53)) w3.heap.size 0 [r] r w2.heap.size w3.heap.size) := ⟨Blk.new _ _ _, rfl, pt.same (fun g _ h2 => (bel_al w3 _).block g h2), gw.below.size, (bel_al w3 _).size, Or.inr (Nat.le_refl _), (HTb.out.gr (G2.out.trans gw)).gr ((Gr.refl _).alloc _), Nat.lt_of_lt_of_le hw0 G2.out.below.size, Nat.lt_of_lt_of_le hw0 (G2.out.trans gw).below.size⟩; clear gw pt)
        | (go_at_call 19; refine (kat _).mono ?_; rintro _ w5 ⟨rfl, g5⟩; have St5 : Hid (St l t w5 w3.heap.size 0 [r] r w2.heap.size w3.heap.size) := St3.out.gr g5; have G5 : Hid (Gr w w5) := ((G2.out.trans G3.out).alloc _).trans g5; clear g5)
        | (go_at_call 18; refine (kE2 _ _ _ _ _ St5.out).mono ?_; rintro _ w6 ⟨r6, x6, rfl, hr6, s6, f6⟩; have HR6 : Hid (∀ j, r6.has j = true ↔ ∃ i, (Pl.at 0).has i = true ∧ Goes l t i j) := hr6; have G6 : Hid (Gr w w6) := f6.toGr G5.out G2.out.below.size (G2.out.trans G3.out).below.size; clear hr6 s6 f6)
        | (go_at_call 20; refine (kh r6 _).mono ?_; rintro _ w7 ⟨rfl, g7⟩; have G7 : Hid (Gr w w7) := G6.out.trans g7; clear g7))
      go_ret
      refine ⟨⟨_, rfl, ?_⟩, G7.out⟩
      rw [HMq.out, HR6.out L, ← goes_whole, ← HL.out]
      constructor
      · rintro ⟨i, h1, h2⟩
        rw [Pl.has_at (by omega)] at h1
        simp at h1
        subst h1
        exact h2
      · intro h
        exact ⟨0, by rw [Pl.has_at (by omega)]; simp, h⟩
    · have hq : ¬ matchP t l := fun h => c2 h.2.1
      have HQ : Hid (¬ matchP t l) := hq
      rw [← hL] at c2 hl ⊢
      rw [c1] at kr
      obtain ⟨xk, ⟨x1, x2, x3⟩, x4, x5, x6⟩ := x
      have c3 : (255 : Int) < L := by omega
      clear hx hp hT hL c1 HMp hok hq
      go_enter Tryd.func11, Tryd.ntmps11
      go_wp2_with (first
        | (go_at_call 9; refine (kr _ (HX.out.gr ((Gr.refl _).alloc _))).mono ?_; rintro _ w2 ⟨rfl, gw⟩; have G2 : Hid (Gr w w2) := ((Gr.refl _).alloc _).trans gw; clear gw))
      go_ret
      exact ⟨⟨false, rfl, by simp; exact HQ.out⟩, G2.out⟩
  · have HQ : Hid (¬ matchP t l) := fun h => c1 h.1
    have c4 : rightT t = false := by simpa using c1
    rw [c4] at kr
    obtain ⟨xk, ⟨x1, x2, x3⟩, x4, x5, x6⟩ := x
    clear hx hp hT hL c1 HMp hok c4
    go_enter Tryd.func11, Tryd.ntmps11
    go_wp2_with (first
      | (go_at_call 9; refine (kr _ (HX.out.gr ((Gr.refl _).alloc _))).mono ?_; rintro _ w2 ⟨rfl, gw⟩; have G2 : Hid (Gr w w2) := ((Gr.refl _).alloc _).trans gw; clear gw))
    go_ret
    exact ⟨⟨false, rfl, by simp; exact HQ.out⟩, G2.out⟩

end Go.Proofs.YtihnmamejfoeeaaDoor
