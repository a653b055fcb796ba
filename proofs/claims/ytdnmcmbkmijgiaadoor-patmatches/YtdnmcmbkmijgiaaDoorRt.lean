/-
  The walks of the document's ends, of any right pattern, and of the document's Match and Takes.
-/
import Derived.Test.YtdnmcmbkmijgiaaDoorRa
import Derived.Test.YtdnmcmbkmijgiaaDoorRd
import Derived.Test.YtdnmcmbkmijgiaaDoorRe
import Derived.Test.YtdnmcmbkmijgiaaDoorRs
namespace Go.Proofs.YtdnmcmbkmijgiaaDoor
open Go.RowKit

/-- Of any right pattern. -/
theorem rends_all {l : List Int} {pv : Value} (hl : l.length ≤ 255) (n : Nat) : ∀ t : Tree, size t ≤ n → size t ≤ 200 → kindsT t = true → CR l pv t := by
  induction n with
  | zero => intro t h; have := size_pos t; omega
  | succ n ih =>
    intro t h1 h2 h3
    obtain ⟨k, set, subs⟩ := t
    rw [size_mk] at h1 h2
    rw [kindsT_mk] at h3
    simp only [Bool.and_eq_true] at h3
    have hlen := length_le_sizeL subs
    have hE : ∀ (n : Nat) (s : Tree), subs[n]? = some s → CR l pv s := fun m s hs => ih s (by have := size_le_of_at hs; omega) (by have := size_le_of_at hs; omega) (kindsT_of_at h3.2 hs)
    rcases okAlone_cases h3.1 with ⟨rfl, _, h4⟩ | ⟨rfl, _⟩ | ⟨rfl, _⟩ | ⟨rfl, _, h4⟩
    · exact rends_one hl h4
    · exact rends_cat hl (by omega) hE
    · exact rends_alt hl (by omega) hE
    · obtain ⟨s, rfl⟩ := List.length_eq_one_iff.1 h4
      exact rends_star hl (hE 0 s rfl)

set_option maxRecDepth 100000 in
set_option maxHeartbeats 4000000 in
theorem rmatch_any (t : Tree) (x : PC) (pv : Value) (l : List Int) (w : World) (hz : size t ≤ 200) (hk : kindsT t = true) (hl : l.length ≤ 255) (hx : HT w t x) (hp : RowN w pv l) :
    Calls Tryd.prog 32 #[x.v, pv] w fun e w' => (∃ q : Bool, e = .returned (.bool q) ∧ (q = true ↔ takes t l)) ∧ Gr w w' := by
  have kE0 := rends_all (pv := pv) hl _ t (Nat.le_refl _) hz hk
  have HX : Hid (HT w t x) := hx
  obtain ⟨pa, pc, rfl⟩ := hp.form
  obtain ⟨L, hL⟩ : ∃ L, L = l.length := ⟨_, rfl⟩
  have HL : Hid (L = l.length) := hL
  have HP : Hid (RowN w (.slice pa L pc) l) := by rw [hL]; exact hp
  have hll : L ≤ 255 := by omega
  have kE : ∀ (W : World) (ob : Nat) (os : List Bool), HT W t x → RowN W (.slice pa L pc) l → Blk W ob (brow os) 4 → os.length = L + 1 → Calls Tryd.prog 41 #[x.v, .slice pa L pc, .slice (some ⟨ob, 0, none⟩) (L + 1) (L + 1)] W fun e w' => ∃ (ob' : Nat) (os' : List Bool), e = .returned (.slice (some ⟨ob', 0, none⟩) (L + 1) (L + 1)) ∧ W.heap.size ≤ ob' ∧ Blk w' ob' (brow os') 4 ∧ os'.length = L + 1 ∧ (∀ j, On os' j ↔ ∃ i, On os i ∧ Goes l t i j) ∧ Gr W w' := fun W ob os h1 h2 h3 h4 => by
    rw [hL] at h2 h4
    have := kE0 x W ob os h1 h2 h3 h4
    unfold PostE at this
    rw [← hL] at this
    exact this
  rw [← hL]
  obtain ⟨xk, ⟨x1, x2, x3⟩, x4, x5, x6⟩ := x
  have mk : ∀ W : World, (Instr.makeSlice 65 (.int .i64 ((L : Int) + 1)) (.int .i64 ((L : Int) + 1))).run Tryd.prog W = .ok (.slice (some ⟨W.heap.size, 0, none⟩) (L + 1) (L + 1)) (W.alloc (.cells (brow (List.replicate (L + 1) false)) 4)) := fun W => make4 (L + 1) (by omega) W
  clear kE0 hx hp hL hz hk hl
  go_enter Tryd.func32, Tryd.ntmps32
  go_upto_region 2 with fail
  generalize hW : World.alloc _ _ = W2
  have HI : Hid (EX w ⟨xk, ⟨x1, x2, x3⟩, ⟨x4, x5, x6⟩⟩ (w.heap.size + 1) (List.replicate (L + 1) false) W2) := by
    rw [← hW]
    exact ⟨((Gr.refl _).alloc _).alloc _, (Blk.new _ _ _).alloc _, Blk.new' _ _ _ _ (by simp), by omega⟩
  clear hW mk
  have hz : (List.replicate (L + 1) false)[0]? = some false := by simp
  have o0 := brow_at HI.out.out hz
  have of := HI.out.out.frozen
  have hL1 : (0 : Int) < (L : Int) + 1 := by omega
  have hL2 : (L : Int) < (L : Int) + 1 := by omega
  clear hz
  go_upto_region 3 with fail
  have J3 := HI.out.set (i := 0) (by simp) true
  generalize hW3 : World.setCell _ _ _ = W3 at J3 ⊢
  have H3 : Hid (EX w ⟨xk, ⟨x1, x2, x3⟩, ⟨x4, x5, x6⟩⟩ (w.heap.size + 1) ((List.replicate (L + 1) false).set 0 true) W3) := J3
  clear J3 hW3 HI o0 of
  obtain ⟨x0, x1', x2'⟩ := BlkT.cs H3.out.box
  simp only at x0 x1' x2'
  have kE2 := kE W3 _ _ (HT.bel H3.out.bel HX.out) (HP.out.bel H3.out.bel) H3.out.out (by simp)
  clear kE
  go_wp2_with (go_at_call 41; refine kE2.mono ?_; rintro _ w5 ⟨ob5, os5, rfl, hob5, bl5, len5, on5, g5⟩; obtain ⟨q, hq⟩ : ∃ q, os5[L]? = some q := ⟨_, List.getElem?_eq_getElem (by omega)⟩; have c5 := brow_at bl5 hq; have HQ : Hid (os5[L]? = some q) := hq; have HOn : Hid (∀ j, On os5 j ↔ ∃ i, On ((List.replicate (L + 1) false).set 0 true) i ∧ Goes l t i j) := on5; have G5 : Hid (Gr w w5) := H3.out.gr.trans g5; clear hob5 bl5 len5 on5 g5 hq)
  go_ret
  refine ⟨⟨q, rfl, ?_⟩, G5.out⟩
  have e : q = true ↔ On os5 L := by
    unfold On
    rw [HQ.out]
    simp
  rw [e, HOn.out L, ← goes_whole, ← HL.out]
  constructor
  · rintro ⟨i, h1, h2⟩
    rcases (on_set (by simp) i).1 h1 with h3 | rfl
    · exact absurd h3 (on_false _ _)
    · exact h2
  · intro h
    exact ⟨0, (on_set (by simp) 0).2 (Or.inr rfl), h⟩

set_option maxHeartbeats 4000000 in
theorem rtakes_any (t : Tree) (x : PC) (pv : Value) (l : List Int) (w : World) (hok : okT t) (hx : HT w t x) (hp : RowN w pv l) (hl : l.length ≤ 4611686018427387903) :
    Calls Tryd.prog 15 #[x.v, pv] w fun e w' => (∃ q : Bool, e = .returned (.bool q) ∧ (q = true ↔ matchP t l)) ∧ Gr w w' := by
  have kr := fun W h => rright_any t x W hok h
  have HX : Hid (HT w t x) := hx
  have HMp : Hid (matchP t l ↔ (rightT t = true ∧ l.length ≤ 255 ∧ takes t l)) := Iff.rfl
  obtain ⟨pa, pc, rfl⟩ := hp.form
  obtain ⟨L, hL⟩ : ∃ L, L = l.length := ⟨_, rfl⟩
  have HL : Hid (L = l.length) := hL
  have HP : Hid (RowN w (.slice pa L pc) l) := by rw [hL]; exact hp
  by_cases c1 : rightT t = true
  · rw [c1] at kr
    by_cases c2 : l.length ≤ 255
    · obtain ⟨hz, _, hk⟩ := right_parts c1
      have km := fun W h1 h2 => rmatch_any t x (.slice pa l.length pc) l W hz hk c2 h1 h2
      have HMq : Hid (matchP t l ↔ takes t l) := ⟨fun h => h.2.2, fun h => ⟨c1, c2, h⟩⟩
      rw [← hL] at c2 km ⊢
      obtain ⟨xk, ⟨x1, x2, x3⟩, x4, x5, x6⟩ := x
      have HBx : Hid (Blk (w.alloc (.cells #[.int .i64 xk, .slice x1 x2 x3, .slice x4 x5 x6] 25)) w.heap.size #[.int .i64 xk, .slice x1 x2 x3, .slice x4 x5 x6] 25) := Blk.new _ _ _
      have c3 : decide ((L : Int) ≤ 255) = true := by simp; omega
      clear hx hp hL c1 hz hk HMp hok hl
      go_enter Tryd.func15, Tryd.ntmps15
      go_wp2_with (first
        | (go_at_call 13; refine (kr _ (HX.out.gr ((Gr.refl _).alloc _))).mono ?_; rintro _ w2 ⟨rfl, gw⟩; have G2 : Hid (Gr w w2) := ((Gr.refl _).alloc _).trans gw; have B2 : Hid (Blk w2 w.heap.size #[.int .i64 xk, .slice x1 x2 x3, .slice x4 x5 x6] 25) := HBx.out.gr gw; obtain ⟨e0, e1, e2⟩ : w2.cell? ⟨w.heap.size, 0, none⟩ = some (.int .i64 xk) ∧ w2.cell? ⟨w.heap.size, 1, none⟩ = some (.slice x1 x2 x3) ∧ w2.cell? ⟨w.heap.size, 2, none⟩ = some (.slice x4 x5 x6) := ⟨B2.out.c 0, B2.out.c 1, B2.out.c 2⟩; clear gw)
        | (go_at_call 32; refine (km _ (HX.out.gr G2.out) (HP.out.gr G2.out)).mono ?_; rintro _ w3 ⟨⟨q, rfl, hq⟩, gw⟩; have G3 : Hid (Gr w w3) := G2.out.trans gw; have HQ : Hid (q = true ↔ takes t l) := hq; clear gw hq))
      go_ret
      exact ⟨⟨q, rfl, HQ.out.trans HMq.out.symm⟩, G3.out⟩
    · have HQ : Hid (¬ matchP t l) := fun h => c2 h.2.1
      rw [← hL] at c2 hl ⊢
      obtain ⟨xk, ⟨x1, x2, x3⟩, x4, x5, x6⟩ := x
      have c3 : decide ((L : Int) ≤ 255) = false := by simp; omega
      clear hx hp hL c1 HMp hok c2
      go_enter Tryd.func15, Tryd.ntmps15
      go_wp2_with (go_at_call 13; refine (kr _ (HX.out.gr ((Gr.refl _).alloc _))).mono ?_; rintro _ w2 ⟨rfl, gw⟩; have G2 : Hid (Gr w w2) := ((Gr.refl _).alloc _).trans gw; clear gw)
      go_ret
      exact ⟨⟨false, rfl, by simp; exact HQ.out⟩, G2.out⟩
  · have HQ : Hid (¬ matchP t l) := fun h => c1 h.1
    have c4 : rightT t = false := by simpa using c1
    rw [c4] at kr
    rw [← hL]
    obtain ⟨xk, ⟨x1, x2, x3⟩, x4, x5, x6⟩ := x
    clear hx hp hL c1 HMp hok c4
    go_enter Tryd.func15, Tryd.ntmps15
    go_wp2_with (go_at_call 13; refine (kr _ (HX.out.gr ((Gr.refl _).alloc _))).mono ?_; rintro _ w2 ⟨rfl, gw⟩; have G2 : Hid (Gr w w2) := ((Gr.refl _).alloc _).trans gw; clear gw)
    go_ret
    exact ⟨⟨false, rfl, by simp; exact HQ.out⟩, G2.out⟩

end Go.Proofs.YtdnmcmbkmijgiaaDoor
