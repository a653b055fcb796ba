/-
  The walks of the document's ends, of any right pattern, and of the document's Match and Takes.
-/
import Derived.Test.YtihnmamejfoeeaaDoorRa
import Derived.Test.YtihnmamejfoeeaaDoorRd
import Derived.Test.YtihnmamejfoeeaaDoorRe
import Derived.Test.YtihnmamejfoeeaaDoorRs
namespace Go.Proofs.YtihnmamejfoeeaaDoor
open Go.RowKit

/-- Of any right pattern. -/
theorem rends_all {l : List Int} {pv : Value} (hl : l.length ≤ 255) (n : Nat) : ∀ t : Tree, size t ≤ n → size t ≤ 200 → kindsT t = true → CR l pv t := by
  induction n with
  | zero => intro t h; have := size_pos t; omega
  | succ n ih =>
    intro t h1 h2 h3
    obtain ⟨k, set, subs⟩ := t
    rw [size_mk] at h1 h2
    rw [kindsT_mk] at h3
    simp only [Bool.and_eq_true] at h3
    have hlen := length_le_sizeL subs
    have hE : ∀ (n : Nat) (s : Tree), subs[n]? = some s → CR l pv s := fun m s hs => ih s (by have := size_le_of_at hs; omega) (by have := size_le_of_at hs; omega) (kindsT_of_at h3.2 hs)
    rcases okAlone_cases h3.1 with ⟨rfl, _, h4⟩ | ⟨rfl, _⟩ | ⟨rfl, _⟩ | ⟨rfl, _, h4⟩
    · exact rends_one hl h4
    · exact rends_cat hl (by omega) hE
    · exact rends_alt hl (by omega) hE
    · obtain ⟨s, rfl⟩ := List.length_eq_one_iff.1 h4
      exact rends_star hl (hE 0 s rfl)

set_option maxRecDepth 100000 in
set_option maxHeartbeats 4000000 in
theorem rmatch_any (t : Tree) (x : PC) (pv : Value) (l : List Int) (w : World) (hz : size t ≤ 200) (hk : kindsT t = true) (hl : l.length ≤ 255) (hx : HT w t x) (hp : RowN w pv l) :
    Calls Tryd.prog 12 #[x.v, pv] w fun e w' => (∃ q : Bool, e = .returned (.bool q) ∧ (q = true ↔ takes t l)) ∧ Gr w w' := by
  have kE0 := rends_all (pv := pv) hl _ t (Nat.le_refl _) hz hk
  have HX : Hid (HT w t x) := hx
  obtain ⟨pa, pc, rfl⟩ := hp.form
  obtain ⟨L, hL⟩ : ∃ L, L = l.length := ⟨_, rfl⟩
  have HL : Hid (L = l.length) := hL
  have HP : Hid (RowN w (.slice pa L pc) l) := by rw [hL]; exact hp
  have hll : L ≤ 255 := by omega
  have kE : ∀ (W : World) (ob : Nat) (os : List Bool), HT W t x → RowN W (.slice pa L pc) l → Blk W ob (brow os) 4 → os.length = L + 1 → Calls Tryd.prog 21 #[x.v, .slice pa L pc, .slice (some ⟨ob, 0, none⟩) (L + 1) (L + 1)] W fun e w' => ∃ (ob' : Nat) (os' : List Bool), e = .returned (.slice (some ⟨ob', 0, none⟩) (L + 1) (L + 1)) ∧ W.heap.size ≤ ob' ∧ Blk w' ob' (brow os') 4 ∧ os'.length = L + 1 ∧ (∀ j, On os' j ↔ ∃ i, On os i ∧ Goes l t i j) ∧ Gr W w' := fun W ob os h1 h2 h3 h4 => by
    rw [hL] at h2 h4
    have := kE0 x W ob os h1 h2 h3 h4
    unfold PostE at this
    rw [← hL] at this
    exact this
  rw [← hL]
  obtain ⟨xk, ⟨x1, x2, x3⟩, x4, x5, x6⟩ := x
  have mk : ∀ W : World, (Instr.makeSlice 58 (.int .i64 ((L : Int) + 1)) (.int .i64 ((L : Int) + 1))).run Tryd.prog W = .ok (.slice (some ⟨W.heap.size, 0, none⟩) (L + 1) (L + 1)) (W.alloc (.cells (brow (List.replicate (L + 1) false)) 4)) := fun W => make4 (L + 1) (by omega) W
  clear kE0 hx hp hL hz hk hl
  go_enter Tryd.func12, Tryd.ntmps12
  go_upto_region 2 with fail
  generalize hW : World.alloc _ _ = W2
  have HI : Hid (EX w ⟨xk, ⟨x1, x2, x3⟩, ⟨x4, x5, x6⟩⟩ (w.heap.size + 1) (List.replicate (L + 1) false) W2) := by
    rw [← hW]
    exact ⟨((Gr.refl _).alloc _).alloc _, (Blk.new _ _ _).alloc _, Blk.new' _ _ _ _ (by simp), by omega⟩
  clear hW mk
  have hz : (List.replicate (L + 1) false)[0]? = some false := by simp
  have o0 := brow_at HI.out.out hz
  have of := HI.out.out.frozen
  have hL1 : (0 : Int) < (L : Int) + 1 := by omega
  have hL2 : (L : Int) < (L : Int) + 1 := by omega
  clear hz
  go_upto_region 3 with fail
  have J3 := HI.out.set (i := 0) (by simp) true
  generalize hW3 : World.setCell _ _ _ = W3 at J3 ⊢
  have H3 : Hid (EX w ⟨xk, ⟨x1, x2, x3⟩, ⟨x4, x5, x6⟩⟩ (w.heap.size + 1) ((List.replicate (L + 1) false).set 0 true) W3) := J3
  clear J3 hW3 HI o0 of
  obtain ⟨x0, x1', x2'⟩ := BlkT.cs H3.out.box
  simp only at x0 x1' x2'
  have kE2 := kE W3 _ _ (HT.bel H3.out.bel HX.out) (HP.out.bel H3.out.bel) H3.out.out (by simp)
  clear kE
  go_wp2_with (go_at_call 21; refine kE2.mono ?_; rintro _ w5 ⟨ob5, os5, rfl, hob5, bl5, len5, on5, g5⟩; obtain ⟨q, hq⟩ : ∃ q, os5[L]? = some q := ⟨_, List.getElem?_eq_getElem (by omega)⟩; have c5 := brow_at bl5 hq; have HQ : Hid (os5[L]? = some q) := hq; have HOn : Hid (∀ j, On os5 j ↔ ∃ i, On ((List.replicate (L + 1) false).set 0 true) i ∧ Goes l t i j) := on5; have G5 : Hid (Gr w w5) := H3.out.gr.trans g5; clear hob5 bl5 len5 on5 g5 hq)
  go_ret
  refine ⟨⟨q, rfl, ?_⟩, G5.out⟩
  have e : q = true ↔ On os5 L := by
    unfold On
    rw [HQ.out]
    simp
  rw [e, HOn.out L, ← goes_whole, ← HL.out]
  constructor
  · rintro ⟨i, h1, h2⟩
    rcases (on_set (by simp) i).1 h1 with h3 | rfl
    · exact absurd h3 (on_false _ _)
    · exact h2
  · intro h
    exact ⟨0, (on_set (by simp) 0).2 (Or.inr rfl), h⟩

end Go.Proofs.YtihnmamejfoeeaaDoor
