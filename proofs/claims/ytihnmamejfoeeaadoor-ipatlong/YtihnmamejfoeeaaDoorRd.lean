/-
  The walk of the document's ends, of a Cat.
-/
import Derived.Test.YtihnmamejfoeeaaDoorRm
namespace Go.Proofs.YtihnmamejfoeeaaDoor
open Go.RowKit

theorem goesR_take {l : List Int} {subs : List Tree} {k : Nat} {s : Tree} (hs : subs[k]? = some s) {bs os rs : List Bool} (ho : ∀ j, On os j ↔ ∃ i, On bs i ∧ GoesC l (subs.take k) i j) (hr : ∀ j, On rs j ↔ ∃ i, On os i ∧ Goes l s i j) : ∀ j, On rs j ↔ ∃ i, On bs i ∧ GoesC l (subs.take (k + 1)) i j := by
  intro j
  rw [hr j, take_succ_of hs]
  constructor
  · rintro ⟨m, h1, h2⟩
    obtain ⟨i, h3, h4⟩ := (ho m).1 h1
    exact ⟨i, h3, (goesC_snoc _ _ _ _ _).2 ⟨m, h4, h2⟩⟩
  · rintro ⟨i, h3, h4⟩
    obtain ⟨m, h5, h6⟩ := (goesC_snoc _ _ _ _ _).1 h4
    exact ⟨m, (ho m).2 ⟨i, h3, h5⟩, h6⟩


set_option maxRecDepth 100000 in
set_option maxHeartbeats 8000000 in
theorem rends_cat {l : List Int} {pv : Value} {set : List (Int × Int)} {subs : List Tree} (hl : l.length ≤ 255) (hlen : subs.length ≤ 200) (hE : ∀ (n : Nat) (s : Tree), subs[n]? = some s → CR l pv s) : CR l pv (.mk 2 set subs) := by
  intro x w ab bs hx hp hab hbs
  obtain ⟨k, set', subs', rows, sa, sc, ba, bc, he, rfl, hS, hB, hT⟩ := hx.parts
  injection he with e1 e2 e3
  subst e1 e2 e3
  obtain ⟨pa, pc, rfl⟩ := hp.form
  obtain ⟨N, hN⟩ : ∃ N, N = subs.length := ⟨_, rfl⟩
  obtain ⟨S, hSn⟩ : ∃ S, S = set.length := ⟨_, rfl⟩
  obtain ⟨L, hL⟩ : ∃ L, L = l.length := ⟨_, rfl⟩
  have HN : Hid (N = subs.length) := hN
  have HL : Hid (L = l.length) := hL
  have HSn : Hid (S = set.length) := hSn
  have HS : Hid (RowS w (.slice sa S sc) set) := by rw [hSn]; exact hS
  have HB : Hid (RowT w (.slice ba N bc) rows) := by rw [hN]; exact hB
  have HT' : Hid (HTs w subs rows) := hT
  have HP : Hid (RowN w (.slice pa L pc) l) := by rw [hL]; exact hp
  have HA : Hid (Blk w ab (brow bs) 4) := hab
  have HAl : Hid (bs.length = L + 1) := by rw [hL]; exact hbs
  have hll : L ≤ 255 := by omega
  have hab2 : ab < w.heap.size := hab.lt
  have hN2 : N ≤ 200 := by omega
  have kE0 : ∀ (j : Nat) (s : Tree) (r : PC) (W : World) (ob : Nat) (os : List Bool), subs[j]? = some s → HT W s r → RowN W (.slice pa L pc) l → Blk W ob (brow os) 4 → os.length = L + 1 → Calls Tryd.prog 21 #[r.v, .slice pa L pc, .slice (some ⟨ob, 0, none⟩) (L + 1) (L + 1)] W fun e w' => PostE l s os W e w' := fun j s r W ob os hs h1 h2 h3 h4 => by
    rw [hL] at h2 h4 ⊢
    exact hE j s hs r W ob os h1 h2 h3 h4
  have HE : Hid (∀ (j : Nat) (s : Tree) (r : PC) (W : World) (ob : Nat) (os : List Bool), subs[j]? = some s → HT W s r → RowN W (.slice pa L pc) l → Blk W ob (brow os) 4 → os.length = L + 1 → Calls Tryd.prog 21 #[r.v, .slice pa L pc, .slice (some ⟨ob, 0, none⟩) (L + 1) (L + 1)] W fun e w' => ∃ (ob' : Nat) (os' : List Bool), e = .returned (.slice (some ⟨ob', 0, none⟩) (L + 1) (L + 1)) ∧ W.heap.size ≤ ob' ∧ Blk w' ob' (brow os') 4 ∧ os'.length = L + 1 ∧ (∀ j, On os' j ↔ ∃ i, On os i ∧ Goes l s i j) ∧ Gr W w') := fun j s r W ob os hs h1 h2 h3 h4 => by
    have := kE0 j s r W ob os hs h1 h2 h3 h4
    unfold PostE at this
    rw [← hL] at this
    exact this
  clear kE0 hE
  rw [← hN, ← hSn, ← hL]
  have HPo : Hid (PostE l (.mk 2 set subs) bs w = fun e w' => ∃ (ob : Nat) (os : List Bool), e = .returned (.slice (some ⟨ob, 0, none⟩) (L + 1) (L + 1)) ∧ w.heap.size ≤ ob ∧ Blk w' ob (brow os) 4 ∧ os.length = L + 1 ∧ (∀ j, On os j ↔ ∃ i, On bs i ∧ Goes l (.mk 2 set subs) i j) ∧ Gr w w') := by show _ = _; rw [hL]; rfl
  have mk : ∀ W : World, (Instr.makeSlice 58 (.int .i64 ((L : Int) + 1)) (.int .i64 ((L : Int) + 1))).run Tryd.prog W = .ok (.slice (some ⟨W.heap.size, 0, none⟩) (L + 1) (L + 1)) (W.alloc (.cells (brow (List.replicate (L + 1) false)) 4)) := fun W => make4 (L + 1) (by omega) W
  clear hx hp hab hbs hS hB hT hN hSn hL
  go_enter Tryd.func21, Tryd.ntmps21
  go_upto_region 2 with fail
  generalize hW : World.alloc _ _ = W2
  have HI : Hid (EX w ⟨2, ⟨sa, S, sc⟩, ⟨ba, N, bc⟩⟩ (w.heap.size + 1) (List.replicate (L + 1) false) W2) := by
    rw [← hW]
    exact ⟨((Gr.refl _).alloc _).alloc _, (Blk.new _ _ _).alloc _, Blk.new' _ _ _ _ (by simp), by omega⟩
  clear hW mk
  obtain ⟨x0, x1, x2⟩ := BlkT.cs HI.out.box
  simp only at x0 x1 x2
  go_wp2_with (refine wp_copyB (by rfl) _ _ (by rfl) (w.heap.size + 1) ab (L + 1) (by rfl) (by rfl) (List.replicate (L + 1) false) bs HI.out.out (HA.out.bel HI.out.bel) (by simp) HAl.out ?_; intro w3 hb3 bb3 dd3; have I3 : Hid (EX w ⟨2, ⟨sa, S, sc⟩, ⟨ba, N, bc⟩⟩ (w.heap.size + 1) bs w3) := HI.out.copied hb3 bb3 dd3; clear hb3 bb3 dd3; obtain ⟨y0, y1, y2⟩ := BlkT.cs I3.out.box)
  clear HI x0 x1 x2
  go_loopw [7, 56] (fun v7 vi wr => ∃ (k ob : Nat) (os : List Bool), k ≤ N ∧ vi = .int .i64 k ∧ v7 = .slice (some ⟨ob, 0, none⟩) (L + 1) (L + 1) ∧ Hid (EX w ⟨2, ⟨sa, S, sc⟩, ⟨ba, N, bc⟩⟩ ob os wr) ∧ Hid (os.length = L + 1 ∧ ∀ j, On os j ↔ ∃ i, On bs i ∧ GoesC l (subs.take k) i j)) (fun _ vi _ => N - (intOf vi).toNat)
  case atStart =>
    refine ⟨0, w.heap.size + 1, bs, Nat.zero_le _, rfl, rfl, I3, HAl.out, fun j => ?_⟩
    rw [List.take_zero]
    constructor
    · intro h
      exact ⟨j, h, (goesC_nil _ _ _).2 ⟨rfl, by have := on_lt h; have := HAl.out; have := HL.out; omega⟩⟩
    · rintro ⟨i, h1, h2⟩
      rw [← ((goesC_nil _ _ _).1 h2).1]
      exact h1
  case round =>
    clear I3
    obtain ⟨k, ob, os, hk, rfl, rfl, HI, HO⟩ := hrel
    by_cases hlt : k < N
    case neg =>
      have hle : ¬ (k : Int) < N := by omega
      have hkN : k = subs.length := by have := HN.out; omega
      go_wp2_with fail
      go_ret
      rw [HPo.out]
      refine ⟨_, os, rfl, by have := HI.out.hob; omega, HI.out.out, HO.out.1, fun j => ?_, HI.out.gr⟩
      rw [HO.out.2 j, hkN, List.take_length]
      constructor
      · rintro ⟨i, h1, h2⟩; exact ⟨i, h1, (goes_cat _ _ _ _ _).2 h2⟩
      · rintro ⟨i, h1, h2⟩; exact ⟨i, h1, (goes_cat _ _ _ _ _).1 h2⟩
    case pos =>
      obtain ⟨s, hs⟩ : ∃ s, subs[k]? = some s := ⟨_, List.getElem?_eq_getElem (by have := HN.out; omega)⟩
      obtain ⟨r, hr, hr2⟩ := HTs.at HT'.out hs
      obtain ⟨rb, ro, rfl, hrb, q0, q1, q2⟩ := RowX.cs3 HB.out hr
      have q0' := (HI.out.bel.cell (by exact hrb)).trans q0
      have q1' := (HI.out.bel.cell (by exact hrb)).trans q1
      have q2' := (HI.out.bel.cell (by exact hrb)).trans q2
      have kE : ∀ W, Below wr.heap.size wr W → Calls Tryd.prog 21 #[r.v, .slice pa L pc, .slice (some ⟨ob, 0, none⟩) (L + 1) (L + 1)] W fun e w' => ∃ (ob' : Nat) (os' : List Bool), e = .returned (.slice (some ⟨ob', 0, none⟩) (L + 1) (L + 1)) ∧ W.heap.size ≤ ob' ∧ Blk w' ob' (brow os') 4 ∧ os'.length = L + 1 ∧ (∀ j, On os' j ↔ ∃ i, On os i ∧ Goes l s i j) ∧ Gr W w' := fun W g => HE.out k s r W ob os hs (HT.bel (bstep HI.out.bel g) hr2) (HP.out.bel (bstep HI.out.bel g)) (HI.out.out.bel g) HO.out.1
      have HTk : Hid (∀ rs : List Bool, (∀ j, On rs j ↔ ∃ i, On os i ∧ Goes l s i j) → ∀ j, On rs j ↔ ∃ i, On bs i ∧ GoesC l (subs.take (k + 1)) i j) := fun rs h => goesR_take hs HO.out.2 h
      have hlt2 : (k : Int) < N := by omega
      obtain ⟨rk, ⟨rsa, rsn, rsc⟩, rba, rbn, rbc⟩ := r
      simp only at q0' q1' q2'
      have HOb : Hid (w.heap.size < wr.heap.size) := HI.out.box.lt
      clear q0 q1 q2 hr hr2 hs HB
      go_wp2_with (go_at_call 21; refine (kE _ (bel_alloc _ _)).mono ?_; rintro _ w5 ⟨ob5, os5, rfl, hob5, bl5, len5, on5, bb5⟩; have I5 : Hid (EX w ⟨2, ⟨sa, S, sc⟩, ⟨some ⟨rb, ro, none⟩, N, bc⟩⟩ ob5 os5 w5) := ⟨HI.out.gr.trans (((Gr.refl _).alloc _).trans bb5), (HI.out.box.alloc _).bel bb5.below, bl5, (by have := HOb.out; have := Nat.le_trans (show wr.heap.size ≤ _ from (bel_alloc wr _).size) hob5; omega)⟩; have O5 : Hid (os5.length = L + 1 ∧ ∀ j, On os5 j ↔ ∃ i, On bs i ∧ GoesC l (subs.take (k + 1)) i j) := ⟨len5, HTk.out os5 on5⟩; clear hob5 bl5 len5 on5 bb5)
      go_roundw
      case rel => exact ⟨k + 1, ob5, os5, by omega, by go_num, rfl, I5, O5⟩
      case measure => simp [intOf]; omega

end Go.Proofs.YtihnmamejfoeeaaDoor
