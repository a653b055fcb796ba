/-
  The walk of the document's ends, of a Star.
-/
import Derived.Test.YtihnmamejfoeeaaDoorRm
import Derived.Deep.LoopGhost
namespace Go.Proofs.YtihnmamejfoeeaaDoor
open Go.RowKit

/-- How many places are off. -/
def offs (bs : List Bool) : Nat := bs.countP fun b => !b
theorem offs_set : ∀ {bs : List Bool} {i : Nat}, bs[i]? = some false → offs (bs.set i true) + 1 = offs bs
  | [], _, h => by simp at h
  | a :: bs, 0, h => by simp at h; subst h; simp [offs]
  | a :: bs, i + 1, h => by
    have := offs_set (bs := bs) (i := i) (by simpa using h)
    unfold offs at this ⊢
    rw [List.set_cons_succ, List.countP_cons, List.countP_cons]
    omega
def bit (b : Bool) : Nat := if b = true then 1 else 0

/-- The Star between its rounds. -/
structure StarG (l : List Int) (s : Tree) (bs os : List Bool) (more : Bool) : Prop where
  len : os.length = bs.length
  low : ∀ j, On bs j → On os j
  high : ∀ j, On os j → ∃ i, On bs i ∧ Chain (Goes l s) i j
  shut : more = false → ∀ i j, On os i → Goes l s i j → On os j
/-- The Star's answer, one round's ends taken in as far as a place. -/
structure StarR (os rs ms : List Bool) (i : Nat) (more : Bool) : Prop where
  len : ms.length = os.length
  on : ∀ j, On ms j ↔ On os j ∨ (j < i ∧ On rs j)
  le : offs ms ≤ offs os
  less : more = true → offs ms < offs os
  same : more = false → ∀ j, j < i → On rs j → On os j

theorem StarG.start (l : List Int) (s : Tree) (bs : List Bool) : StarG l s bs bs true := ⟨rfl, fun _ h => h, fun j h => ⟨j, h, .refl j⟩, fun h => by cases h⟩
theorem StarR.start (os rs : List Bool) : StarR os rs os 0 false := ⟨rfl, fun j => by simp, Nat.le_refl _, (fun h => by cases h), (fun _ j h _ => by omega)⟩
theorem StarR.off {os rs ms : List Bool} {i : Nat} {m : Bool} (h : StarR os rs ms i m) (hr : rs[i]? = some false) : StarR os rs ms (i + 1) m := by
  have no := off_of hr
  refine ⟨h.len, fun j => ?_, h.le, h.less, fun e j hj hj2 => ?_⟩
  · rw [h.on j]
    constructor
    · rintro (h1 | ⟨h1, h2⟩)
      · exact Or.inl h1
      · exact Or.inr ⟨by omega, h2⟩
    · rintro (h1 | ⟨h1, h2⟩)
      · exact Or.inl h1
      · by_cases c : j = i
        · subst c; exact absurd h2 no
        · exact Or.inr ⟨by omega, h2⟩
  · by_cases c : j = i
    · subst c; exact absurd hj2 no
    · exact h.same e j (by omega) hj2
theorem StarR.old {os rs ms : List Bool} {i : Nat} {m : Bool} (h : StarR os rs ms i m) (hm : ms[i]? = some true) : StarR os rs ms (i + 1) m := by
  have hon : On os i := by
    rcases (h.on i).1 hm with h1 | ⟨h1, _⟩
    · exact h1
    · omega
  refine ⟨h.len, fun j => ?_, h.le, h.less, fun e j hj hj2 => ?_⟩
  · rw [h.on j]
    constructor
    · rintro (h1 | ⟨h1, h2⟩)
      · exact Or.inl h1
      · exact Or.inr ⟨by omega, h2⟩
    · rintro (h1 | ⟨h1, h2⟩)
      · exact Or.inl h1
      · by_cases c : j = i
        · subst c; exact Or.inl hon
        · exact Or.inr ⟨by omega, h2⟩
  · by_cases c : j = i
    · subst c; exact hon
    · exact h.same e j (by omega) hj2
theorem StarR.new {os rs ms : List Bool} {i : Nat} {m : Bool} (h : StarR os rs ms i m) (hr : rs[i]? = some true) (hm : ms[i]? = some false) : StarR os rs (ms.set i true) (i + 1) true := by
  have hi := (List.getElem?_eq_some_iff.1 hm).1
  have ho := offs_set hm
  have hl := h.le
  refine ⟨by rw [List.length_set, h.len], fun j => ?_, by omega, fun _ => by omega, fun e => by cases e⟩
  rw [on_set hi, h.on j]
  constructor
  · rintro ((h1 | ⟨h1, h2⟩) | rfl)
    · exact Or.inl h1
    · exact Or.inr ⟨by omega, h2⟩
    · exact Or.inr ⟨by omega, hr⟩
  · rintro (h1 | ⟨h1, h2⟩)
    · exact Or.inl (Or.inl h1)
    · by_cases c : j = i
      · exact Or.inr c
      · exact Or.inl (Or.inr ⟨by omega, h2⟩)
theorem StarG.next {l : List Int} {s : Tree} {bs os rs ms : List Bool} {more m : Bool} {n : Nat} (h : StarG l s bs os more) (hr : ∀ j, On rs j ↔ ∃ i, On os i ∧ Goes l s i j) (hn : rs.length = n) (hR : StarR os rs ms n m) : StarG l s bs ms m := by
  refine ⟨by rw [hR.len, h.len], fun j hj => (hR.on j).2 (Or.inl (h.low j hj)), fun j hj => ?_, fun e i j hi hg => ?_⟩
  · rcases (hR.on j).1 hj with h1 | ⟨_, h1⟩
    · exact h.high j h1
    · obtain ⟨i, h2, h3⟩ := (hr j).1 h1
      obtain ⟨i0, h4, h5⟩ := h.high i h2
      exact ⟨i0, h4, h5.snoc h3⟩
  · have hi2 : On os i := by
      rcases (hR.on i).1 hi with h1 | ⟨h1, h2⟩
      · exact h1
      · exact hR.same e i h1 h2
    have hj : On rs j := (hr j).2 ⟨i, hi2, hg⟩
    exact (hR.on j).2 (Or.inr ⟨by have := on_lt hj; omega, hj⟩)
theorem StarG.end_ {l : List Int} {s : Tree} {set : List (Int × Int)} {bs os : List Bool} (h : StarG l s bs os false) (hb : bs.length = l.length + 1) : ∀ j, On os j ↔ ∃ i, On bs i ∧ Goes l (.mk 4 set [s]) i j := by
  have hc : ∀ i j, Chain (Goes l s) i j → On os i → On os j := by
    intro i j c
    induction c with
    | refl i => exact id
    | step h1 _ ih => exact fun h2 => ih (h.shut rfl _ _ h2 h1)
  intro j
  constructor
  · intro hj
    obtain ⟨i, h1, h2⟩ := h.high j hj
    exact ⟨i, h1, (goes_star _ _ _ _ _).2 ⟨by have := on_lt h1; omega, h2⟩⟩
  · rintro ⟨i, h1, h2⟩
    exact hc i j ((goes_star _ _ _ _ _).1 h2).2 (h.low i h1)

set_option maxRecDepth 100000 in
set_option maxHeartbeats 8000000 in
theorem rends_star {l : List Int} {pv : Value} {set : List (Int × Int)} {s : Tree} (hl : l.length ≤ 255) (hE : CR l pv s) : CR l pv (.mk 4 set [s]) := by
  intro x w ab bs hx hp hab hbs
  obtain ⟨k, set', subs', rows, sa, sc, ba, bc, he, rfl, hS, hB, hT⟩ := hx.parts
  injection he with e1 e2 e3
  subst e1 e2 e3
  obtain ⟨pa, pc, rfl⟩ := hp.form
  obtain ⟨S, hSn⟩ : ∃ S, S = set.length := ⟨_, rfl⟩
  obtain ⟨L, hL⟩ : ∃ L, L = l.length := ⟨_, rfl⟩
  have HL : Hid (L = l.length) := hL
  have HSn : Hid (S = set.length) := hSn
  have HP : Hid (RowN w (.slice pa L pc) l) := by rw [hL]; exact hp
  have HA : Hid (Blk w ab (brow bs) 4) := hab
  have HAl : Hid (bs.length = L + 1) := by rw [hL]; exact hbs
  have hll : L ≤ 255 := by omega
  have hab2 : ab < w.heap.size := hab.lt
  have kE0 : ∀ (r : PC) (W : World) (ob : Nat) (os : List Bool), HT W s r → RowN W (.slice pa L pc) l → Blk W ob (brow os) 4 → os.length = L + 1 → Calls Tryd.prog 21 #[r.v, .slice pa L pc, .slice (some ⟨ob, 0, none⟩) (L + 1) (L + 1)] W fun e w' => PostE l s os W e w' := fun r W ob os h1 h2 h3 h4 => by
    rw [hL] at h2 h4 ⊢
    exact hE r W ob os h1 h2 h3 h4
  have HE : Hid (∀ (r : PC) (W : World) (ob : Nat) (os : List Bool), HT W s r → RowN W (.slice pa L pc) l → Blk W ob (brow os) 4 → os.length = L + 1 → Calls Tryd.prog 21 #[r.v, .slice pa L pc, .slice (some ⟨ob, 0, none⟩) (L + 1) (L + 1)] W fun e w' => ∃ (ob' : Nat) (os' : List Bool), e = .returned (.slice (some ⟨ob', 0, none⟩) (L + 1) (L + 1)) ∧ W.heap.size ≤ ob' ∧ Blk w' ob' (brow os') 4 ∧ os'.length = L + 1 ∧ (∀ j, On os' j ↔ ∃ i, On os i ∧ Goes l s i j) ∧ Gr W w') := fun r W ob os h1 h2 h3 h4 => by
    have := kE0 r W ob os h1 h2 h3 h4
    unfold PostE at this
    rw [← hL] at this
    exact this
  clear kE0 hE
  rw [← hSn, ← hL]
  have HPo : Hid (PostE l (.mk 4 set [s]) bs w = fun e w' => ∃ (ob : Nat) (os : List Bool), e = .returned (.slice (some ⟨ob, 0, none⟩) (L + 1) (L + 1)) ∧ w.heap.size ≤ ob ∧ Blk w' ob (brow os) 4 ∧ os.length = L + 1 ∧ (∀ j, On os j ↔ ∃ i, On bs i ∧ Goes l (.mk 4 set [s]) i j) ∧ Gr w w') := by show _ = _; rw [hL]; rfl
  have mk : ∀ W : World, (Instr.makeSlice 58 (.int .i64 ((L : Int) + 1)) (.int .i64 ((L : Int) + 1))).run Tryd.prog W = .ok (.slice (some ⟨W.heap.size, 0, none⟩) (L + 1) (L + 1)) (W.alloc (.cells (brow (List.replicate (L + 1) false)) 4)) := fun W => make4 (L + 1) (by omega) W
  obtain ⟨r, hr, hr2⟩ := HTs.at hT (i := 0) (t := s) rfl
  obtain ⟨rb, ro, rfl, hrb, q0, q1, q2⟩ := RowX.cs3 hB hr
  have HR : Hid (HT w s r) := hr2
  obtain ⟨rk, ⟨rsa, rsn, rsc⟩, rba, rbn, rbc⟩ := r
  simp only [Nat.zero_mul, Nat.add_zero] at q0 q1 q2
  simp only [List.length_singleton]
  clear hx hp hab hbs hS hB hT hSn hL hr hr2
  go_enter Tryd.func21, Tryd.ntmps21
  go_upto_region 2 with fail
  generalize hW : World.alloc _ _ = W2
  have HI : Hid (EX w ⟨4, ⟨sa, S, sc⟩, ⟨some ⟨rb, ro, none⟩, 1, bc⟩⟩ (w.heap.size + 1) (List.replicate (L + 1) false) W2) := by
    rw [← hW]
    exact ⟨((Gr.refl _).alloc _).alloc _, (Blk.new _ _ _).alloc _, Blk.new' _ _ _ _ (by simp), by omega⟩
  clear hW mk
  obtain ⟨x0, x1, x2⟩ := BlkT.cs HI.out.box
  simp only at x0 x1 x2
  go_wp2_with (refine wp_copyB (by rfl) _ _ (by rfl) (w.heap.size + 1) ab (L + 1) (by rfl) (by rfl) (List.replicate (L + 1) false) bs HI.out.out (HA.out.bel HI.out.bel) (by simp) HAl.out ?_; intro w3 hb3 bb3 dd3; have I3 : Hid (EX w ⟨4, ⟨sa, S, sc⟩, ⟨some ⟨rb, ro, none⟩, 1, bc⟩⟩ (w.heap.size + 1) bs w3) := HI.out.copied hb3 bb3 dd3; clear hb3 bb3 dd3)
  clear HI x0 x1 x2
  go_loopg [16] (2 * offs bs + 1) (fun g v16 wr => ∃ (os : List Bool) (more : Bool), 2 * offs os + bit more ≤ g ∧ v16 = .bool more ∧ Hid (EX w ⟨4, ⟨sa, S, sc⟩, ⟨some ⟨rb, ro, none⟩, 1, bc⟩⟩ (w.heap.size + 1) os wr) ∧ StarG l s bs os more)
  case atStart => exact ⟨bs, true, by simp [bit], rfl, I3, StarG.start _ _ _⟩
  case round =>
    clear I3
    obtain ⟨os, more, hg, rfl, HI, HG⟩ := hrel
    cases more
    case false =>
      go_wp2_with fail
      go_ret
      rw [HPo.out]
      exact ⟨_, os, rfl, by omega, HI.out.out, by rw [HG.len, HAl.out], HG.end_ (by rw [HAl.out, HL.out]), HI.out.gr⟩
    case true =>
      have q0' := (HI.out.bel.cell (by exact hrb)).trans q0
      have q1' := (HI.out.bel.cell (by exact hrb)).trans q1
      have q2' := (HI.out.bel.cell (by exact hrb)).trans q2
      obtain ⟨x0, x1, x2⟩ := BlkT.cs HI.out.box
      simp only at x0 x1 x2
      have HLe : os.length = L + 1 := by rw [HG.len, HAl.out]
      have kE := fun W g => HE.out ⟨rk, ⟨rsa, rsn, rsc⟩, ⟨rba, rbn, rbc⟩⟩ W (w.heap.size + 1) os (HT.bel (bstep HI.out.bel g) HR.out) (HP.out.bel (bstep HI.out.bel g)) (HI.out.out.bel g) HLe
      have h2 : 2 * offs os + 1 ≤ gk := hg
      have HGg : Hid (2 * offs os + 1 ≤ gk) := h2
      have HOl : Hid (os.length = L + 1) := HLe
      clear hg HLe h2
      go_wp2_with (go_at_call 21; refine (kE _ (Below.refl _ _)).mono ?_; rintro _ w5 ⟨ob5, os5, rfl, hob5, bl5, len5, on5, bb5⟩; have I5 : Hid (EX w ⟨4, ⟨sa, S, sc⟩, ⟨some ⟨rb, ro, none⟩, 1, bc⟩⟩ (w.heap.size + 1) os w5) := HI.out.go bb5; have B5 : Hid (Blk w5 ob5 (brow os5) 4) := bl5; have N5 : Hid (w.heap.size + 1 < ob5) := (by have := HI.out.out.lt; exact (by omega : w.heap.size + 1 < ob5)); have L5 : Hid (os5.length = L + 1) := len5; have O5 : Hid (∀ j, On os5 j ↔ ∃ i, On os i ∧ Goes l s i j) := on5; clear hob5 bl5 len5 on5 bb5)
      clear HI q0' q1' q2' x0 x1 x2 kE
      go_loopw [16, 110] (fun v16 vi wq => ∃ (i : Nat) (ms : List Bool) (m : Bool), i ≤ L + 1 ∧ vi = .int .i64 i ∧ v16 = .bool m ∧ Hid (EX w ⟨4, ⟨sa, S, sc⟩, ⟨some ⟨rb, ro, none⟩, 1, bc⟩⟩ (w.heap.size + 1) ms wq ∧ Blk wq ob5 (brow os5) 4) ∧ StarR os os5 ms i m) (fun _ vi _ => L + 1 - (intOf vi).toNat)
      case atStart => exact ⟨0, os, false, Nat.zero_le _, rfl, rfl, ⟨I5.out, B5.out⟩, StarR.start _ _⟩
      case round =>
        clear I5 B5
        obtain ⟨i, ms, m, hi, rfl, rfl, HI, HM⟩ := hrel
        by_cases hlt : i < L + 1
        case neg =>
          have hle : ¬ (i : Int) < (L : Int) + 1 := by omega
          have hiL : i = L + 1 := by omega
          rw [hiL] at HM
          have HN : StarG l s bs ms m := HG.next O5.out L5.out HM
          have HLt : Hid (2 * offs ms + bit m < 2 * offs os + 1) := by
            have h1 := HM.le
            cases m
            · show 2 * offs ms + 0 < _; omega
            · have := HM.less rfl; show 2 * offs ms + 1 < _; omega
          clear hiL HM HG
          go_wp2_with fail
          go_roundg (2 * offs ms + bit m)
          case measure => have := HLt.out; have := HGg.out; omega
          case rel => exact ⟨ms, m, Nat.le_refl _, rfl, HI.out.1, HN⟩
        case pos =>
          have hml : ms.length = L + 1 := by rw [HM.len, HOl.out]
          obtain ⟨a, ha⟩ : ∃ a, ms[i]? = some a := ⟨_, List.getElem?_eq_getElem (by omega)⟩
          obtain ⟨b, hb⟩ : ∃ b, os5[i]? = some b := ⟨_, List.getElem?_eq_getElem (by have := L5.out; omega)⟩
          have c0 := brow_at HI.out.2 hb
          have o0 := brow_at HI.out.1.out ha
          have of := HI.out.1.out.frozen
          have hle : (i : Int) < (L : Int) + 1 := by omega
          cases b
          · have HM2 := HM.off hb
            clear HM ha hb hml
            go_wp2_with fail
            go_roundw
            case rel => exact ⟨i + 1, ms, m, by omega, by go_num, rfl, HI, HM2⟩
            case measure => simp [intOf]; omega
          · cases a
            · have HM2 := HM.new hb ha
              have HJ : Hid (EX w ⟨4, ⟨sa, S, sc⟩, ⟨some ⟨rb, ro, none⟩, 1, bc⟩⟩ (w.heap.size + 1) (ms.set i true) (wr.setCell ⟨w.heap.size + 1, i, none⟩ (.bool true)) ∧ Blk (wr.setCell ⟨w.heap.size + 1, i, none⟩ (.bool true)) ob5 (brow os5) 4) :=
                ⟨HI.out.1.set (by omega) true, HI.out.2.other (by have := N5.out; show ob5 ≠ w.heap.size + 1; omega) _⟩
              clear HM ha hb hml
              go_wp2_with fail
              have J6 := HJ.out
              generalize hW6 : World.setCell _ _ _ = W6 at J6 ⊢
              have H6 : Hid (EX w ⟨4, ⟨sa, S, sc⟩, ⟨some ⟨rb, ro, none⟩, 1, bc⟩⟩ (w.heap.size + 1) (ms.set i true) W6 ∧ Blk W6 ob5 (brow os5) 4) := J6
              clear J6 hW6 HJ HI c0 o0 of
              go_wp2_with fail
              go_roundw
              case rel => exact ⟨i + 1, _, true, by omega, by go_num, rfl, H6, HM2⟩
              case measure => simp [intOf]; omega
            · have HM2 := HM.old ha
              clear HM ha hb hml
              go_wp2_with fail
              go_roundw
              case rel => exact ⟨i + 1, ms, m, by omega, by go_num, rfl, HI, HM2⟩
              case measure => simp [intOf]; omega

end Go.Proofs.YtihnmamejfoeeaaDoor
