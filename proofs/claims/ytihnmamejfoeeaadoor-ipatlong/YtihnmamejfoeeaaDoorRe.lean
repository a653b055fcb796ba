/-
  The walk of the document's ends, of an Alt.
-/
import Derived.Test.YtihnmamejfoeeaaDoorRm
namespace Go.Proofs.YtihnmamejfoeeaaDoor
open Go.RowKit

/-- A row, another one taken in as far as a place. -/
def mixB (os rs : List Bool) (i : Nat) : List Bool := (List.zipWith (fun a b => a || b) (os.take i) (rs.take i)) ++ os.drop i
theorem mixB_zero (os rs : List Bool) : mixB os rs 0 = os := by simp [mixB]
theorem mixB_len {os rs : List Bool} {i : Nat} (h : os.length = rs.length) : (mixB os rs i).length = os.length := by simp [mixB]; omega
theorem mixB_at {os rs : List Bool} {i : Nat} {a : Bool} (h : os.length = rs.length) (ha : os[i]? = some a) : (mixB os rs i)[i]? = some a := by
  have hi := (List.getElem?_eq_some_iff.1 ha).1
  unfold mixB
  have hl : (List.zipWith (fun a b => a || b) (os.take i) (rs.take i)).length = i := by simp; omega
  rw [List.getElem?_append_right (by omega), hl, Nat.sub_self, List.getElem?_drop, Nat.add_zero]
  exact ha
theorem mixB_set {os rs : List Bool} {i : Nat} {a b : Bool} (h : os.length = rs.length) (ha : os[i]? = some a) (hb : rs[i]? = some b) : (mixB os rs i).set i (a || b) = mixB os rs (i + 1) := by
  have hi := (List.getElem?_eq_some_iff.1 ha).1
  unfold mixB
  have hl : (List.zipWith (fun a b => a || b) (os.take i) (rs.take i)).length = i := by simp; omega
  rw [List.set_append_right _ _ (by omega), hl, Nat.sub_self, drop_of ha, List.set_cons_zero, take_succ_of ha, take_succ_of hb, List.zipWith_append (by simp; omega)]
  simp
theorem mixB_on {os rs : List Bool} {n : Nat} (h1 : os.length = n) (h2 : rs.length = n) (j : Nat) : On (mixB os rs n) j ↔ On os j ∨ On rs j := by
  unfold On mixB
  rw [List.drop_eq_nil_of_le (by omega), List.append_nil, List.take_of_length_le (by omega), List.take_of_length_le (by omega), List.getElem?_zipWith]
  cases ha : os[j]? with
  | none =>
    have : os.length ≤ j := List.getElem?_eq_none_iff.1 ha
    have hb : rs[j]? = none := List.getElem?_eq_none_iff.2 (by omega)
    simp [hb]
  | some a =>
    have := (List.getElem?_eq_some_iff.1 ha).1
    obtain ⟨b, hb⟩ : ∃ b, rs[j]? = some b := ⟨_, List.getElem?_eq_getElem (by omega)⟩
    simp [hb]
theorem goesA_r {l : List Int} {subs : List Tree} {k : Nat} {s : Tree} (hs : subs[k]? = some s) {bs os rs ms : List Bool} (ho : ∀ j, On os j ↔ ∃ i n t, n < k ∧ subs[n]? = some t ∧ On bs i ∧ Goes l t i j) (hr : ∀ j, On rs j ↔ ∃ i, On bs i ∧ Goes l s i j) (hm : ∀ j, On ms j ↔ On os j ∨ On rs j) :
    ∀ j, On ms j ↔ ∃ i n t, n < k + 1 ∧ subs[n]? = some t ∧ On bs i ∧ Goes l t i j := by
  intro j
  rw [hm j, ho j, hr j]
  constructor
  · rintro (⟨i, n, t, h1, h2⟩ | ⟨i, h1, h2⟩)
    · exact ⟨i, n, t, by omega, h2⟩
    · exact ⟨i, k, s, by omega, hs, h1, h2⟩
  · rintro ⟨i, n, t, h1, h2, h3, h4⟩
    by_cases c : n < k
    · exact Or.inl ⟨i, n, t, c, h2, h3, h4⟩
    · have : n = k := by omega
      subst this
      rw [hs] at h2
      injection h2 with h2
      subst h2
      exact Or.inr ⟨i, h3, h4⟩

set_option maxRecDepth 100000 in
set_option maxHeartbeats 8000000 in
theorem rends_alt {l : List Int} {pv : Value} {set : List (Int × Int)} {subs : List Tree} (hl : l.length ≤ 255) (hlen : subs.length ≤ 200) (hE : ∀ (n : Nat) (s : Tree), subs[n]? = some s → CR l pv s) : CR l pv (.mk 3 set subs) := by
  intro x w ab bs hx hp hab hbs
  obtain ⟨k, set', subs', rows, sa, sc, ba, bc, he, rfl, hS, hB, hT⟩ := hx.parts
  injection he with e1 e2 e3
  subst e1 e2 e3
  obtain ⟨pa, pc, rfl⟩ := hp.form
  obtain ⟨N, hN⟩ : ∃ N, N = subs.length := ⟨_, rfl⟩
  obtain ⟨S, hSn⟩ : ∃ S, S = set.length := ⟨_, rfl⟩
  obtain ⟨L, hL⟩ : ∃ L, L = l.length := ⟨_, rfl⟩
  have HN : Hid (N = subs.length) := hN
  have HL : Hid (L = l.length) := hL
  have HSn : Hid (S = set.length) := hSn
  have HS : Hid (RowS w (.slice sa S sc) set) := by rw [hSn]; exact hS
  have HB : Hid (RowT w (.slice ba N bc) rows) := by rw [hN]; exact hB
  have HT' : Hid (HTs w subs rows) := hT
  have HP : Hid (RowN w (.slice pa L pc) l) := by rw [hL]; exact hp
  have HA : Hid (Blk w ab (brow bs) 4) := hab
  have HAl : Hid (bs.length = L + 1) := by rw [hL]; exact hbs
  have hll : L ≤ 255 := by omega
  have hab2 : ab < w.heap.size := hab.lt
  have hN2 : N ≤ 200 := by omega
  have kE0 : ∀ (j : Nat) (s : Tree) (r : PC) (W : World) (ob : Nat) (os : List Bool), subs[j]? = some s → HT W s r → RowN W (.slice pa L pc) l → Blk W ob (brow os) 4 → os.length = L + 1 → Calls Tryd.prog 21 #[r.v, .slice pa L pc, .slice (some ⟨ob, 0, none⟩) (L + 1) (L + 1)] W fun e w' => PostE l s os W e w' := fun j s r W ob os hs h1 h2 h3 h4 => by
    rw [hL] at h2 h4 ⊢
    exact hE j s hs r W ob os h1 h2 h3 h4
  have HE : Hid (∀ (j : Nat) (s : Tree) (r : PC) (W : World) (ob : Nat) (os : List Bool), subs[j]? = some s → HT W s r → RowN W (.slice pa L pc) l → Blk W ob (brow os) 4 → os.length = L + 1 → Calls Tryd.prog 21 #[r.v, .slice pa L pc, .slice (some ⟨ob, 0, none⟩) (L + 1) (L + 1)] W fun e w' => ∃ (ob' : Nat) (os' : List Bool), e = .returned (.slice (some ⟨ob', 0, none⟩) (L + 1) (L + 1)) ∧ W.heap.size ≤ ob' ∧ Blk w' ob' (brow os') 4 ∧ os'.length = L + 1 ∧ (∀ j, On os' j ↔ ∃ i, On os i ∧ Goes l s i j) ∧ Gr W w') := fun j s r W ob os hs h1 h2 h3 h4 => by
    have := kE0 j s r W ob os hs h1 h2 h3 h4
    unfold PostE at this
    rw [← hL] at this
    exact this
  clear kE0 hE
  rw [← hN, ← hSn, ← hL]
  have HPo : Hid (PostE l (.mk 3 set subs) bs w = fun e w' => ∃ (ob : Nat) (os : List Bool), e = .returned (.slice (some ⟨ob, 0, none⟩) (L + 1) (L + 1)) ∧ w.heap.size ≤ ob ∧ Blk w' ob (brow os) 4 ∧ os.length = L + 1 ∧ (∀ j, On os j ↔ ∃ i, On bs i ∧ Goes l (.mk 3 set subs) i j) ∧ Gr w w') := by show _ = _; rw [hL]; rfl
  have mk : ∀ W : World, (Instr.makeSlice 58 (.int .i64 ((L : Int) + 1)) (.int .i64 ((L : Int) + 1))).run Tryd.prog W = .ok (.slice (some ⟨W.heap.size, 0, none⟩) (L + 1) (L + 1)) (W.alloc (.cells (brow (List.replicate (L + 1) false)) 4)) := fun W => make4 (L + 1) (by omega) W
  clear hx hp hab hbs hS hB hT hN hSn hL
  go_enter Tryd.func21, Tryd.ntmps21
  go_upto_region 2 with fail
  generalize hW : World.alloc _ _ = W2
  have HI : Hid (EX w ⟨3, ⟨sa, S, sc⟩, ⟨ba, N, bc⟩⟩ (w.heap.size + 1) (List.replicate (L + 1) false) W2) := by
    rw [← hW]
    exact ⟨((Gr.refl _).alloc _).alloc _, (Blk.new _ _ _).alloc _, Blk.new' _ _ _ _ (by simp), by omega⟩
  clear hW mk
  obtain ⟨x0, x1, x2⟩ := BlkT.cs HI.out.box
  simp only at x0 x1 x2
  go_wp2_with fail
  clear x0 x1 x2
  go_loopw [70] (fun vi wr => ∃ (k : Nat) (os : List Bool), k ≤ N ∧ vi = .int .i64 k ∧ Hid (EX w ⟨3, ⟨sa, S, sc⟩, ⟨ba, N, bc⟩⟩ (w.heap.size + 1) os wr) ∧ Hid (os.length = L + 1 ∧ ∀ j, On os j ↔ ∃ i n t, n < k ∧ subs[n]? = some t ∧ On bs i ∧ Goes l t i j)) (fun vi _ => N - (intOf vi).toNat)
  case atStart =>
    refine ⟨0, _, Nat.zero_le _, rfl, HI, by simp, fun j => ?_⟩
    constructor
    · intro h; exact absurd h (on_false _ _)
    · rintro ⟨i, n, t, h, _⟩; omega
  case round =>
    clear HI
    obtain ⟨k, os, hk, rfl, HI, HO⟩ := hrel
    by_cases hlt : k < N
    case neg =>
      have hle : ¬ (k : Int) < N := by omega
      have hkN : k = subs.length := by have := HN.out; omega
      go_wp2_with fail
      go_ret
      rw [HPo.out]
      refine ⟨_, os, rfl, by have := HI.out.hob; omega, HI.out.out, HO.out.1, fun j => ?_, HI.out.gr⟩
      rw [HO.out.2 j]
      constructor
      · rintro ⟨i, n, t, _, h2, h3, h4⟩
        exact ⟨i, h3, (goes_alt _ _ _ _ _).2 ⟨n, t, h2, h4⟩⟩
      · rintro ⟨i, h3, h4⟩
        obtain ⟨n, t, h5, h6⟩ := (goes_alt _ _ _ _ _).1 h4
        have := (List.getElem?_eq_some_iff.1 h5).1
        exact ⟨i, n, t, by omega, h5, h3, h6⟩
    case pos =>
      obtain ⟨s, hs⟩ : ∃ s, subs[k]? = some s := ⟨_, List.getElem?_eq_getElem (by have := HN.out; omega)⟩
      obtain ⟨r, hr, hr2⟩ := HTs.at HT'.out hs
      obtain ⟨rb, ro, rfl, hrb, q0, q1, q2⟩ := RowX.cs3 HB.out hr
      have q0' := (HI.out.bel.cell (by exact hrb)).trans q0
      have q1' := (HI.out.bel.cell (by exact hrb)).trans q1
      have q2' := (HI.out.bel.cell (by exact hrb)).trans q2
      have kE : ∀ W, Below wr.heap.size wr W → Calls Tryd.prog 21 #[r.v, .slice pa L pc, .slice (some ⟨ab, 0, none⟩) (L + 1) (L + 1)] W fun e w' => ∃ (ob' : Nat) (os' : List Bool), e = .returned (.slice (some ⟨ob', 0, none⟩) (L + 1) (L + 1)) ∧ W.heap.size ≤ ob' ∧ Blk w' ob' (brow os') 4 ∧ os'.length = L + 1 ∧ (∀ j, On os' j ↔ ∃ i, On bs i ∧ Goes l s i j) ∧ Gr W w' := fun W g => HE.out k s r W ab bs hs (HT.bel (bstep HI.out.bel g) hr2) (HP.out.bel (bstep HI.out.bel g)) (HA.out.bel (bstep HI.out.bel g)) HAl.out
      have HTk : Hid (∀ rs : List Bool, rs.length = L + 1 → (∀ j, On rs j ↔ ∃ i, On bs i ∧ Goes l s i j) → (mixB os rs (L + 1)).length = L + 1 ∧ ∀ j, On (mixB os rs (L + 1)) j ↔ ∃ i n t, n < k + 1 ∧ subs[n]? = some t ∧ On bs i ∧ Goes l t i j) := fun rs h0 h => ⟨by rw [mixB_len (by rw [HO.out.1, h0]), HO.out.1], goesA_r hs HO.out.2 h (mixB_on HO.out.1 h0)⟩
      have hlt2 : (k : Int) < N := by omega
      obtain ⟨rk, ⟨rsa, rsn, rsc⟩, rba, rbn, rbc⟩ := r
      simp only at q0' q1' q2'
      have HOb : Hid (w.heap.size + 1 < wr.heap.size) := HI.out.out.lt
      clear q0 q1 q2 hr hr2 hs
      go_wp2_with (go_at_call 21; refine (kE _ (bel_alloc _ _)).mono ?_; rintro _ w5 ⟨ob5, os5, rfl, hob5, bl5, len5, on5, bb5⟩; have I5 : Hid (EX w ⟨3, ⟨sa, S, sc⟩, ⟨some ⟨rb, ro, none⟩, N, bc⟩⟩ (w.heap.size + 1) os w5) := (HI.out.go ((Gr.refl _).alloc _)).go bb5; have B5 : Hid (Blk w5 ob5 (brow os5) 4) := bl5; have N5 : Hid (w.heap.size + 1 < ob5) := (by have := HOb.out; have := Nat.le_trans (show wr.heap.size ≤ _ from (bel_alloc wr _).size) hob5; exact (by omega : w.heap.size + 1 < ob5)); have L5 : Hid (os5.length = L + 1) := len5; have O5 : Hid ((mixB os os5 (L + 1)).length = L + 1 ∧ ∀ j, On (mixB os os5 (L + 1)) j ↔ ∃ i n t, n < k + 1 ∧ subs[n]? = some t ∧ On bs i ∧ Goes l t i j) := HTk.out os5 len5 on5; clear hob5 bl5 len5 on5 bb5)
      clear HI q0' q1' q2' kE HTk
      go_loopw [79] (fun vi wq => ∃ (i : Nat), i ≤ L + 1 ∧ vi = .int .i64 i ∧ Hid (EX w ⟨3, ⟨sa, S, sc⟩, ⟨some ⟨rb, ro, none⟩, N, bc⟩⟩ (w.heap.size + 1) (mixB os os5 i) wq ∧ Blk wq ob5 (brow os5) 4)) (fun vi _ => L + 1 - (intOf vi).toNat)
      case atStart => exact ⟨0, Nat.zero_le _, rfl, by rw [mixB_zero]; exact I5.out, B5.out⟩
      case round =>
        clear I5 B5
        obtain ⟨i, hi, rfl, HI⟩ := hrel
        by_cases hlt3 : i < L + 1
        case neg =>
          have hle : ¬ (i : Int) < (L : Int) + 1 := by omega
          have hiL : i = L + 1 := by omega
          rw [hiL] at HI
          clear hiL
          go_wp2_with fail
          go_roundw
          case rel => exact ⟨k + 1, _, by omega, by go_num, HI.out.1, O5⟩
          case measure => simp [intOf]; omega
        case pos =>
          obtain ⟨a, ha⟩ : ∃ a, os[i]? = some a := ⟨_, List.getElem?_eq_getElem (by have := HO.out.1; omega)⟩
          obtain ⟨b, hb⟩ : ∃ b, os5[i]? = some b := ⟨_, List.getElem?_eq_getElem (by have := L5.out; omega)⟩
          have c0 := brow_at HI.out.2 hb
          have o0 := brow_at HI.out.1.out (mixB_at (by rw [HO.out.1, L5.out]) ha)
          have of := HI.out.1.out.frozen
          have hle : (i : Int) < (L : Int) + 1 := by omega
          have HJ : Hid (EX w ⟨3, ⟨sa, S, sc⟩, ⟨some ⟨rb, ro, none⟩, N, bc⟩⟩ (w.heap.size + 1) (mixB os os5 (i + 1)) (wr.setCell ⟨w.heap.size + 1, i, none⟩ (.bool (a || b))) ∧ Blk (wr.setCell ⟨w.heap.size + 1, i, none⟩ (.bool (a || b))) ob5 (brow os5) 4) := by
            have j1 := HI.out.1.set (i := i) (by rw [mixB_len (by rw [HO.out.1, L5.out])]; have := HO.out.1; omega) (a || b)
            rw [mixB_set (by rw [HO.out.1, L5.out]) ha hb] at j1
            exact ⟨j1, HI.out.2.other (by have := N5.out; show ob5 ≠ w.heap.size + 1; omega) _⟩
          clear ha hb
          cases a
          · simp only [Bool.false_or] at HJ
            go_wp2_with fail
            have J6 := HJ.out
            generalize hW6 : World.setCell _ _ _ = W6 at J6 ⊢
            have H6 : Hid (EX w ⟨3, ⟨sa, S, sc⟩, ⟨some ⟨rb, ro, none⟩, N, bc⟩⟩ (w.heap.size + 1) (mixB os os5 (i + 1)) W6 ∧ Blk W6 ob5 (brow os5) 4) := J6
            clear J6 hW6 HJ HI c0 o0 of
            go_wp2_with fail
            go_roundw
            case rel => exact ⟨i + 1, by omega, by go_num, H6⟩
            case measure => simp [intOf]; omega
          · simp only [Bool.true_or] at HJ
            go_wp2_with fail
            have J6 := HJ.out
            generalize hW6 : World.setCell _ _ _ = W6 at J6 ⊢
            have H6 : Hid (EX w ⟨3, ⟨sa, S, sc⟩, ⟨some ⟨rb, ro, none⟩, N, bc⟩⟩ (w.heap.size + 1) (mixB os os5 (i + 1)) W6 ∧ Blk W6 ob5 (brow os5) 4) := J6
            clear J6 hW6 HJ HI c0 o0 of
            go_wp2_with fail
            go_roundw
            case rel => exact ⟨i + 1, by omega, by go_num, H6⟩
            case measure => simp [intOf]; omega

end Go.Proofs.YtihnmamejfoeeaaDoor
