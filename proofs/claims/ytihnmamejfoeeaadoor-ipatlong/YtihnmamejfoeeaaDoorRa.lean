/-
  The walk of the document's ends, of a One.
-/
import Derived.Test.YtihnmamejfoeeaaDoorRm
namespace Go.Proofs.YtihnmamejfoeeaaDoor
open Go.RowKit


set_option maxRecDepth 100000 in
set_option maxHeartbeats 8000000 in
theorem rends_one {l : List Int} {pv : Value} {set : List (Int × Int)} {subs : List Tree} (hl : l.length ≤ 255) (hset : set.length ≤ 256) : CR l pv (.mk 1 set subs) := by
  intro x w ab bs hx hp hab hbs
  obtain ⟨k, set', subs', rows, sa, sc, ba, bc, he, rfl, hS, hB, hT⟩ := hx.parts
  injection he with e1 e2 e3
  subst e1 e2 e3
  obtain ⟨pa, pc, rfl⟩ := hp.form
  obtain ⟨N, hN⟩ : ∃ N, N = subs.length := ⟨_, rfl⟩
  obtain ⟨S, hSn⟩ : ∃ S, S = set.length := ⟨_, rfl⟩
  obtain ⟨L, hL⟩ : ∃ L, L = l.length := ⟨_, rfl⟩
  have HN : Hid (N = subs.length) := hN
  have HL : Hid (L = l.length) := hL
  have HSn : Hid (S = set.length) := hSn
  have HS : Hid (RowS w (.slice sa S sc) set) := by rw [hSn]; exact hS
  have HB : Hid (RowT w (.slice ba N bc) rows) := by rw [hN]; exact hB
  have HT' : Hid (HTs w subs rows) := hT
  have HP : Hid (RowN w (.slice pa L pc) l) := by rw [hL]; exact hp
  have HA : Hid (Blk w ab (brow bs) 4) := hab
  have HAl : Hid (bs.length = L + 1) := by rw [hL]; exact hbs
  have hll : L ≤ 255 := by omega
  have hab2 : ab < w.heap.size := hab.lt
  rw [← hN, ← hSn, ← hL]
  have HPo : Hid (PostE l (.mk 1 set subs) bs w = fun e w' => ∃ (ob : Nat) (os : List Bool), e = .returned (.slice (some ⟨ob, 0, none⟩) (L + 1) (L + 1)) ∧ w.heap.size ≤ ob ∧ Blk w' ob (brow os) 4 ∧ os.length = L + 1 ∧ (∀ j, On os j ↔ ∃ i, On bs i ∧ Goes l (.mk 1 set subs) i j) ∧ Gr w w') := by show _ = _; rw [hL]; rfl
  have mk : ∀ W : World, (Instr.makeSlice 58 (.int .i64 ((L : Int) + 1)) (.int .i64 ((L : Int) + 1))).run Tryd.prog W = .ok (.slice (some ⟨W.heap.size, 0, none⟩) (L + 1) (L + 1)) (W.alloc (.cells (brow (List.replicate (L + 1) false)) 4)) := fun W => make4 (L + 1) (by omega) W
  clear hx hp hab hbs hS hB hT hN hSn hL
  go_enter Tryd.func21, Tryd.ntmps21
  go_upto_region 2 with fail
  generalize hW : World.alloc _ _ = W2
  have HI : Hid (EX w ⟨1, ⟨sa, S, sc⟩, ⟨ba, N, bc⟩⟩ (w.heap.size + 1) (List.replicate (L + 1) false) W2) := by
    rw [← hW]
    exact ⟨((Gr.refl _).alloc _).alloc _, (Blk.new _ _ _).alloc _, Blk.new' _ _ _ _ (by simp), by omega⟩
  clear hW mk
  obtain ⟨x0, x1, x2⟩ := BlkT.cs HI.out.box
  simp only at x0 x1 x2
  have kin : ∀ W n, Below w.heap.size w W → Calls Tryd.prog 38 #[.slice sa S sc, .int .u32 n] W fun e w' => e = .returned (.bool (inSet set n)) ∧ Gr W w' := fun W n g => rin_any _ set n W (by omega) (HS.out.bel g)
  go_wp2_with fail
  clear x0 x1 x2
  go_loopw [28] (fun vi wr => ∃ (k : Nat) (os : List Bool), k ≤ L ∧ vi = .int .i64 k ∧ Hid (EX w ⟨1, ⟨sa, S, sc⟩, ⟨ba, N, bc⟩⟩ (w.heap.size + 1) os wr) ∧ Hid (os.length = L + 1 ∧ ∀ j, On os j ↔ ∃ i, i < k ∧ On bs i ∧ ∃ n, l[i]? = some n ∧ inSet set n = true ∧ j = i + 1)) (fun vi _ => L - (intOf vi).toNat)
  case atStart =>
    refine ⟨0, _, Nat.zero_le _, rfl, HI, by simp, fun j => ?_⟩
    constructor
    · intro h; exact absurd h (on_false _ _)
    · rintro ⟨i, h, _⟩; omega
  case round =>
    clear HI
    obtain ⟨k, os, hk, rfl, HI, HO⟩ := hrel
    by_cases hlt : k < L
    case neg =>
      have hle : ¬ (k : Int) < L := by omega
      go_wp2_with fail
      go_ret
      rw [HPo.out]
      refine ⟨_, os, rfl, by omega, HI.out.out, HO.out.1, fun j => ?_, HI.out.gr⟩
      rw [HO.out.2 j]
      constructor
      · rintro ⟨i, _, h1, n, h2, h3, rfl⟩
        exact ⟨i, h1, (goes_one _ _ _ _ _).2 ⟨rfl, n, h2, h3⟩⟩
      · rintro ⟨i, h1, h2⟩
        obtain ⟨rfl, n, h3, h4⟩ := (goes_one _ _ _ _ _).1 h2
        have := (List.getElem?_eq_some_iff.1 h3).1
        exact ⟨i, by have := HL.out; omega, h1, n, h3, h4, rfl⟩
    case pos =>
      obtain ⟨v, hv⟩ : ∃ v, l[k]? = some v := ⟨_, List.getElem?_eq_getElem (by have := HL.out; omega)⟩
      obtain ⟨q, hq⟩ : ∃ q, bs[k]? = some q := ⟨_, List.getElem?_eq_getElem (by have := HAl.out; omega)⟩
      have HV : Hid (l[k]? = some v) := hv
      obtain ⟨pb, po, rfl, hpb, c0⟩ := RowX.cs1 HP.out hv
      have c0' := (HI.out.bel.cell (by exact hpb)).trans c0
      have a0 := brow_at (HA.out.bel HI.out.bel) hq
      have HQ : Hid (bs[k]? = some q) := hq
      have hlt2 : (k : Int) < L := by omega
      have hlt3 : (k : Int) < (L : Int) + 1 := by omega
      obtain ⟨x0, x1, x2⟩ := BlkT.cs HI.out.box
      simp only at x0 x1 x2
      clear c0 hv hq
      cases q
      · go_wp2_with fail
        go_roundw
        case rel =>
          refine ⟨k + 1, os, by omega, by go_num, HI, HO.out.1, fun j => ?_⟩
          rw [HO.out.2 j]
          constructor
          · rintro ⟨i, h0, h⟩; exact ⟨i, by omega, h⟩
          · rintro ⟨i, h0, h1, h⟩
            by_cases e : i = k
            · subst e; exact absurd h1 (off_of HQ.out)
            · exact ⟨i, by omega, h1, h⟩
        case measure => simp [intOf]; omega
      · have HZ : Hid (∀ (os' : List Bool), (inSet set v = true → os' = os.set (k + 1) true) → (inSet set v = false → os' = os) → os'.length = L + 1 ∧ ∀ j, On os' j ↔ ∃ i, i < k + 1 ∧ On bs i ∧ ∃ n, l[i]? = some n ∧ inSet set n = true ∧ j = i + 1) := by
          intro os' h1 h2
          cases hin : inSet set v
          · rw [h2 hin]
            refine ⟨HO.out.1, fun j => ?_⟩
            rw [HO.out.2 j]
            constructor
            · rintro ⟨i, h0, h⟩; exact ⟨i, by omega, h⟩
            · rintro ⟨i, h0, h1, n, h3, h4, h5⟩
              by_cases e : i = k
              · subst e
                rw [HV.out] at h3
                injection h3 with h3
                rw [← h3, hin] at h4
                cases h4
              · exact ⟨i, by omega, h1, n, h3, h4, h5⟩
          · rw [h1 hin]
            refine ⟨by rw [List.length_set]; exact HO.out.1, fun j => ?_⟩
            rw [on_set (by have := HO.out.1; omega), HO.out.2 j]
            constructor
            · rintro (⟨i, h0, h⟩ | rfl)
              · exact ⟨i, by omega, h⟩
              · exact ⟨k, by omega, HQ.out, v, HV.out, hin, rfl⟩
            · rintro ⟨i, h0, h1, n, h3, h4, h5⟩
              by_cases e : i = k
              · subst e; exact Or.inr h5
              · exact Or.inl ⟨i, by omega, h1, n, h3, h4, h5⟩
        go_wp2_with fail
        refine (kin _ v HI.out.bel).mono ?_
        rintro _ w1 ⟨rfl, g1⟩
        have I1 : Hid (EX w ⟨1, ⟨sa, S, sc⟩, ⟨ba, N, bc⟩⟩ (w.heap.size + 1) os w1) := HI.out.go g1
        clear HI g1 x0 x1 x2 c0' a0
        cases hin : inSet set v with
        | false =>
          have HIN := HZ.out os (fun h => by rw [hin] at h; cases h) (fun _ => rfl)
          have H9 : Hid (os.length = L + 1 ∧ ∀ j, On os j ↔ ∃ i, i < k + 1 ∧ On bs i ∧ ∃ n, l[i]? = some n ∧ inSet set n = true ∧ j = i + 1) := HIN
          clear hin HIN HZ
          go_wp2_with fail
          go_roundw
          case rel => exact ⟨k + 1, os, by omega, by go_num, I1, H9⟩
          case measure => simp [intOf]; omega
        | true =>
          have HIN := HZ.out (os.set (k + 1) true) (fun _ => rfl) (fun h => by rw [hin] at h; cases h)
          have H9 : Hid ((os.set (k + 1) true).length = L + 1 ∧ ∀ j, On (os.set (k + 1) true) j ↔ ∃ i, i < k + 1 ∧ On bs i ∧ ∃ n, l[i]? = some n ∧ inSet set n = true ∧ j = i + 1) := HIN
          obtain ⟨z, hz⟩ : ∃ z, os[k + 1]? = some z := ⟨_, List.getElem?_eq_getElem (by have := HO.out.1; omega)⟩
          have o0 := brow_at I1.out.out hz
          have of := I1.out.out.frozen
          have hk1 : (k : Int) + 1 < (L : Int) + 1 := by omega
          clear hin HIN HZ hz
          go_wp2_with fail
          have J6 := I1.out.set (i := k + 1) (by have := HO.out.1; omega) true
          generalize hW6 : World.setCell _ _ _ = W6 at J6 ⊢
          have H6 : Hid (EX w ⟨1, ⟨sa, S, sc⟩, ⟨ba, N, bc⟩⟩ (w.heap.size + 1) (os.set (k + 1) true) W6) := J6
          clear J6 hW6 o0 of I1 HO
          go_wp2_with fail
          go_roundw
          case rel => exact ⟨k + 1, _, by omega, by go_num, H6, H9⟩
          case measure => simp [intOf]; omega

end Go.Proofs.YtihnmamejfoeeaaDoor
