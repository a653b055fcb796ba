/-
  The walk of the document's own 'begins': where spans begin, or what is behind one begins: rising, each once.
-/
import Derived.Test.YtnohkbdmnalmcaaGreatDoorS1With
namespace Go.Proofs.YtnohkbdmnalmcaaGreatDoorS1
open Go.RowKit

/-- A list of places where pieces begin: rising, from 0, none beyond the last number. -/
structure Beg (b : List Int) : Prop where
  rising : Rising b
  zero : 0 ∈ b
  rng : ∀ x ∈ b, 0 ≤ x ∧ x ≤ 4294967295

/-- The edges of a span that isn't empty are there. -/
def Edges (b : List Int) (s : Sp) : Prop := s.1 ≤ s.2 → s.1 ∈ b ∧ (s.2 < 4294967295 → s.2 + 1 ∈ b)

theorem Edges.mono {b c : List Int} {s : Sp} (h : Edges b s) (hs : ∀ x ∈ b, x ∈ c) : Edges c s := fun he =>
  ⟨hs _ (h he).1, fun hl => hs _ ((h he).2 hl)⟩

theorem Beg.start : Beg [0] := ⟨by simp [Rising], by simp, by simp⟩

theorem Beg.with {b m : List Int} {n : Int} (h : Beg b) (hm : Withed b n m) (h0 : 0 ≤ n) (h1 : n ≤ 4294967295) : Beg m :=
  ⟨hm.1, (hm.2.1 0).2 (Or.inl h.zero), fun x hx => by
    rcases (hm.2.1 x).1 hx with c | rfl
    · exact h.rng x c
    · exact ⟨h0, h1⟩⟩

theorem Beg.ne {b : List Int} (h : Beg b) : b ≠ [] := fun e => by have := h.zero; rw [e] at this; simp at this

/-- How many spans the first k lists have. -/
def cnt (L : List (List Sp)) (k : Nat) : Nat := ((L.take k).map List.length).sum

theorem cnt_succ {L : List (List Sp)} {k : Nat} {s : List Sp} (h : L[k]? = some s) : cnt L (k + 1) = cnt L k + s.length := by
  unfold cnt
  rw [take_succ_of h]
  simp

theorem cnt_le {L : List (List Sp)} : ∀ {k j : Nat}, k ≤ j → cnt L k ≤ cnt L j := by
  intro k j h
  induction h with
  | refl => exact Nat.le_refl _
  | step h ih =>
    rename_i m
    by_cases e : m < L.length
    · rw [Nat.succ_eq_add_one, cnt_succ (List.getElem?_eq_getElem e)]; omega
    · have : cnt L m = cnt L (m + 1) := by
        unfold cnt
        rw [List.take_of_length_le (by omega), List.take_of_length_le (by omega)]
      rw [Nat.succ_eq_add_one, ← this]; exact ih

theorem Own1.one (w : World) (x : Int) : Own1 w.heap.size (w.alloc (.cells #[.int .u32 x] 42)) (.slice (some ⟨w.heap.size, 0, none⟩) 1 1) [x] :=
  ⟨rfl, .inr ⟨w.heap.size, 1, #[.int .u32 x], rfl, Nat.le_refl _, heap_alloc_new w _, Nat.le_refl _, by decide, rfl, rfl⟩⟩

set_option maxHeartbeats 2000000 in
theorem begins_any (v : Value) (L : List (List Sp)) (w : World) (hL : L.length ≤ 100000) (hcnt : cnt L L.length ≤ 10000) (hgood : ∀ l ∈ L, Good l) (hv : RowS w v L) :
    Calls Tryz.prog 110 #[v] w fun e w' => ∃ u b, e = .returned u ∧ Beg b ∧ (∀ l ∈ L, ∀ s ∈ l, Edges b s) ∧ b.length ≤ 1 + 2 * cnt L L.length ∧ Row1 w' u b ∧ Below w.heap.size w w' := by
  obtain ⟨ao, cap, rfl, hc⟩ := hv
  have HG : Hid (∀ l ∈ L, Good l) := hgood
  clear hgood
  go_enter Tryz.func110, Tryz.ntmps110
  go_wp2_with fail
  go_loopw [3, 11] (fun out i wr => ∃ (k : Nat) (b : List Int), k ≤ L.length ∧ i = .int .i64 k ∧ Own1 w.heap.size wr out b ∧ Beg b ∧ (∀ i l, i < k → L[i]? = some l → ∀ s ∈ l, Edges b s) ∧ b.length ≤ 1 + 2 * cnt L k ∧ Below w.heap.size w wr) (fun _ i _ => L.length - (intOf i).toNat)
  case atStart => exact ⟨0, [0], Nat.zero_le _, rfl, Own1.one w 0, Beg.start, fun i l hi => by omega, by simp [cnt], (Below.refl _ _).alloc (Nat.le_refl _) _⟩
  case round =>
    obtain ⟨k, b, hk, rfl, hown, hbeg, hedge, hblen, hB⟩ := hrel
    have HE : Hid (∀ i l, i < k → L[i]? = some l → ∀ s ∈ l, Edges b s) := hedge
    clear hedge
    have hB' := hB.size
    by_cases hlt : k < L.length
    · obtain ⟨ba, offa, rfl, hba, hcella⟩ := hc (ne_nil_of_lt hlt)
      obtain ⟨l, hl⟩ : ∃ l, L[k]? = some l := ⟨_, List.getElem?_eq_getElem hlt⟩
      obtain ⟨q, hq, hrow⟩ := hcella k l hl
      obtain ⟨ao2, cap2, rfl, hc2, _⟩ := hrow
      have hgl := HG.out l (List.mem_of_getElem? hl)
      have HL : Hid (L[k]? = some l) := hl
      have hq' : wr.cell? ⟨ba, offa + k, none⟩ = some (.slice ao2 l.length cap2) := (hB.cell (by exact hba)).trans hq
      have hcs := cnt_succ hl
      have hcl := cnt_le (L := L) (show k + 1 ≤ L.length from hlt)
      have HGL : Hid (Good l) := hgl
      have hll : cnt L k + l.length ≤ 10000 := by omega
      have HCS : Hid (cnt L (k + 1) = cnt L k + l.length) := hcs
      clear hcella hq hl hgl hcs hcl
      go_wp2_with fail
      go_loopw [3, 17] (fun out j wq => ∃ (p : Nat) (b' : List Int), p ≤ l.length ∧ j = .int .i64 p ∧ Own1 w.heap.size wq out b' ∧ Beg b' ∧ (∀ x ∈ b, x ∈ b') ∧ (∀ s ∈ l.take p, Edges b' s) ∧ b'.length ≤ 1 + 2 * (cnt L k + p) ∧ Below w.heap.size w wq) (fun _ j _ => l.length - (intOf j).toNat)
      case atStart => exact ⟨0, b, Nat.zero_le _, rfl, hown, hbeg, fun _ h => h, by simp, by omega, hB⟩
      case round =>
        clear hown hbeg hblen hB hB' hq'
        obtain ⟨p, b', hp, rfl, hown, hbeg, hsub, hedge, hblen, hB⟩ := hrel
        have HS : Hid (∀ x ∈ b, x ∈ b') := hsub
        have HE2 : Hid (∀ s ∈ l.take p, Edges b' s) := hedge
        have hB' := hB.size
        clear hsub hedge
        by_cases hpl : p < l.length
        · obtain ⟨bb, offb, rfl, hbb, hcellb⟩ := hc2 (ne_nil_of_lt hpl)
          obtain ⟨x, hx⟩ : ∃ x, l[p]? = some x := ⟨_, List.getElem?_eq_getElem hpl⟩
          obtain ⟨c1, c2⟩ := hcellb p x hx
          have c1' : wr.cell? ⟨bb, offb + p * 2, none⟩ = some (.int .u32 x.1) := (hB.cell (by exact hbb)).trans c1
          have c2' : wr.cell? ⟨bb, offb + p * 2 + 1, none⟩ = some (.int .u32 x.2) := (hB.cell (by exact hbb)).trans c2
          have hxb := HGL.out x (List.mem_of_getElem? hx)
          have HT : Hid (l.take (p + 1) = l.take p ++ [x]) := take_succ_of hx
          clear hc hc2 hcellb c1 c2 hx
          by_cases hle : x.1 ≤ x.2
          · go_wp2_with fail
            have hown1 := hown.alloc (.cells #[.int .u32 x.1, .int .u32 x.2] 44)
            refine (with_any w.heap.size _ b' x.1 _ (by omega) hbeg.ne hbeg.rising hown1 (by simp; omega)).mono ?_
            rintro e w3 ⟨u3, b3, rfl, hw3, hown3, hB3, hoth3⟩
            have d1 : w3.cell? ⟨wr.heap.size, 1, none⟩ = some (.int .u32 x.2) :=
              (World.cell?_of_block (w := wr.alloc (.cells #[.int .u32 x.1, .int .u32 x.2] 44)) (a := ⟨wr.heap.size, 1, none⟩) (hoth3 wr.heap.size (by simp) (hown.notAt (Nat.le_refl _)))).trans (by simp [go_sem])
            have hbeg3 := hbeg.with hw3 hxb.1 (by omega)
            have hl3 := hw3.2.2
            have BB := (hB.alloc hB' (.cells #[.int .u32 x.1, .int .u32 x.2] 44)).trans hB3
            have HW3 : Hid (Withed b' x.1 b3) := hw3
            clear hoth3 hown1 hw3 hown hB3
            by_cases hM : x.2 < 4294967295
            · go_wp2_with fail
              refine (with_any w.heap.size _ b3 (x.2 + 1) _ (by omega) hbeg3.ne hbeg3.rising hown3 (by have := BB.size; omega)).mono ?_
              rintro e w4 ⟨u4, b4, rfl, hw4, hown4, hB4, hoth4⟩
              have hbeg4 := hbeg3.with hw4 (by omega) (by omega)
              have hl4 := hw4.2.2
              have HW4 : Hid (Withed b3 (x.2 + 1) b4) := hw4
              clear hoth4 hw4
              go_wp2_with fail
              go_roundw
              case rel => exact ⟨p + 1, b4, by omega, by go_num, hown4, hbeg4, fun y hy => (HW4.out.2.1 y).2 (Or.inl ((HW3.out.2.1 y).2 (Or.inl (HS.out y hy)))), fun s hs => by
                  rw [HT.out] at hs
                  rcases mem_snoc.1 hs with hs | rfl
                  · exact (HE2.out s hs).mono fun y hy => (HW4.out.2.1 y).2 (Or.inl ((HW3.out.2.1 y).2 (Or.inl hy)))
                  · exact fun _ => ⟨(HW4.out.2.1 _).2 (Or.inl ((HW3.out.2.1 _).2 (Or.inr rfl))), fun _ => (HW4.out.2.1 _).2 (Or.inr rfl)⟩, by omega, BB.trans hB4⟩
              case measure => simp [intOf]; omega
            · go_wp2_with fail
              go_roundw
              case rel => exact ⟨p + 1, b3, by omega, by go_num, hown3, hbeg3, fun y hy => (HW3.out.2.1 y).2 (Or.inl (HS.out y hy)), fun s hs => by
                  rw [HT.out] at hs
                  rcases mem_snoc.1 hs with hs | rfl
                  · exact (HE2.out s hs).mono fun y hy => (HW3.out.2.1 y).2 (Or.inl hy)
                  · exact fun _ => ⟨(HW3.out.2.1 _).2 (Or.inr rfl), fun h => absurd h (by omega)⟩, by omega, BB⟩
              case measure => simp [intOf]; omega
          · go_wp2_with fail
            go_roundw
            case rel => exact ⟨p + 1, b', by omega, by go_num, hown.alloc _, hbeg, HS.out, fun s hs => by
                rw [HT.out] at hs
                rcases mem_snoc.1 hs with hs | rfl
                · exact HE2.out s hs
                · exact fun h => absurd h (by omega), by omega, hB.alloc hB' _⟩
            case measure => simp [intOf]; omega
        · have e : l.take p = l := List.take_of_length_le (by omega)
          have HE3 : Hid (∀ s ∈ l, Edges b' s) := by
            have := HE2.out
            rw [e] at this
            exact this
          have hpe : p = l.length := by omega
          clear e HE2 hc hc2
          go_wp2_with fail
          go_roundw
          case rel => exact ⟨k + 1, b', by omega, by go_num, hown, hbeg, fun i l' hi hl' s hs => by
              by_cases e : i = k
              · subst e; rw [HL.out] at hl'; injection hl' with hl'; subst hl'; exact HE3.out s hs
              · exact (HE.out i l' (by omega) hl' s hs).mono HS.out, by rw [HCS.out]; omega, hB⟩
          case measure => simp [intOf]; omega
    · have hke : k = L.length := by omega
      subst hke
      clear hc
      go_wp2_with fail
      go_ret
      exact ⟨_, b, rfl, hbeg, fun l hl s hs => by
        obtain ⟨i, hi⟩ := List.mem_iff_getElem?.1 hl
        exact HE.out i l (List.getElem?_eq_some_iff.1 hi).1 hi s hs, hblen, Row1.of_owns hown, hB⟩
end Go.Proofs.YtnohkbdmnalmcaaGreatDoorS1
