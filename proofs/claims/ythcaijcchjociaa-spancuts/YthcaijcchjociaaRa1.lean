/-
  The document's own 'Atoms': In as a region takes it; the pieces that begin where a set begins or ends.
-/
import Derived.Test.YthcaijcchjociaaAtom
import Derived.Deep.LoopGhost
import Derived.Deep.DeepCutAuto
import Derived.Deep.CutBlock
namespace Go.Proofs.Ythcaijcchjociaa
open Go.RowKit

set_option maxHeartbeats 400000 in
theorem rin_grown (v : Value) (l : List Sp) (n : Int) (w : World) (hl : l.length ≤ 1000000) (hv : Row2 w v l) :
    Calls Try.prog 15 #[v, .int .u32 n] w fun e w' => e = .returned (.bool (inS l n)) ∧ ∃ q os', w' = Sort.grow (w.drewN q) os' := by
  obtain ⟨ao, cap, rfl, hc⟩ := hv
  go_enter Try.func15, Try.ntmps15
  go_wp2
  go_loopw [9] (fun i wr => ∃ k : Nat, k ≤ l.length ∧ i = .int .i64 k ∧ inS (l.take k) n = false ∧ Below w.heap.size w wr ∧ Hid (∃ os, wr = Sort.grow w os)) (fun i _ => l.length - (intOf i).toNat)
  case atStart => exact ⟨0, Nat.zero_le _, rfl, rfl, Below.refl _ _, #[], (Go.Sort.grow_empty w).symm⟩
  case round =>
    obtain ⟨k, hk, rfl, hin, hB, HW⟩ := hrel
    have HA : Hid (∀ o, ∃ os, wr.alloc o = Sort.grow w os) := fun o => by
      obtain ⟨os, hos⟩ := HW.out
      exact ⟨os ++ #[o], by rw [hos, Go.Sort.alloc_eq_grow, Go.Sort.grow_grow]⟩
    by_cases hlt : k < l.length
    · obtain ⟨b, off, rfl, hb, hcell⟩ := hc.1 (ne_nil_of_lt hlt)
      obtain ⟨x, hx⟩ : ∃ x, l[k]? = some x := ⟨_, List.getElem?_eq_getElem hlt⟩
      obtain ⟨c1, c2⟩ := hcell k x hx
      have c1' : wr.cell? ⟨b, off + k * 2, none⟩ = some (.int .u32 x.1) := (hB.cell (by exact hb)).trans c1
      have c2' : wr.cell? ⟨b, off + k * 2 + 1, none⟩ = some (.int .u32 x.2) := (hB.cell (by exact hb)).trans c2
      have HX : Hid (l[k]? = some x) := hx
      have HI : Hid (inS (l.take k) n = false) := hin
      have hB' := hB.size
      clear hc hcell c1 c2 hx hin
      go_wp2
      · go_ret
        refine ⟨by rw [inS_of_mem HX.out (by assumption) (by assumption)]; rfl, 0, ?_⟩
        obtain ⟨os, hos⟩ := HA.out (.cells #[.int .u32 x.1, .int .u32 x.2] 35)
        exact ⟨os, hos⟩
      all_goals
        go_roundw
        case rel => exact ⟨k + 1, by omega, by go_num, by rw [inS_take_succ HX.out, HI.out]; simp; omega, hB.alloc hB' _, HA.out _⟩
        case measure => simp [intOf]; omega
    · have e : l.take k = l := List.take_of_length_le (by omega)
      rw [e] at hin
      clear e hc
      go_wp2
      go_ret
      refine ⟨by rw [hin]; rfl, 0, ?_⟩
      obtain ⟨os, hos⟩ := HW.out
      exact ⟨os, hos⟩

/-- The spans from each beginning to ahead of the next one, the last one to ahead of e. -/
def spansTo (c : List Int) (e : Int) : List Sp := (List.range c.length).map fun i => (st c i, (c[i + 1]?).getD e - 1)

theorem spansTo_length (c : List Int) (e : Int) : (spansTo c e).length = c.length := by simp [spansTo]

theorem st_snoc_lt {c : List Int} {x : Int} {i : Nat} (h : i < c.length) : st (c ++ [x]) i = st c i := by
  unfold st
  rw [List.getElem?_append_left h]

theorem st_snoc_last {c : List Int} {x : Int} : st (c ++ [x]) c.length = x := by
  unfold st
  rw [List.getElem?_append_right (Nat.le_refl _)]
  simp

theorem spansTo_snoc (c : List Int) (x e : Int) : spansTo (c ++ [x]) e = spansTo c x ++ [(x, e - 1)] := by
  unfold spansTo
  rw [List.length_append, List.length_singleton, List.range_succ, List.map_append]
  congr 1
  · apply List.map_congr_left
    intro i hi
    have hi := List.mem_range.1 hi
    rw [st_snoc_lt hi]
    by_cases h : i + 1 < c.length
    · rw [List.getElem?_append_left h]
      rw [List.getElem?_eq_getElem h]
      rfl
    · rw [List.getElem?_append_right (by omega), List.getElem?_eq_none (l := c) (by omega), show i + 1 - c.length = 0 by omega]
      rfl
  · simp only [List.map_cons, List.map_nil]
    rw [st_snoc_last, List.getElem?_eq_none (by simp)]
    rfl

theorem spansTo_all (c : List Int) : spansTo c 4294967296 = spansOf c := by
  unfold spansTo spansOf
  apply List.map_congr_left
  intro i hi
  congr 2
  unfold st
  cases c[i + 1]? <;> rfl

/-- A beginning of an atom. -/
def Begs (L : List (List Sp)) (n : Int) : Prop := n = 0 ∨ ∃ l ∈ L, DiffAt l n

/-- After k pieces of b: the atoms so far begin at c. -/
structure AInv (L : List (List Sp)) (b : List Int) (k : Nat) (c : List Int) (o : List Sp) : Prop where
  ris : Rising c
  mem : ∀ n, n ∈ c ↔ Begs L n ∧ n < st b k
  out : o = spansTo c (st b k)
  len : c.length ≤ k

theorem AInv.start {L : List (List Sp)} {b : List Int} (hb : Beg b) : AInv L b 0 [] [] :=
  ⟨by simp [Rising], fun n => by
    rw [hb.st_zero]
    constructor
    · intro h; simp at h
    · rintro ⟨h | ⟨l, _, h⟩, h2⟩
      · omega
      · have := h.1; omega, rfl, Nat.le_refl _⟩

/-- Inside a piece no atom begins. -/
theorem begs_inside {L : List (List Sp)} {b : List Int} (hb : Beg b) (hed : ∀ l ∈ L, ∀ s ∈ l, Edges b s) (hg : ∀ l ∈ L, Good l) {k : Nat} (hk : k < b.length) {n : Int} (h : Begs L n) (h1 : st b k ≤ n) (h2 : n < st b (k + 1)) : n = st b k := by
  have h0 := (hb.st_rng k).1
  rcases h with h | ⟨l, hl, h⟩
  · omega
  · by_cases e : n = st b k
    · exact e
    · exfalso
      apply h.2.2
      rw [hb.wholeS (hed l hl) (hg l hl) hk h1 h2, hb.wholeS (hed l hl) (hg l hl) hk (n := n - 1) (by omega) (by omega)]

/-- Where a piece begins, an atom does, if it is the first, or a set has one of it and the piece before and not the other. -/
theorem begs_at {L : List (List Sp)} {b : List Int} (hb : Beg b) (hed : ∀ l ∈ L, ∀ s ∈ l, Edges b s) (hg : ∀ l ∈ L, Good l) {k : Nat} (hk : k + 1 < b.length) : Begs L (st b (k + 1)) ↔ ∃ l ∈ L, inS l (st b (k + 1)) ≠ inS l (st b k) := by
  have hlt := hb.st_lt (i := k) (j := k + 1) (by omega) (by omega)
  have h0 := (hb.st_rng k).1
  have hs : ∀ l ∈ L, inS l (st b (k + 1) - 1) = inS l (st b k) := fun l hl => hb.wholeS (hed l hl) (hg l hl) (by omega) (by omega) (by omega)
  have hr : st b (k + 1) ≤ 4294967295 := by
    obtain ⟨x, hx⟩ : ∃ x, b[k + 1]? = some x := ⟨_, List.getElem?_eq_getElem hk⟩
    rw [st_some hx]
    exact (hb.rng x (List.mem_of_getElem? hx)).2
  constructor
  · rintro (h | ⟨l, hl, h⟩)
    · omega
    · exact ⟨l, hl, by have := h.2.2; rw [hs l hl] at this; exact this⟩
  · rintro ⟨l, hl, h⟩
    exact Or.inr ⟨l, hl, by omega, hr, by rw [hs l hl]; exact h⟩

theorem AInv.push {L : List (List Sp)} {b : List Int} {k : Nat} {c : List Int} {o : List Sp} (h : AInv L b k c o) (hb : Beg b) (hed : ∀ l ∈ L, ∀ s ∈ l, Edges b s) (hg : ∀ l ∈ L, Good l) (hk : k < b.length) (hx : Begs L (st b k)) :
    AInv L b (k + 1) (c ++ [st b k]) (o ++ [(st b k, st b (k + 1) - 1)]) := by
  have hlt := hb.st_lt (i := k) (j := k + 1) (by omega) hk
  refine ⟨?_, fun n => ?_, by rw [h.out, spansTo_snoc], by have := h.len; simp; omega⟩
  · unfold Rising
    rw [List.pairwise_append]
    refine ⟨h.ris, by simp, fun x hx y hy => ?_⟩
    simp at hy
    subst hy
    exact ((h.mem x).1 hx).2
  · rw [List.mem_append, List.mem_singleton, h.mem]
    constructor
    · rintro (⟨h1, h2⟩ | rfl)
      · exact ⟨h1, by omega⟩
      · exact ⟨hx, hlt⟩
    · rintro ⟨h1, h2⟩
      by_cases e : n < st b k
      · exact Or.inl ⟨h1, e⟩
      · exact Or.inr (begs_inside hb hed hg hk h1 (by omega) h2)

theorem AInv.grow {L : List (List Sp)} {b : List Int} {k : Nat} {c : List Int} {o : List Sp} (h : AInv L b (k + 1) c o) (hb : Beg b) (hed : ∀ l ∈ L, ∀ s ∈ l, Edges b s) (hg : ∀ l ∈ L, Good l) (hk : k + 1 < b.length) (hx : ¬ Begs L (st b (k + 1))) :
    ∃ init t, o = init ++ [t] ∧ AInv L b (k + 1 + 1) c (init ++ [(t.1, st b (k + 1 + 1) - 1)]) := by
  have hlt := hb.st_lt (i := k + 1) (j := k + 1 + 1) (by omega) hk
  have hlt0 := hb.st_lt (i := k) (j := k + 1) (by omega) (by omega)
  have h00 := (hb.st_rng k).1
  have hc0 : (0 : Int) ∈ c := (h.mem 0).2 ⟨Or.inl rfl, by omega⟩
  rcases List.eq_nil_or_concat c with e | ⟨c0, x, e⟩
  · rw [e] at hc0; simp at hc0
  · rw [List.concat_eq_append] at e
    subst e
    refine ⟨spansTo c0 x, (x, st b (k + 1) - 1), by rw [h.out, spansTo_snoc], h.ris, fun n => ?_, by rw [spansTo_snoc], by have := h.len; omega⟩
    rw [h.mem]
    constructor
    · rintro ⟨h1, h2⟩; exact ⟨h1, by omega⟩
    · rintro ⟨h1, h2⟩
      refine ⟨h1, ?_⟩
      by_cases e : n < st b (k + 1)
      · exact e
      · have := begs_inside hb hed hg hk h1 (by omega) h2
        rw [this] at h1
        exact absurd h1 hx

theorem AInv.done {L : List (List Sp)} {b : List Int} {c : List Int} {o : List Sp} (h : AInv L b b.length c o) : Atoms L o := by
  have e : st b b.length = 4294967296 := st_none (Nat.le_refl _)
  refine ⟨c, h.ris, fun n => ?_, by rw [h.out, e, spansTo_all]⟩
  rw [h.mem, e]
  constructor
  · rintro ⟨h1, _⟩; exact h1
  · intro h1
    refine ⟨h1, ?_⟩
    rcases h1 with h1 | ⟨l, _, h1⟩
    · omega
    · have := h1.2.1; omega
end Go.Proofs.Ythcaijcchjociaa
