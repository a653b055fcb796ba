/-
  What it is that a slice's value, in a world, holds a list of numbers; what a route's value is; and that it stays so where nothing old turns.
-/
import Derived.Test.YtdilnelfkbeamaaMath
import Derived.Test.YtdilnelfkbeamaaRows
import Derived.WalkKit
import Derived.WalkSpells
import Derived.Sort.Grow
import Derived.Deep.Draws
import Derived.BigQuiet
import Derived.Deep.QuietTactic
import Derived.Laws.StructEq
import Derived.Shelf.SlSortCmp.QuietGrown
namespace Go.Proofs.Ytdilnelfkbeamaa
open Go.RowKit

/-- v is a slice that holds these numbers. -/
def Row1 (w : World) (v : Value) (l : List Int) : Prop :=
  ∃ ao cap, v = .slice ao l.length cap ∧ (l ≠ [] → ∃ b off, ao = some ⟨b, off, none⟩ ∧ b < w.heap.size ∧
    ∀ i x, l[i]? = some x → w.cell? ⟨b, off + i, none⟩ = some (.int .u32 x)) ∧ (ao = none → cap = 0)

/-- A route's value, its two lists by their slices. -/
abbrev rv (x : Rt) (u v : Value) : Value := .agg #[.int .u32 x.addr, .int .i64 x.len, u, v, .int .u32 x.pref, .int .u32 x.med, .int .i64 x.origin, .int .u32 x.hop]

/-- These two slices hold the route's lists. -/
structure Rts (w : World) (x : Rt) (u v : Value) : Prop where
  p : Row1 w u x.path
  c : Row1 w v x.comms

theorem Row1.kept {B : Nat} {w w' : World} {v : Value} {l : List Int} (h : Row1 w v l) (hB : Below B w w') (hs : w.heap.size ≤ B) : Row1 w' v l := by
  obtain ⟨ao, cap, rfl, hc, hz⟩ := h
  refine ⟨ao, cap, rfl, fun hne => ?_, hz⟩
  obtain ⟨b, off, rfl, hb, hcell⟩ := hc hne
  have e : ∀ o, w'.cell? ⟨b, o, none⟩ = w.cell? ⟨b, o, none⟩ := fun o => hB.cell (p := ⟨b, o, none⟩) (by exact Nat.lt_of_lt_of_le hb hs)
  exact ⟨b, off, rfl, Nat.lt_of_lt_of_le hb hB.size, fun i x hx => by rw [e]; exact hcell i x hx⟩

theorem Rts.kept {B : Nat} {w w' : World} {u v : Value} {x : Rt} (h : Rts w x u v) (hB : Below B w w') (hs : w.heap.size ≤ B) : Rts w' x u v := ⟨h.p.kept hB hs, h.c.kept hB hs⟩

theorem ne_nil_of_lt {α : Type} {l : List α} {k : Nat} (h : k < l.length) : l ≠ [] := by
  intro e; subst e; simp at h

theorem take_succ_of {α : Type} {l : List α} {k : Nat} {x : α} (hx : l[k]? = some x) : l.take (k + 1) = l.take k ++ [x] := by
  rw [List.take_add_one, hx]; rfl

/-- The nil slice holds nothing. -/
theorem Row1.nil (w : World) : Row1 w (.slice none 0 0) [] := ⟨none, 0, rfl, fun h => absurd rfl h, fun _ => rfl⟩

/-- Nothing old has turned: some draws, some new blocks. -/
abbrev Gr (w w' : World) : Prop := ∃ n os, w' = Sort.grow (w.drewN n) os

theorem below_drewN {B : Nat} {a w : World} (h : Below B a w) : ∀ n, Below B a (w.drewN n) := fun _ => ⟨h.os, h.tape, h.output, h.size, h.block⟩

theorem below_grow {B : Nat} {a w : World} (h : Below B a w) (hs : B ≤ w.heap.size) (n : Nat) (os : Array Obj) : Below B a (Sort.grow (w.drewN n) os) :=
  ⟨h.os, h.tape, h.output, by have := h.size; simp; exact Nat.le_trans this (Nat.le_add_right _ _), fun k hk => by
    show (w.heap ++ os)[k]? = _
    rw [Array.getElem?_append_left (by omega)]
    exact h.block k hk⟩

theorem Gr.below {w w' : World} (h : Gr w w') : Below w.heap.size w w' := by
  obtain ⟨q, os, rfl⟩ := h
  exact below_grow (Below.refl _ _) (Nat.le_refl _) q os

theorem Gr.drawn {w w' : World} (h : Gr w w') : w.drawn ≤ w'.drawn := by
  obtain ⟨q, os, rfl⟩ := h
  exact Nat.le_add_right _ _

theorem Gr.of {w w' : World} (h : Below w.heap.size w w') (hd : w.drawn ≤ w'.drawn) : Gr w w' := by
  refine ⟨w'.drawn - w.drawn, w'.heap.extract w.heap.size w'.heap.size, ?_⟩
  obtain ⟨hp, tp, dr, os, out⟩ := w'
  have h1 := h.os; have h2 := h.tape; have h3 := h.output; have h4 := h.size; have h5 := h.block
  simp only at h1 h2 h3 h4 h5 hd
  subst h1; subst h2; subst h3
  have e : w.drawn + (dr - w.drawn) = dr := by omega
  simp only [Sort.grow, World.drewN, e]
  congr 1
  apply Array.ext_getElem?
  intro i
  by_cases hi : i < w.heap.size
  · rw [Array.getElem?_append_left hi, h5 i hi]
  · rw [Array.getElem?_append_right (by omega), Array.getElem?_extract]
    by_cases hj : i < hp.size
    · rw [if_pos (by omega)]
      congr 1
      omega
    · rw [if_neg (by omega), Array.getElem?_eq_none (by omega)]

theorem Gr.refl (w : World) : Gr w w := ⟨0, #[], (Go.Sort.grow_empty w).symm⟩

theorem Gr.trans {a b c : World} (h : Gr a b) (k : Gr b c) : Gr a c := by
  obtain ⟨q, os, rfl⟩ := h
  obtain ⟨r, ps, rfl⟩ := k
  exact ⟨q + r, os ++ ps, by show Sort.grow (Sort.grow ((a.drewN q).drewN r) os) ps = _; rw [Go.Sort.grow_grow, World.drewN_drewN]⟩

theorem Gr.alloc {a w : World} (h : Gr a w) (o : Obj) : Gr a (w.alloc o) := h.trans ⟨0, #[o], by rw [Go.Sort.alloc_eq_grow]; rfl⟩
theorem Gr.drewN {a w : World} (h : Gr a w) (n : Nat) : Gr a (w.drewN n) := h.trans ⟨n, #[], (Go.Sort.grow_empty _).symm⟩
theorem Gr.setCell {a w : World} (h : Gr a w) {p : Addr} (hp : a.heap.size ≤ p.block) (u : Value) : Gr a (w.setCell p u) := Gr.of (h.below.setCell hp u) h.drawn

/-- One step more: nothing below has turned. -/
theorem bstep {w a b : World} (h : Below w.heap.size w a) (k : Below a.heap.size a b) : Below w.heap.size w b := h.trans (k.mono h.size)

theorem Row1.gr {w w' : World} {v : Value} {l : List Int} (h : Row1 w v l) (k : Gr w w') : Row1 w' v l := h.kept k.below (Nat.le_refl _)
theorem Rts.gr {w w' : World} {u v : Value} {x : Rt} (h : Rts w x u v) (k : Gr w w') : Rts w' x u v := h.kept k.below (Nat.le_refl _)
theorem Rts.bel {w w' : World} {u v : Value} {x : Rt} (h : Rts w x u v) (k : Below w.heap.size w w') : Rts w' x u v := h.kept k (Nat.le_refl _)
theorem Row1.bel {w w' : World} {v : Value} {l : List Int} (h : Row1 w v l) (k : Below w.heap.size w w') : Row1 w' v l := h.kept k (Nat.le_refl _)

end Go.Proofs.Ytdilnelfkbeamaa
