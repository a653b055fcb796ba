/-
  What stays where nothing old turns; blocks; rows of elements by an encoding, held and owned; 'append' to them.
-/
import Derived.Test.YtihnmamejfoeeaaDoorMath2
import Derived.Test.YtihnmamejfoeeaaDoorRows
import Derived.WalkKit
import Derived.WalkSpells
import Derived.Sort.Grow
import Derived.Deep.Draws
import Derived.BigQuiet
import Derived.Deep.QuietTactic
import Derived.Laws.StructEq
import Derived.Shelf.SlSortCmp.QuietGrown
import Derived.Deep.AppendLies
namespace Go.Proofs.YtihnmamejfoeeaaDoor
open Go.RowKit

theorem ne_nil_of_lt {α : Type} {l : List α} {k : Nat} (h : k < l.length) : l ≠ [] := by
  intro e; subst e; simp at h

/-- Nothing old has turned: some draws, some new blocks. -/
abbrev Gr (w w' : World) : Prop := ∃ n os, w' = Sort.grow (w.drewN n) os

theorem below_drewN {B : Nat} {a w : World} (h : Below B a w) : ∀ n, Below B a (w.drewN n) := fun _ => ⟨h.os, h.tape, h.output, h.size, h.block⟩

theorem below_grow {B : Nat} {a w : World} (h : Below B a w) (hs : B ≤ w.heap.size) (n : Nat) (os : Array Obj) : Below B a (Sort.grow (w.drewN n) os) :=
  ⟨h.os, h.tape, h.output, by have := h.size; simp; exact Nat.le_trans this (Nat.le_add_right _ _), fun k hk => by
    show (w.heap ++ os)[k]? = _
    rw [Array.getElem?_append_left (by omega)]
    exact h.block k hk⟩

theorem Gr.below {w w' : World} (h : Gr w w') : Below w.heap.size w w' := by
  obtain ⟨q, os, rfl⟩ := h
  exact below_grow (Below.refl _ _) (Nat.le_refl _) q os

theorem Gr.drawn {w w' : World} (h : Gr w w') : w.drawn ≤ w'.drawn := by
  obtain ⟨q, os, rfl⟩ := h
  exact Nat.le_add_right _ _

theorem Gr.of {w w' : World} (h : Below w.heap.size w w') (hd : w.drawn ≤ w'.drawn) : Gr w w' := by
  refine ⟨w'.drawn - w.drawn, w'.heap.extract w.heap.size w'.heap.size, ?_⟩
  obtain ⟨hp, tp, dr, os, out⟩ := w'
  have h1 := h.os; have h2 := h.tape; have h3 := h.output; have h4 := h.size; have h5 := h.block
  simp only at h1 h2 h3 h4 h5 hd
  subst h1; subst h2; subst h3
  have e : w.drawn + (dr - w.drawn) = dr := by omega
  simp only [Sort.grow, World.drewN, e]
  congr 1
  apply Array.ext_getElem?
  intro i
  by_cases hi : i < w.heap.size
  · rw [Array.getElem?_append_left hi, h5 i hi]
  · rw [Array.getElem?_append_right (by omega), Array.getElem?_extract]
    by_cases hj : i < hp.size
    · rw [if_pos (by omega)]
      congr 1
      omega
    · rw [if_neg (by omega), Array.getElem?_eq_none (by omega)]

theorem Gr.refl (w : World) : Gr w w := ⟨0, #[], (Go.Sort.grow_empty w).symm⟩

theorem Gr.trans {a b c : World} (h : Gr a b) (k : Gr b c) : Gr a c := by
  obtain ⟨q, os, rfl⟩ := h
  obtain ⟨r, ps, rfl⟩ := k
  exact ⟨q + r, os ++ ps, by show Sort.grow (Sort.grow ((a.drewN q).drewN r) os) ps = _; rw [Go.Sort.grow_grow, World.drewN_drewN]⟩

theorem Gr.alloc {a w : World} (h : Gr a w) (o : Obj) : Gr a (w.alloc o) := h.trans ⟨0, #[o], by rw [Go.Sort.alloc_eq_grow]; rfl⟩
theorem Gr.drewN {a w : World} (h : Gr a w) (n : Nat) : Gr a (w.drewN n) := h.trans ⟨n, #[], (Go.Sort.grow_empty _).symm⟩
theorem Gr.setCell {a w : World} (h : Gr a w) {p : Addr} (hp : a.heap.size ≤ p.block) (u : Value) : Gr a (w.setCell p u) := Gr.of (h.below.setCell hp u) h.drawn

/-- One step more: nothing below has turned. -/
theorem bstep {w a b : World} (h : Below w.heap.size w a) (k : Below a.heap.size a b) : Below w.heap.size w b := h.trans (k.mono h.size)

theorem owns_set {w : World} {base : Nat} {e : TypeId} {size g n cap : Nat} {xs : List Value} (h : w.ownsRow base e size (.slice (some ⟨g, 0, none⟩) n cap) n xs) (j : Nat) (u : Value) :
    (w.setCell ⟨g, j, none⟩ u).ownsRow base e size (.slice (some ⟨g, 0, none⟩) n cap) n (xs.set j u) := by
  obtain ⟨hx, hr⟩ := h
  refine ⟨by simpa using hx, .inr ?_⟩
  rcases hr with ⟨hv, _⟩ | ⟨g', cap', cur, hv, hb, hg, hn, hm, hs, ht⟩
  · simp at hv
  · simp at hv
    obtain ⟨rfl, rfl⟩ := hv
    refine ⟨g, cap, cur.setIfInBounds j u, rfl, hb, heap_setCell_same w g j cur e u hg, hn, hm, by simpa using hs, ?_⟩
    rw [Array.toList_setIfInBounds, ← ht]
    rw [List.take_set]

/-- A block of cells of the call's own. -/
def Blk (W : World) (b : Nat) (cs : Array Value) (t : TypeId) : Prop := W.heap[b]? = some (.cells cs t (0, 0))

theorem Blk.lt {w : World} {b : Nat} {cs : Array Value} {t : TypeId} (h : Blk w b cs t) : b < w.heap.size := (Array.getElem?_eq_some_iff.1 h).1
theorem Blk.new (w : World) (cs : Array Value) (t : TypeId) : Blk (w.alloc (.cells cs t)) w.heap.size cs t := heap_alloc_new w _
theorem Blk.new' (w : World) (cs : Array Value) (t : TypeId) (b : Nat) (hb : b = w.heap.size) : Blk (w.alloc (.cells cs t)) b cs t := by subst hb; exact Blk.new _ _ _
theorem Blk.bel {w w' : World} {b : Nat} {cs : Array Value} {t : TypeId} (h : Blk w b cs t) (hB : Below w.heap.size w w') : Blk w' b cs t := (hB.block b h.lt).trans h
theorem Blk.gr {w w' : World} {b : Nat} {cs : Array Value} {t : TypeId} (h : Blk w b cs t) (k : Gr w w') : Blk w' b cs t := h.bel k.below
theorem Blk.grow {w : World} {b : Nat} {cs : Array Value} {t : TypeId} (h : Blk w b cs t) (n : Nat) (os : Array Obj) : Blk (Sort.grow (w.drewN n) os) b cs t := h.gr ⟨n, os, rfl⟩
theorem Blk.drewN {w : World} {b : Nat} {cs : Array Value} {t : TypeId} (h : Blk w b cs t) (n : Nat) : Blk (w.drewN n) b cs t := h
theorem Blk.alloc {w : World} {b : Nat} {cs : Array Value} {t : TypeId} (h : Blk w b cs t) (o : Obj) : Blk (w.alloc o) b cs t := h.bel ((Below.refl _ _).alloc (Nat.le_refl _) o)
theorem Blk.other {w : World} {b : Nat} {cs : Array Value} {t : TypeId} (h : Blk w b cs t) {p : Addr} (hp : b ≠ p.block) (z : Value) : Blk (w.setCell p z) b cs t := (Below.heap_setCell _ _ _ _ hp).trans h
theorem Blk.set {w : World} {b : Nat} {cs : Array Value} {t : TypeId} (h : Blk w b cs t) (i : Nat) (z : Value) : Blk (w.setCell ⟨b, i, none⟩ z) b (cs.setIfInBounds i z) t := heap_setCell_same w b i _ t z h
theorem Blk.frozen {w : World} {b : Nat} {cs : Array Value} {t : TypeId} (h : Blk w b cs t) (o : Nat) : w.frozen? ⟨b, o, none⟩ = false := by
  unfold Blk at h
  simp [World.frozen?, h]
theorem Blk.c {w : World} {b : Nat} {cs : Array Value} {t : TypeId} (h : Blk w b cs t) (i : Nat) : w.cell? ⟨b, i, none⟩ = cs[i]? := by
  unfold Blk at h
  simp [World.cell?, h]
theorem Blk.grown {w w' : World} {b : Nat} {cs : Array Value} {t : TypeId} (h : Blk w b cs t) {o : Option Nat} (hB : w.grownBy w' o) (ho : o ≠ some b) : Blk w' b cs t := (hB.block b h.lt (fun e => ho e.symm)).trans h

/-- The cells of a row, one element behind the other. -/
def cellsOf {α : Type} (f : α → List Value) (l : List α) : List Value := l.flatMap f

theorem cellsOf_length {α : Type} {f : α → List Value} {n : Nat} (h : ∀ x, (f x).length = n) (l : List α) : (cellsOf f l).length = l.length * n := by
  induction l with
  | nil => simp [cellsOf]
  | cons a l ih =>
    have : cellsOf f (a :: l) = f a ++ cellsOf f l := rfl
    rw [this, List.length_append, ih, h, List.length_cons, Nat.add_mul]
    omega

theorem cellsOf_append {α : Type} (f : α → List Value) (a b : List α) : cellsOf f (a ++ b) = cellsOf f a ++ cellsOf f b := by simp [cellsOf]

theorem cellsOf_at {α : Type} {f : α → List Value} {n : Nat} (h : ∀ x, (f x).length = n) : ∀ (l : List α) (i : Nat) (x : α), l[i]? = some x → ∀ j v, (f x)[j]? = some v → (cellsOf f l)[i * n + j]? = some v
  | [], i, x, hx, _, _, _ => by simp at hx
  | a :: l, 0, x, hx, j, v, hv => by
    simp at hx
    subst hx
    have hj : j < (f a).length := (List.getElem?_eq_some_iff.1 hv).1
    have : cellsOf f (a :: l) = f a ++ cellsOf f l := rfl
    rw [this, Nat.zero_mul, Nat.zero_add, List.getElem?_append_left hj]
    exact hv
  | a :: l, i + 1, x, hx, j, v, hv => by
    have e : cellsOf f (a :: l) = f a ++ cellsOf f l := rfl
    have ih := cellsOf_at h l i x (by simpa using hx) j v hv
    have hk : (i + 1) * n + j = (f a).length + (i * n + j) := by rw [h, Nat.add_mul]; omega
    rw [e, hk, List.getElem?_append_right (by omega)]
    simpa using ih

/-- v is a slice that holds these elements, n cells each. -/
def RowX {α : Type} (f : α → List Value) (n : Nat) (w : World) (v : Value) (l : List α) : Prop :=
  ∃ ao cap, v = .slice ao l.length cap ∧ (l ≠ [] → ∃ b off, ao = some ⟨b, off, none⟩ ∧ b < w.heap.size ∧
    ∀ i x, l[i]? = some x → ∀ j c, (f x)[j]? = some c → w.cell? ⟨b, off + i * n + j, none⟩ = some c) ∧ (ao = none → cap = 0)

theorem RowX.kept {α : Type} {f : α → List Value} {n B : Nat} {w w' : World} {v : Value} {l : List α} (h : RowX f n w v l) (hB : Below B w w') (hs : w.heap.size ≤ B) : RowX f n w' v l := by
  obtain ⟨ao, cap, rfl, hc, hz⟩ := h
  refine ⟨ao, cap, rfl, fun hne => ?_, hz⟩
  obtain ⟨b, off, rfl, hb, hcell⟩ := hc hne
  have e : ∀ o, w'.cell? ⟨b, o, none⟩ = w.cell? ⟨b, o, none⟩ := fun o => hB.cell (p := ⟨b, o, none⟩) (by exact Nat.lt_of_lt_of_le hb hs)
  exact ⟨b, off, rfl, Nat.lt_of_lt_of_le hb hB.size, fun i x hx j c hc => by rw [e]; exact hcell i x hx j c hc⟩
theorem RowX.bel {α : Type} {f : α → List Value} {n : Nat} {w w' : World} {v : Value} {l : List α} (h : RowX f n w v l) (hB : Below w.heap.size w w') : RowX f n w' v l := h.kept hB (Nat.le_refl _)
theorem RowX.gr {α : Type} {f : α → List Value} {n : Nat} {w w' : World} {v : Value} {l : List α} (h : RowX f n w v l) (k : Gr w w') : RowX f n w' v l := h.bel k.below
theorem RowX.form {α : Type} {f : α → List Value} {n : Nat} {w : World} {v : Value} {l : List α} (h : RowX f n w v l) : ∃ ao cap, v = .slice ao l.length cap := by
  obtain ⟨ao, cap, rfl, _⟩ := h
  exact ⟨_, _, rfl⟩
theorem RowX.nil {α : Type} (f : α → List Value) (n : Nat) (w : World) : RowX f n w (.slice none 0 0) [] := ⟨none, 0, rfl, fun h => absurd rfl h, fun _ => rfl⟩

/-- Where an element lies: its block and the place of its first cell. -/
theorem RowX.at {α : Type} {f : α → List Value} {n : Nat} {w : World} {ao : Option Addr} {k cap : Nat} {l : List α} (h : RowX f n w (.slice ao k cap) l) {i : Nat} {x : α} (hx : l[i]? = some x) :
    ∃ b off, ao = some ⟨b, off, none⟩ ∧ b < w.heap.size ∧ ∀ j c, (f x)[j]? = some c → w.cell? ⟨b, off + i * n + j, none⟩ = some c := by
  obtain ⟨ao', cap', hv, hc, _⟩ := h
  injection hv with h1 h2 h3
  subst h1
  obtain ⟨b, off, rfl, hb, hcell⟩ := hc (by intro e; subst e; simp at hx)
  exact ⟨b, off, rfl, hb, fun j c hc => hcell i x hx j c hc⟩

/-- The call owns this row of elements. -/
def OwnX {α : Type} (f : α → List Value) (n : Nat) (t : TypeId) (base : Nat) (w : World) (v : Value) (l : List α) : Prop := w.ownsRow base t n v l.length (cellsOf f l)
theorem OwnX.form {α : Type} {f : α → List Value} {n : Nat} {t : TypeId} {base : Nat} {w : World} {v : Value} {l : List α} (h : OwnX f n t base w v l) : ∃ ao cap, v = .slice ao l.length cap := by
  rcases h.2 with ⟨rfl, h0⟩ | ⟨g, cap, cur, rfl, _⟩
  · exact ⟨none, 0, by rw [h0]⟩
  · exact ⟨_, _, rfl⟩
theorem OwnX.nil {α : Type} (f : α → List Value) (n : Nat) (t : TypeId) (base : Nat) (w : World) : OwnX f n t base w (.slice none 0 0) ([] : List α) := World.ownsRow_nil w base t n
theorem OwnX.alloc {α : Type} {f : α → List Value} {n : Nat} {t : TypeId} {base : Nat} {w : World} {v : Value} {l : List α} (h : OwnX f n t base w v l) (o : Obj) : OwnX f n t base (w.alloc o) v l := World.ownsRow.alloc h o
theorem OwnX.lt {α : Type} {f : α → List Value} {n : Nat} {t : TypeId} {base : Nat} {w : World} {v : Value} {l : List α} (h : OwnX f n t base w v l) {g : Nat} (hg : v.ownBlock = some g) : base ≤ g ∧ g < w.heap.size := World.ownsRow.lt h g hg
theorem OwnX.same {α : Type} {f : α → List Value} {n : Nat} {t : TypeId} {base : Nat} {w w' : World} {v : Value} {l : List α} (h : OwnX f n t base w v l) (hs : ∀ g, v.ownBlock = some g → w'.heap[g]? = w.heap[g]?) : OwnX f n t base w' v l := by
  refine ⟨h.1, ?_⟩
  rcases h.2 with h | ⟨g, cap, cur, rfl, hb, hg, h1⟩
  · exact .inl h
  · exact .inr ⟨g, cap, cur, rfl, hb, (hs g rfl).trans hg, h1⟩
theorem OwnX.lower {α : Type} {f : α → List Value} {n : Nat} {t : TypeId} {base base' : Nat} {w : World} {v : Value} {l : List α} (h : OwnX f n t base' w v l) (hb : base ≤ base') : OwnX f n t base w v l := by
  refine ⟨h.1, ?_⟩
  rcases h.2 with h | ⟨g, cap, cur, rfl, hg, h1⟩
  · exact .inl h
  · exact .inr ⟨g, cap, cur, rfl, Nat.le_trans hb hg, h1⟩
theorem OwnX.bel {α : Type} {f : α → List Value} {n : Nat} {t : TypeId} {base : Nat} {w w' : World} {v : Value} {l : List α} (h : OwnX f n t base w v l) (hB : Below w.heap.size w w') : OwnX f n t base w' v l :=
  h.same fun g hg => hB.block g (h.lt hg).2
theorem OwnX.gr {α : Type} {f : α → List Value} {n : Nat} {t : TypeId} {base : Nat} {w w' : World} {v : Value} {l : List α} (h : OwnX f n t base w v l) (k : Gr w w') : OwnX f n t base w' v l := h.bel k.below
theorem OwnX.setOther {α : Type} {f : α → List Value} {n : Nat} {t : TypeId} {base : Nat} {w : World} {v : Value} {l : List α} (h : OwnX f n t base w v l) {p : Addr} (hp : v.ownBlock ≠ some p.block) (z : Value) : OwnX f n t base (w.setCell p z) v l :=
  h.same fun g hg => Below.heap_setCell _ _ _ _ (fun e => hp (by rw [hg, e]))
theorem OwnX.notAt {α : Type} {f : α → List Value} {n : Nat} {t : TypeId} {base : Nat} {w : World} {v : Value} {l : List α} (h : OwnX f n t base w v l) {b : Nat} (hb : w.heap.size ≤ b) : v.ownBlock ≠ some b := by
  intro e
  have := (World.ownsRow.lt h b e).2
  omega

/-- What is owned is held. -/
theorem OwnX.row {α : Type} {f : α → List Value} {n : Nat} {t : TypeId} {base : Nat} {w : World} {v : Value} {l : List α} (hf : ∀ x, (f x).length = n) (h : OwnX f n t base w v l) : RowX f n w v l := by
  rcases h.2 with ⟨rfl, h0⟩ | ⟨g, cap, cur, rfl, hb, hg, hn, hm, hs, ht⟩
  · have : l = [] := List.length_eq_zero_iff.1 h0
    subst this
    exact RowX.nil f n w
  · refine ⟨_, cap, rfl, fun _ => ⟨g, 0, rfl, (Array.getElem?_eq_some_iff.1 hg).1, fun i x hx j c hc => ?_⟩, fun h => by cases h⟩
    have a1 := World.ownsRow.cells h (g := g) rfl _ _ (cellsOf_at hf l i x hx j c hc)
    have hadd : ∀ j, (⟨g, 0, none⟩ : Addr).add j = ⟨g, 0 + j, none⟩ := fun j => by unfold Addr.add; split <;> simp_all
    rw [hadd, ← Nat.add_assoc] at a1
    exact a1

theorem wp_appX {α : Type} {f : α → List Value} {n : Nat} {t T : TypeId} {z : Value} {bytes : Nat}
    (hinfo : (Tryd.prog.info? t).map (fun i => (i.zero, i.size, i.bytes)) = some (some z, n, bytes)) (hT : Tryd.prog.underlying T = some (.slice t)) (hf : ∀ x, (f x).length = n) (h1c : ∀ x, ∀ u ∈ f x, u.oneCell' = true) (hzs : z.cells.size = n) (hn : 0 < n) (hby : bytes ≤ 100)
    {w : World} {ops : Array Oper} {rest : List Oper} {o : Oper} {a : Act} {Q : Exit → Act → World → Prop} (hgd : o.guard = none) (s x : Operand)
    (ho : o.op = .call { callee := .builtin .append, args := #[s, x], argTypes := #[T, T] })
    (base : Nat) (v : Value) (l : List α) (hs : a.eval s = v) (hown : OwnX f n t base w v l) (y : α)
    (blk : Nat) (hx : a.eval x = .slice (some ⟨blk, 0, none⟩) 1 1) (cs : Array Value) (hb : Blk w blk cs t) (hcs : cs.toList = f y)
    (hl : l.length ≤ 1000000) (hbase : base ≤ w.heap.size)
    (h : ∀ g cap w', OwnX f n t base w' (.slice (some ⟨g, 0, none⟩) (l.length + 1) cap) (l ++ [y]) → w.grownBy w' v.ownBlock → (v.ownBlock = some g ∨ g = w.heap.size) → g < w'.heap.size → wpList Tryd.prog ops Q rest (a.put o.dst (.slice (some ⟨g, 0, none⟩) (l.length + 1) cap)) w') : wpList Tryd.prog ops Q (o :: rest) a w := by
  obtain ⟨i, hi, hz, hz1, hz2⟩ := info_parts hinfo
  refine wpList_append_lies w hgd s x T ho base t i _ n bytes hT hi hz hz1 hz2 hzs hn v l.length (cellsOf f l) hs hown ⟨blk, 0, none⟩ 1 1 (f y) hx (by rw [hf]; omega) ?_ (h1c y) (by decide) (by unfold maxLen; omega) ?_ hbase w.heap.size rfl ?_
  · intro j u hu
    have hadd : (⟨blk, 0, none⟩ : Addr).add j = ⟨blk, j, none⟩ := by unfold Addr.add; split <;> simp_all
    rw [hadd, hb.c, ← Array.getElem?_toList, hcs]
    exact hu
  · have : (l.length + 1) * bytes ≤ 1000001 * 100 := Nat.mul_le_mul (by omega) hby
    omega
  · intro g cap w' how hgr hg hlt
    refine h g cap w' ?_ hgr hg hlt
    show w'.ownsRow base t n _ (l ++ [y]).length (cellsOf f (l ++ [y]))
    rw [cellsOf_append, List.length_append]
    have : cellsOf f [y] = f y := by simp [cellsOf]
    rw [this]
    exact how

/-- 'append' of all of a slice to a row of the call's own. -/
theorem wp_appXall {α : Type} {f : α → List Value} {n : Nat} {t T : TypeId} {z : Value} {bytes : Nat}
    (hinfo : (Tryd.prog.info? t).map (fun i => (i.zero, i.size, i.bytes)) = some (some z, n, bytes)) (hT : Tryd.prog.underlying T = some (.slice t)) (hf : ∀ x, (f x).length = n) (h1c : ∀ x, ∀ u ∈ f x, u.oneCell' = true) (hzs : z.cells.size = n) (hn : 0 < n)
    {w : World} {ops : Array Oper} {rest : List Oper} {o : Oper} {a : Act} {Q : Exit → Act → World → Prop} (hgd : o.guard = none) (s x : Operand)
    (ho : o.op = .call { callee := .builtin .append, args := #[s, x], argTypes := #[T, T] })
    (base : Nat) (v : Value) (l : List α) (hs : a.eval s = v) (hown : OwnX f n t base w v l) (u : Value) (m : List α) (hx : a.eval x = u) (hu : RowX f n w u m)
    (hl : l.length + m.length ≤ 4611686018427387903) (hlb : (l.length + m.length) * bytes ≤ 140737488355328) (hbase : base ≤ w.heap.size)
    (h : ∀ v' w', OwnX f n t base w' v' (l ++ m) → Below base w w' → wpList Tryd.prog ops Q rest (a.put o.dst v') w') : wpList Tryd.prog ops Q (o :: rest) a w := by
  obtain ⟨i, hi, hz, hz1, hz2⟩ := info_parts hinfo
  obtain ⟨ao, cap, rfl, hc, hn'⟩ := hu
  by_cases hm : m = []
  · subst hm
    cases ao with
    | none =>
      rw [hn' rfl] at hx
      refine wpList_plain hgd fun K hK' => ?_
      have hrun := run_append_owned_none (P := Tryd.prog) w base T o.type t i n hT hi v l.length (cellsOf f l) hown
      unfold Oper.wp
      simp only [List.length_nil] at hx
      simp [execOp, ho, resolve, invoke, builtin, hs, hx, hrun, Result.andThen]
      exact hK' _ _ (h v w (by simpa using hown) (Below.refl _ _))
    | some ad =>
      refine wpList_append_own w hgd s x T ho base t i _ n bytes hT hi hz hz1 hz2 hzs hn v l.length (cellsOf f l) hs hown ad 0 cap [] hx (by simp) (by simp) (by simp) (by unfold maxLen; simp at hl; omega) ?_ hbase ?_
      · simpa using hlb
      · intro v' w' how hgr hv
        exact h v' w' (by simpa [OwnX] using how) ((Below.refl base w).grown hgr hbase (fun k hk => (World.ownsRow.lt hown k hk).1))
  · obtain ⟨b, off, rfl, hb, hcell⟩ := hc hm
    refine wpList_append_lies w hgd s x T ho base t i _ n bytes hT hi hz hz1 hz2 hzs hn v l.length (cellsOf f l) hs hown ⟨b, off, none⟩ m.length cap (cellsOf f m) hx (cellsOf_length hf m) ?_ ?_ (by have := List.length_pos_iff.2 hm; omega) (by unfold maxLen; omega) ?_ hbase w.heap.size rfl ?_
    · intro j q hq
      have hadd : (⟨b, off, none⟩ : Addr).add j = ⟨b, off + j, none⟩ := by unfold Addr.add; split <;> simp_all
      rw [hadd]
      have hj : j < m.length * n := by rw [← cellsOf_length hf m]; exact (List.getElem?_eq_some_iff.1 hq).1
      have hlt : j / n < m.length := (Nat.div_lt_iff_lt_mul hn).2 hj
      obtain ⟨x, hx⟩ : ∃ x, m[j / n]? = some x := ⟨_, List.getElem?_eq_getElem hlt⟩
      have hmod : j % n < (f x).length := by rw [hf]; exact Nat.mod_lt _ hn
      obtain ⟨c, hc⟩ : ∃ c, (f x)[j % n]? = some c := ⟨_, List.getElem?_eq_getElem hmod⟩
      have e1 := cellsOf_at hf m (j / n) x hx (j % n) c hc
      have e2 := hcell (j / n) x hx (j % n) c hc
      have e3 : j / n * n + j % n = j := by rw [Nat.mul_comm]; exact Nat.div_add_mod j n
      rw [e3, hq] at e1
      rw [Nat.add_assoc, e3] at e2
      rw [e2, ← e1]
    · intro q hq
      obtain ⟨x, _, hx⟩ := List.mem_flatMap.1 hq
      exact h1c x q hx
    · exact hlb
    · intro g cap' w' how hgr hg hlt
      refine h _ w' ?_ ((Below.refl base w).grown hgr hbase (fun k hk => (World.ownsRow.lt hown k hk).1))
      show w'.ownsRow base t n _ (l ++ m).length (cellsOf f (l ++ m))
      rw [cellsOf_append, List.length_append]
      exact how

theorem grownBy_same (w : World) (o : Option Nat) : w.grownBy w o := ⟨rfl, rfl, rfl, Nat.le_refl _, fun _ _ _ => rfl⟩

/-- All of a slice behind a row of the call's own. -/
theorem step_appXall {α : Type} {f : α → List Value} {n : Nat} {t T : TypeId} {z : Value} {bytes : Nat}
    (hinfo : (Tryd.prog.info? t).map (fun i => (i.zero, i.size, i.bytes)) = some (some z, n, bytes)) (hT : Tryd.prog.underlying T = some (.slice t)) (hf : ∀ x, (f x).length = n) (h1c : ∀ x, ∀ u ∈ f x, u.oneCell' = true) (hzs : z.cells.size = n) (hn : 0 < n)
    {w : World} {ops : Array Oper} {o : Oper} {a : Act} {K : Act → World → Prop} {Q : Exit → Act → World → Prop} {E : Prop} (hgd : o.guard = none) (s x : Operand)
    (ho : o.op = .call { callee := .builtin .append, args := #[s, x], argTypes := #[T, T] })
    (base : Nat) (v : Value) (l : List α) (hs : a.eval s = v) (hown : OwnX f n t base w v l) (u : Value) (m : List α) (hx : a.eval x = u) (hu : RowX f n w u m)
    (hl : l.length + m.length ≤ 4611686018427387903) (hlb : (l.length + m.length) * bytes ≤ 140737488355328) (hbase : base ≤ w.heap.size)
    (h : ∀ v' w', OwnX f n t base w' v' (l ++ m) → w.grownBy w' v.ownBlock → K (a.put o.dst v') w') : if Region.wanted o (yielded ops a.tmps) = true then Oper.wp Tryd.prog o a w K Q else E := by
  have hw : Region.wanted o (yielded ops a.tmps) = true := by simp [Region.wanted, hgd]
  rw [if_pos hw]
  obtain ⟨i, hi, hz, hz1, hz2⟩ := info_parts hinfo
  obtain ⟨ao, cap, rfl, hc, hn'⟩ := hu
  by_cases hm : m = []
  · subst hm
    cases ao with
    | none =>
      rw [hn' rfl] at hx
      have hrun := run_append_owned_none (P := Tryd.prog) w base T o.type t i n hT hi v l.length (cellsOf f l) hown
      unfold Oper.wp
      simp only [List.length_nil] at hx
      simp [execOp, ho, resolve, invoke, builtin, hs, hx, hrun, Result.andThen]
      exact h v w (by simpa using hown) (grownBy_same _ _)
    | some ad =>
      refine wp_append_own w s x T ho base t i _ n bytes hT hi hz hz1 hz2 hzs hn v l.length (cellsOf f l) hs hown ad 0 cap [] hx (by simp) (by simp) (by simp) (by unfold maxLen; simp at hl; omega) ?_ hbase ?_
      · simpa using hlb
      · intro v' w' how hgr hv
        exact h v' w' (by simpa [OwnX] using how) hgr
  · obtain ⟨b, off, rfl, hb, hcell⟩ := hc hm
    refine wp_append_lies w s x T ho base t i _ n bytes hT hi hz hz1 hz2 hzs hn v l.length (cellsOf f l) hs hown ⟨b, off, none⟩ m.length cap (cellsOf f m) hx (cellsOf_length hf m) ?_ ?_ (by have := List.length_pos_iff.2 hm; omega) (by unfold maxLen; omega) ?_ hbase w.heap.size rfl ?_
    · intro j q hq
      have hadd : (⟨b, off, none⟩ : Addr).add j = ⟨b, off + j, none⟩ := by unfold Addr.add; split <;> simp_all
      rw [hadd]
      have hj : j < m.length * n := by rw [← cellsOf_length hf m]; exact (List.getElem?_eq_some_iff.1 hq).1
      have hlt : j / n < m.length := (Nat.div_lt_iff_lt_mul hn).2 hj
      obtain ⟨x, hx⟩ : ∃ x, m[j / n]? = some x := ⟨_, List.getElem?_eq_getElem hlt⟩
      have hmod : j % n < (f x).length := by rw [hf]; exact Nat.mod_lt _ hn
      obtain ⟨c, hc⟩ : ∃ c, (f x)[j % n]? = some c := ⟨_, List.getElem?_eq_getElem hmod⟩
      have e1 := cellsOf_at hf m (j / n) x hx (j % n) c hc
      have e2 := hcell (j / n) x hx (j % n) c hc
      have e3 : j / n * n + j % n = j := by rw [Nat.mul_comm]; exact Nat.div_add_mod j n
      rw [e3, hq] at e1
      rw [Nat.add_assoc, e3] at e2
      rw [e2, ← e1]
    · intro q hq
      obtain ⟨x, _, hx⟩ := List.mem_flatMap.1 hq
      exact h1c x q hx
    · exact hlb
    · intro g cap' w' how hgr hg hlt
      refine h _ w' ?_ hgr
      show w'.ownsRow base t n _ (l ++ m).length (cellsOf f (l ++ m))
      rw [cellsOf_append, List.length_append]
      exact how

/-- A shut word: nothing looks inside. -/
structure Bx (p : Prop) : Prop where
  out : p

theorem wpQuiet_stepB {P : Program} {ops : Array Oper} {C : World → Prop} {Q : Act → Prop} {a : Act} {o : Oper} {rest : List Oper}
    (h : ∀ K : Act → Prop, (∀ a, Bx (wpQuiet P ops C Q rest a) → K a) → if Region.wanted o (yielded ops a.tmps) then o.quiet P a C K else K (a.put o.dst undef)) : Bx (wpQuiet P ops C Q (o :: rest) a) :=
  ⟨wpQuiet_step fun K hK => h K fun a ha => hK a ha.out⟩

theorem wpQuiet_nilB {P : Program} {ops : Array Oper} {C : World → Prop} {Q : Act → Prop} {a : Act} (h : Q a) : Bx (wpQuiet P ops C Q [] a) := ⟨wpQuiet_nil h⟩

theorem wp_region_quiet_grownB {P : Program} {id : Nat} {Q : Exit → Act → World → Prop} {a : Act} {w : World} {l : List Oper} (hm : P.follows .mixedOrders = true) (hB : Region.lexB .any l.toArray = true)
    (h : Bx (wpQuiet P l.toArray (fun w' => ∃ p : GrownBy, w' = Sort.grow (w.drewN p.n) p.os) (fun a' => ∀ w', (∃ p : GrownBy, w' = Sort.grow (w.drewN p.n) p.os) → Q .normal a' w') l a)) : (Code.region id l.toArray true).wp P Q a w := wp_region_quiet_grown hm hB h.out

theorem add_none (b off j : Nat) : (⟨b, off, none⟩ : Addr).add j = ⟨b, off + j, none⟩ := by unfold Addr.add; split <;> simp_all

end Go.Proofs.YtihnmamejfoeeaaDoor
