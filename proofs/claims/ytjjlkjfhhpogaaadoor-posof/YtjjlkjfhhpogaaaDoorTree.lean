/-
  What stays where nothing old turns; blocks; rows of elements by an encoding, held and owned; 'append' to them.
  Patterns in memory: held, and owned.
-/
import Derived.Test.YtjjlkjfhhpogaaaDoorMath2
import Derived.Test.YtjjlkjfhhpogaaaDoorRows
import Derived.WalkKit
import Derived.WalkSpells
import Derived.Sort.Grow
import Derived.Deep.Draws
import Derived.BigQuiet
import Derived.Deep.QuietTactic
import Derived.Laws.StructEq
import Derived.Shelf.SlSortCmp.QuietGrown
import Derived.Deep.AppendLies
namespace Go.Proofs.YtjjlkjfhhpogaaaDoor
open Go.RowKit

theorem ne_nil_of_lt {α : Type} {l : List α} {k : Nat} (h : k < l.length) : l ≠ [] := by
  intro e; subst e; simp at h

/-- Nothing old has turned: some draws, some new blocks. -/
abbrev Gr (w w' : World) : Prop := ∃ n os, w' = Sort.grow (w.drewN n) os

theorem below_drewN {B : Nat} {a w : World} (h : Below B a w) : ∀ n, Below B a (w.drewN n) := fun _ => ⟨h.os, h.tape, h.output, h.size, h.block⟩

theorem below_grow {B : Nat} {a w : World} (h : Below B a w) (hs : B ≤ w.heap.size) (n : Nat) (os : Array Obj) : Below B a (Sort.grow (w.drewN n) os) :=
  ⟨h.os, h.tape, h.output, by have := h.size; simp; exact Nat.le_trans this (Nat.le_add_right _ _), fun k hk => by
    show (w.heap ++ os)[k]? = _
    rw [Array.getElem?_append_left (by omega)]
    exact h.block k hk⟩

theorem Gr.below {w w' : World} (h : Gr w w') : Below w.heap.size w w' := by
  obtain ⟨q, os, rfl⟩ := h
  exact below_grow (Below.refl _ _) (Nat.le_refl _) q os

theorem Gr.drawn {w w' : World} (h : Gr w w') : w.drawn ≤ w'.drawn := by
  obtain ⟨q, os, rfl⟩ := h
  exact Nat.le_add_right _ _

theorem Gr.of {w w' : World} (h : Below w.heap.size w w') (hd : w.drawn ≤ w'.drawn) : Gr w w' := by
  refine ⟨w'.drawn - w.drawn, w'.heap.extract w.heap.size w'.heap.size, ?_⟩
  obtain ⟨hp, tp, dr, os, out⟩ := w'
  have h1 := h.os; have h2 := h.tape; have h3 := h.output; have h4 := h.size; have h5 := h.block
  simp only at h1 h2 h3 h4 h5 hd
  subst h1; subst h2; subst h3
  have e : w.drawn + (dr - w.drawn) = dr := by omega
  simp only [Sort.grow, World.drewN, e]
  congr 1
  apply Array.ext_getElem?
  intro i
  by_cases hi : i < w.heap.size
  · rw [Array.getElem?_append_left hi, h5 i hi]
  · rw [Array.getElem?_append_right (by omega), Array.getElem?_extract]
    by_cases hj : i < hp.size
    · rw [if_pos (by omega)]
      congr 1
      omega
    · rw [if_neg (by omega), Array.getElem?_eq_none (by omega)]

theorem Gr.refl (w : World) : Gr w w := ⟨0, #[], (Go.Sort.grow_empty w).symm⟩

theorem Gr.trans {a b c : World} (h : Gr a b) (k : Gr b c) : Gr a c := by
  obtain ⟨q, os, rfl⟩ := h
  obtain ⟨r, ps, rfl⟩ := k
  exact ⟨q + r, os ++ ps, by show Sort.grow (Sort.grow ((a.drewN q).drewN r) os) ps = _; rw [Go.Sort.grow_grow, World.drewN_drewN]⟩

theorem Gr.alloc {a w : World} (h : Gr a w) (o : Obj) : Gr a (w.alloc o) := h.trans ⟨0, #[o], by rw [Go.Sort.alloc_eq_grow]; rfl⟩
theorem Gr.drewN {a w : World} (h : Gr a w) (n : Nat) : Gr a (w.drewN n) := h.trans ⟨n, #[], (Go.Sort.grow_empty _).symm⟩
theorem Gr.setCell {a w : World} (h : Gr a w) {p : Addr} (hp : a.heap.size ≤ p.block) (u : Value) : Gr a (w.setCell p u) := Gr.of (h.below.setCell hp u) h.drawn

/-- One step more: nothing below has turned. -/
theorem bstep {w a b : World} (h : Below w.heap.size w a) (k : Below a.heap.size a b) : Below w.heap.size w b := h.trans (k.mono h.size)

theorem owns_set {w : World} {base : Nat} {e : TypeId} {size g n cap : Nat} {xs : List Value} (h : w.ownsRow base e size (.slice (some ⟨g, 0, none⟩) n cap) n xs) (j : Nat) (u : Value) :
    (w.setCell ⟨g, j, none⟩ u).ownsRow base e size (.slice (some ⟨g, 0, none⟩) n cap) n (xs.set j u) := by
  obtain ⟨hx, hr⟩ := h
  refine ⟨by simpa using hx, .inr ?_⟩
  rcases hr with ⟨hv, _⟩ | ⟨g', cap', cur, hv, hb, hg, hn, hm, hs, ht⟩
  · simp at hv
  · simp at hv
    obtain ⟨rfl, rfl⟩ := hv
    refine ⟨g, cap, cur.setIfInBounds j u, rfl, hb, heap_setCell_same w g j cur e u hg, hn, hm, by simpa using hs, ?_⟩
    rw [Array.toList_setIfInBounds, ← ht]
    rw [List.take_set]

/-- A block of cells of the call's own. -/
def Blk (W : World) (b : Nat) (cs : Array Value) (t : TypeId) : Prop := W.heap[b]? = some (.cells cs t (0, 0))

theorem Blk.lt {w : World} {b : Nat} {cs : Array Value} {t : TypeId} (h : Blk w b cs t) : b < w.heap.size := (Array.getElem?_eq_some_iff.1 h).1
theorem Blk.new (w : World) (cs : Array Value) (t : TypeId) : Blk (w.alloc (.cells cs t)) w.heap.size cs t := heap_alloc_new w _
theorem Blk.new' (w : World) (cs : Array Value) (t : TypeId) (b : Nat) (hb : b = w.heap.size) : Blk (w.alloc (.cells cs t)) b cs t := by subst hb; exact Blk.new _ _ _
theorem Blk.bel {w w' : World} {b : Nat} {cs : Array Value} {t : TypeId} (h : Blk w b cs t) (hB : Below w.heap.size w w') : Blk w' b cs t := (hB.block b h.lt).trans h
theorem Blk.gr {w w' : World} {b : Nat} {cs : Array Value} {t : TypeId} (h : Blk w b cs t) (k : Gr w w') : Blk w' b cs t := h.bel k.below
theorem Blk.grow {w : World} {b : Nat} {cs : Array Value} {t : TypeId} (h : Blk w b cs t) (n : Nat) (os : Array Obj) : Blk (Sort.grow (w.drewN n) os) b cs t := h.gr ⟨n, os, rfl⟩
theorem Blk.drewN {w : World} {b : Nat} {cs : Array Value} {t : TypeId} (h : Blk w b cs t) (n : Nat) : Blk (w.drewN n) b cs t := h
theorem Blk.alloc {w : World} {b : Nat} {cs : Array Value} {t : TypeId} (h : Blk w b cs t) (o : Obj) : Blk (w.alloc o) b cs t := h.bel ((Below.refl _ _).alloc (Nat.le_refl _) o)
theorem Blk.other {w : World} {b : Nat} {cs : Array Value} {t : TypeId} (h : Blk w b cs t) {p : Addr} (hp : b ≠ p.block) (z : Value) : Blk (w.setCell p z) b cs t := (Below.heap_setCell _ _ _ _ hp).trans h
theorem Blk.set {w : World} {b : Nat} {cs : Array Value} {t : TypeId} (h : Blk w b cs t) (i : Nat) (z : Value) : Blk (w.setCell ⟨b, i, none⟩ z) b (cs.setIfInBounds i z) t := heap_setCell_same w b i _ t z h
theorem Blk.frozen {w : World} {b : Nat} {cs : Array Value} {t : TypeId} (h : Blk w b cs t) (o : Nat) : w.frozen? ⟨b, o, none⟩ = false := by
  unfold Blk at h
  simp [World.frozen?, h]
theorem Blk.c {w : World} {b : Nat} {cs : Array Value} {t : TypeId} (h : Blk w b cs t) (i : Nat) : w.cell? ⟨b, i, none⟩ = cs[i]? := by
  unfold Blk at h
  simp [World.cell?, h]
theorem Blk.grown {w w' : World} {b : Nat} {cs : Array Value} {t : TypeId} (h : Blk w b cs t) {o : Option Nat} (hB : w.grownBy w' o) (ho : o ≠ some b) : Blk w' b cs t := (hB.block b h.lt (fun e => ho e.symm)).trans h

/-- The cells of a row, one element behind the other. -/
def cellsOf {α : Type} (f : α → List Value) (l : List α) : List Value := l.flatMap f

theorem cellsOf_length {α : Type} {f : α → List Value} {n : Nat} (h : ∀ x, (f x).length = n) (l : List α) : (cellsOf f l).length = l.length * n := by
  induction l with
  | nil => simp [cellsOf]
  | cons a l ih =>
    have : cellsOf f (a :: l) = f a ++ cellsOf f l := rfl
    rw [this, List.length_append, ih, h, List.length_cons, Nat.add_mul]
    omega

theorem cellsOf_append {α : Type} (f : α → List Value) (a b : List α) : cellsOf f (a ++ b) = cellsOf f a ++ cellsOf f b := by simp [cellsOf]

theorem cellsOf_at {α : Type} {f : α → List Value} {n : Nat} (h : ∀ x, (f x).length = n) : ∀ (l : List α) (i : Nat) (x : α), l[i]? = some x → ∀ j v, (f x)[j]? = some v → (cellsOf f l)[i * n + j]? = some v
  | [], i, x, hx, _, _, _ => by simp at hx
  | a :: l, 0, x, hx, j, v, hv => by
    simp at hx
    subst hx
    have hj : j < (f a).length := (List.getElem?_eq_some_iff.1 hv).1
    have : cellsOf f (a :: l) = f a ++ cellsOf f l := rfl
    rw [this, Nat.zero_mul, Nat.zero_add, List.getElem?_append_left hj]
    exact hv
  | a :: l, i + 1, x, hx, j, v, hv => by
    have e : cellsOf f (a :: l) = f a ++ cellsOf f l := rfl
    have ih := cellsOf_at h l i x (by simpa using hx) j v hv
    have hk : (i + 1) * n + j = (f a).length + (i * n + j) := by rw [h, Nat.add_mul]; omega
    rw [e, hk, List.getElem?_append_right (by omega)]
    simpa using ih

/-- v is a slice that holds these elements, n cells each. -/
def RowX {α : Type} (f : α → List Value) (n : Nat) (w : World) (v : Value) (l : List α) : Prop :=
  ∃ ao cap, v = .slice ao l.length cap ∧ (l ≠ [] → ∃ b off, ao = some ⟨b, off, none⟩ ∧ b < w.heap.size ∧
    ∀ i x, l[i]? = some x → ∀ j c, (f x)[j]? = some c → w.cell? ⟨b, off + i * n + j, none⟩ = some c) ∧ (ao = none → cap = 0)

theorem RowX.kept {α : Type} {f : α → List Value} {n B : Nat} {w w' : World} {v : Value} {l : List α} (h : RowX f n w v l) (hB : Below B w w') (hs : w.heap.size ≤ B) : RowX f n w' v l := by
  obtain ⟨ao, cap, rfl, hc, hz⟩ := h
  refine ⟨ao, cap, rfl, fun hne => ?_, hz⟩
  obtain ⟨b, off, rfl, hb, hcell⟩ := hc hne
  have e : ∀ o, w'.cell? ⟨b, o, none⟩ = w.cell? ⟨b, o, none⟩ := fun o => hB.cell (p := ⟨b, o, none⟩) (by exact Nat.lt_of_lt_of_le hb hs)
  exact ⟨b, off, rfl, Nat.lt_of_lt_of_le hb hB.size, fun i x hx j c hc => by rw [e]; exact hcell i x hx j c hc⟩
theorem RowX.bel {α : Type} {f : α → List Value} {n : Nat} {w w' : World} {v : Value} {l : List α} (h : RowX f n w v l) (hB : Below w.heap.size w w') : RowX f n w' v l := h.kept hB (Nat.le_refl _)
theorem RowX.gr {α : Type} {f : α → List Value} {n : Nat} {w w' : World} {v : Value} {l : List α} (h : RowX f n w v l) (k : Gr w w') : RowX f n w' v l := h.bel k.below
theorem RowX.form {α : Type} {f : α → List Value} {n : Nat} {w : World} {v : Value} {l : List α} (h : RowX f n w v l) : ∃ ao cap, v = .slice ao l.length cap := by
  obtain ⟨ao, cap, rfl, _⟩ := h
  exact ⟨_, _, rfl⟩
theorem RowX.nil {α : Type} (f : α → List Value) (n : Nat) (w : World) : RowX f n w (.slice none 0 0) [] := ⟨none, 0, rfl, fun h => absurd rfl h, fun _ => rfl⟩

/-- Where an element lies: its block and the place of its first cell. -/
theorem RowX.at {α : Type} {f : α → List Value} {n : Nat} {w : World} {ao : Option Addr} {k cap : Nat} {l : List α} (h : RowX f n w (.slice ao k cap) l) {i : Nat} {x : α} (hx : l[i]? = some x) :
    ∃ b off, ao = some ⟨b, off, none⟩ ∧ b < w.heap.size ∧ ∀ j c, (f x)[j]? = some c → w.cell? ⟨b, off + i * n + j, none⟩ = some c := by
  obtain ⟨ao', cap', hv, hc, _⟩ := h
  injection hv with h1 h2 h3
  subst h1
  obtain ⟨b, off, rfl, hb, hcell⟩ := hc (by intro e; subst e; simp at hx)
  exact ⟨b, off, rfl, hb, fun j c hc => hcell i x hx j c hc⟩

/-- The call owns this row of elements. -/
def OwnX {α : Type} (f : α → List Value) (n : Nat) (t : TypeId) (base : Nat) (w : World) (v : Value) (l : List α) : Prop := w.ownsRow base t n v l.length (cellsOf f l)
theorem OwnX.form {α : Type} {f : α → List Value} {n : Nat} {t : TypeId} {base : Nat} {w : World} {v : Value} {l : List α} (h : OwnX f n t base w v l) : ∃ ao cap, v = .slice ao l.length cap := by
  rcases h.2 with ⟨rfl, h0⟩ | ⟨g, cap, cur, rfl, _⟩
  · exact ⟨none, 0, by rw [h0]⟩
  · exact ⟨_, _, rfl⟩
theorem OwnX.nil {α : Type} (f : α → List Value) (n : Nat) (t : TypeId) (base : Nat) (w : World) : OwnX f n t base w (.slice none 0 0) ([] : List α) := World.ownsRow_nil w base t n
theorem OwnX.alloc {α : Type} {f : α → List Value} {n : Nat} {t : TypeId} {base : Nat} {w : World} {v : Value} {l : List α} (h : OwnX f n t base w v l) (o : Obj) : OwnX f n t base (w.alloc o) v l := World.ownsRow.alloc h o
theorem OwnX.lt {α : Type} {f : α → List Value} {n : Nat} {t : TypeId} {base : Nat} {w : World} {v : Value} {l : List α} (h : OwnX f n t base w v l) {g : Nat} (hg : v.ownBlock = some g) : base ≤ g ∧ g < w.heap.size := World.ownsRow.lt h g hg
theorem OwnX.same {α : Type} {f : α → List Value} {n : Nat} {t : TypeId} {base : Nat} {w w' : World} {v : Value} {l : List α} (h : OwnX f n t base w v l) (hs : ∀ g, v.ownBlock = some g → w'.heap[g]? = w.heap[g]?) : OwnX f n t base w' v l := by
  refine ⟨h.1, ?_⟩
  rcases h.2 with h | ⟨g, cap, cur, rfl, hb, hg, h1⟩
  · exact .inl h
  · exact .inr ⟨g, cap, cur, rfl, hb, (hs g rfl).trans hg, h1⟩
theorem OwnX.lower {α : Type} {f : α → List Value} {n : Nat} {t : TypeId} {base base' : Nat} {w : World} {v : Value} {l : List α} (h : OwnX f n t base' w v l) (hb : base ≤ base') : OwnX f n t base w v l := by
  refine ⟨h.1, ?_⟩
  rcases h.2 with h | ⟨g, cap, cur, rfl, hg, h1⟩
  · exact .inl h
  · exact .inr ⟨g, cap, cur, rfl, Nat.le_trans hb hg, h1⟩
theorem OwnX.bel {α : Type} {f : α → List Value} {n : Nat} {t : TypeId} {base : Nat} {w w' : World} {v : Value} {l : List α} (h : OwnX f n t base w v l) (hB : Below w.heap.size w w') : OwnX f n t base w' v l :=
  h.same fun g hg => hB.block g (h.lt hg).2
theorem OwnX.gr {α : Type} {f : α → List Value} {n : Nat} {t : TypeId} {base : Nat} {w w' : World} {v : Value} {l : List α} (h : OwnX f n t base w v l) (k : Gr w w') : OwnX f n t base w' v l := h.bel k.below
theorem OwnX.setOther {α : Type} {f : α → List Value} {n : Nat} {t : TypeId} {base : Nat} {w : World} {v : Value} {l : List α} (h : OwnX f n t base w v l) {p : Addr} (hp : v.ownBlock ≠ some p.block) (z : Value) : OwnX f n t base (w.setCell p z) v l :=
  h.same fun g hg => Below.heap_setCell _ _ _ _ (fun e => hp (by rw [hg, e]))
theorem OwnX.notAt {α : Type} {f : α → List Value} {n : Nat} {t : TypeId} {base : Nat} {w : World} {v : Value} {l : List α} (h : OwnX f n t base w v l) {b : Nat} (hb : w.heap.size ≤ b) : v.ownBlock ≠ some b := by
  intro e
  have := (World.ownsRow.lt h b e).2
  omega

/-- What is owned is held. -/
theorem OwnX.row {α : Type} {f : α → List Value} {n : Nat} {t : TypeId} {base : Nat} {w : World} {v : Value} {l : List α} (hf : ∀ x, (f x).length = n) (h : OwnX f n t base w v l) : RowX f n w v l := by
  rcases h.2 with ⟨rfl, h0⟩ | ⟨g, cap, cur, rfl, hb, hg, hn, hm, hs, ht⟩
  · have : l = [] := List.length_eq_zero_iff.1 h0
    subst this
    exact RowX.nil f n w
  · refine ⟨_, cap, rfl, fun _ => ⟨g, 0, rfl, (Array.getElem?_eq_some_iff.1 hg).1, fun i x hx j c hc => ?_⟩, fun h => by cases h⟩
    have a1 := World.ownsRow.cells h (g := g) rfl _ _ (cellsOf_at hf l i x hx j c hc)
    have hadd : ∀ j, (⟨g, 0, none⟩ : Addr).add j = ⟨g, 0 + j, none⟩ := fun j => by unfold Addr.add; split <;> simp_all
    rw [hadd, ← Nat.add_assoc] at a1
    exact a1

theorem wp_appX {α : Type} {f : α → List Value} {n : Nat} {t T : TypeId} {z : Value} {bytes : Nat}
    (hinfo : (Tryd.prog.info? t).map (fun i => (i.zero, i.size, i.bytes)) = some (some z, n, bytes)) (hT : Tryd.prog.underlying T = some (.slice t)) (hf : ∀ x, (f x).length = n) (h1c : ∀ x, ∀ u ∈ f x, u.oneCell' = true) (hzs : z.cells.size = n) (hn : 0 < n) (hby : bytes ≤ 100)
    {w : World} {ops : Array Oper} {rest : List Oper} {o : Oper} {a : Act} {Q : Exit → Act → World → Prop} (hgd : o.guard = none) (s x : Operand)
    (ho : o.op = .call { callee := .builtin .append, args := #[s, x], argTypes := #[T, T] })
    (base : Nat) (v : Value) (l : List α) (hs : a.eval s = v) (hown : OwnX f n t base w v l) (y : α)
    (blk : Nat) (hx : a.eval x = .slice (some ⟨blk, 0, none⟩) 1 1) (cs : Array Value) (hb : Blk w blk cs t) (hcs : cs.toList = f y)
    (hl : l.length ≤ 1000000) (hbase : base ≤ w.heap.size)
    (h : ∀ g cap w', OwnX f n t base w' (.slice (some ⟨g, 0, none⟩) (l.length + 1) cap) (l ++ [y]) → w.grownBy w' v.ownBlock → (v.ownBlock = some g ∨ g = w.heap.size) → g < w'.heap.size → wpList Tryd.prog ops Q rest (a.put o.dst (.slice (some ⟨g, 0, none⟩) (l.length + 1) cap)) w') : wpList Tryd.prog ops Q (o :: rest) a w := by
  obtain ⟨i, hi, hz, hz1, hz2⟩ := info_parts hinfo
  refine wpList_append_lies w hgd s x T ho base t i _ n bytes hT hi hz hz1 hz2 hzs hn v l.length (cellsOf f l) hs hown ⟨blk, 0, none⟩ 1 1 (f y) hx (by rw [hf]; omega) ?_ (h1c y) (by decide) (by unfold maxLen; omega) ?_ hbase w.heap.size rfl ?_
  · intro j u hu
    have hadd : (⟨blk, 0, none⟩ : Addr).add j = ⟨blk, j, none⟩ := by unfold Addr.add; split <;> simp_all
    rw [hadd, hb.c, ← Array.getElem?_toList, hcs]
    exact hu
  · have : (l.length + 1) * bytes ≤ 1000001 * 100 := Nat.mul_le_mul (by omega) hby
    omega
  · intro g cap w' how hgr hg hlt
    refine h g cap w' ?_ hgr hg hlt
    show w'.ownsRow base t n _ (l ++ [y]).length (cellsOf f (l ++ [y]))
    rw [cellsOf_append, List.length_append]
    have : cellsOf f [y] = f y := by simp [cellsOf]
    rw [this]
    exact how

/-- 'append' of all of a slice to a row of the call's own. -/
theorem wp_appXall {α : Type} {f : α → List Value} {n : Nat} {t T : TypeId} {z : Value} {bytes : Nat}
    (hinfo : (Tryd.prog.info? t).map (fun i => (i.zero, i.size, i.bytes)) = some (some z, n, bytes)) (hT : Tryd.prog.underlying T = some (.slice t)) (hf : ∀ x, (f x).length = n) (h1c : ∀ x, ∀ u ∈ f x, u.oneCell' = true) (hzs : z.cells.size = n) (hn : 0 < n)
    {w : World} {ops : Array Oper} {rest : List Oper} {o : Oper} {a : Act} {Q : Exit → Act → World → Prop} (hgd : o.guard = none) (s x : Operand)
    (ho : o.op = .call { callee := .builtin .append, args := #[s, x], argTypes := #[T, T] })
    (base : Nat) (v : Value) (l : List α) (hs : a.eval s = v) (hown : OwnX f n t base w v l) (u : Value) (m : List α) (hx : a.eval x = u) (hu : RowX f n w u m)
    (hl : l.length + m.length ≤ 4611686018427387903) (hlb : (l.length + m.length) * bytes ≤ 140737488355328) (hbase : base ≤ w.heap.size)
    (h : ∀ v' w', OwnX f n t base w' v' (l ++ m) → Below base w w' → wpList Tryd.prog ops Q rest (a.put o.dst v') w') : wpList Tryd.prog ops Q (o :: rest) a w := by
  obtain ⟨i, hi, hz, hz1, hz2⟩ := info_parts hinfo
  obtain ⟨ao, cap, rfl, hc, hn'⟩ := hu
  by_cases hm : m = []
  · subst hm
    cases ao with
    | none =>
      rw [hn' rfl] at hx
      refine wpList_plain hgd fun K hK' => ?_
      have hrun := run_append_owned_none (P := Tryd.prog) w base T o.type t i n hT hi v l.length (cellsOf f l) hown
      unfold Oper.wp
      simp only [List.length_nil] at hx
      simp [execOp, ho, resolve, invoke, builtin, hs, hx, hrun, Result.andThen]
      exact hK' _ _ (h v w (by simpa using hown) (Below.refl _ _))
    | some ad =>
      refine wpList_append_own w hgd s x T ho base t i _ n bytes hT hi hz hz1 hz2 hzs hn v l.length (cellsOf f l) hs hown ad 0 cap [] hx (by simp) (by simp) (by simp) (by unfold maxLen; simp at hl; omega) ?_ hbase ?_
      · simpa using hlb
      · intro v' w' how hgr hv
        exact h v' w' (by simpa [OwnX] using how) ((Below.refl base w).grown hgr hbase (fun k hk => (World.ownsRow.lt hown k hk).1))
  · obtain ⟨b, off, rfl, hb, hcell⟩ := hc hm
    refine wpList_append_lies w hgd s x T ho base t i _ n bytes hT hi hz hz1 hz2 hzs hn v l.length (cellsOf f l) hs hown ⟨b, off, none⟩ m.length cap (cellsOf f m) hx (cellsOf_length hf m) ?_ ?_ (by have := List.length_pos_iff.2 hm; omega) (by unfold maxLen; omega) ?_ hbase w.heap.size rfl ?_
    · intro j q hq
      have hadd : (⟨b, off, none⟩ : Addr).add j = ⟨b, off + j, none⟩ := by unfold Addr.add; split <;> simp_all
      rw [hadd]
      have hj : j < m.length * n := by rw [← cellsOf_length hf m]; exact (List.getElem?_eq_some_iff.1 hq).1
      have hlt : j / n < m.length := (Nat.div_lt_iff_lt_mul hn).2 hj
      obtain ⟨x, hx⟩ : ∃ x, m[j / n]? = some x := ⟨_, List.getElem?_eq_getElem hlt⟩
      have hmod : j % n < (f x).length := by rw [hf]; exact Nat.mod_lt _ hn
      obtain ⟨c, hc⟩ : ∃ c, (f x)[j % n]? = some c := ⟨_, List.getElem?_eq_getElem hmod⟩
      have e1 := cellsOf_at hf m (j / n) x hx (j % n) c hc
      have e2 := hcell (j / n) x hx (j % n) c hc
      have e3 : j / n * n + j % n = j := by rw [Nat.mul_comm]; exact Nat.div_add_mod j n
      rw [e3, hq] at e1
      rw [Nat.add_assoc, e3] at e2
      rw [e2, ← e1]
    · intro q hq
      obtain ⟨x, _, hx⟩ := List.mem_flatMap.1 hq
      exact h1c x q hx
    · exact hlb
    · intro g cap' w' how hgr hg hlt
      refine h _ w' ?_ ((Below.refl base w).grown hgr hbase (fun k hk => (World.ownsRow.lt hown k hk).1))
      show w'.ownsRow base t n _ (l ++ m).length (cellsOf f (l ++ m))
      rw [cellsOf_append, List.length_append]
      exact how

theorem grownBy_same (w : World) (o : Option Nat) : w.grownBy w o := ⟨rfl, rfl, rfl, Nat.le_refl _, fun _ _ _ => rfl⟩

/-- All of a slice behind a row of the call's own. -/
theorem step_appXall {α : Type} {f : α → List Value} {n : Nat} {t T : TypeId} {z : Value} {bytes : Nat}
    (hinfo : (Tryd.prog.info? t).map (fun i => (i.zero, i.size, i.bytes)) = some (some z, n, bytes)) (hT : Tryd.prog.underlying T = some (.slice t)) (hf : ∀ x, (f x).length = n) (h1c : ∀ x, ∀ u ∈ f x, u.oneCell' = true) (hzs : z.cells.size = n) (hn : 0 < n)
    {w : World} {ops : Array Oper} {o : Oper} {a : Act} {K : Act → World → Prop} {Q : Exit → Act → World → Prop} {E : Prop} (hgd : o.guard = none) (s x : Operand)
    (ho : o.op = .call { callee := .builtin .append, args := #[s, x], argTypes := #[T, T] })
    (base : Nat) (v : Value) (l : List α) (hs : a.eval s = v) (hown : OwnX f n t base w v l) (u : Value) (m : List α) (hx : a.eval x = u) (hu : RowX f n w u m)
    (hl : l.length + m.length ≤ 4611686018427387903) (hlb : (l.length + m.length) * bytes ≤ 140737488355328) (hbase : base ≤ w.heap.size)
    (h : ∀ v' w', OwnX f n t base w' v' (l ++ m) → w.grownBy w' v.ownBlock → K (a.put o.dst v') w') : if Region.wanted o (yielded ops a.tmps) = true then Oper.wp Tryd.prog o a w K Q else E := by
  have hw : Region.wanted o (yielded ops a.tmps) = true := by simp [Region.wanted, hgd]
  rw [if_pos hw]
  obtain ⟨i, hi, hz, hz1, hz2⟩ := info_parts hinfo
  obtain ⟨ao, cap, rfl, hc, hn'⟩ := hu
  by_cases hm : m = []
  · subst hm
    cases ao with
    | none =>
      rw [hn' rfl] at hx
      have hrun := run_append_owned_none (P := Tryd.prog) w base T o.type t i n hT hi v l.length (cellsOf f l) hown
      unfold Oper.wp
      simp only [List.length_nil] at hx
      simp [execOp, ho, resolve, invoke, builtin, hs, hx, hrun, Result.andThen]
      exact h v w (by simpa using hown) (grownBy_same _ _)
    | some ad =>
      refine wp_append_own w s x T ho base t i _ n bytes hT hi hz hz1 hz2 hzs hn v l.length (cellsOf f l) hs hown ad 0 cap [] hx (by simp) (by simp) (by simp) (by unfold maxLen; simp at hl; omega) ?_ hbase ?_
      · simpa using hlb
      · intro v' w' how hgr hv
        exact h v' w' (by simpa [OwnX] using how) hgr
  · obtain ⟨b, off, rfl, hb, hcell⟩ := hc hm
    refine wp_append_lies w s x T ho base t i _ n bytes hT hi hz hz1 hz2 hzs hn v l.length (cellsOf f l) hs hown ⟨b, off, none⟩ m.length cap (cellsOf f m) hx (cellsOf_length hf m) ?_ ?_ (by have := List.length_pos_iff.2 hm; omega) (by unfold maxLen; omega) ?_ hbase w.heap.size rfl ?_
    · intro j q hq
      have hadd : (⟨b, off, none⟩ : Addr).add j = ⟨b, off + j, none⟩ := by unfold Addr.add; split <;> simp_all
      rw [hadd]
      have hj : j < m.length * n := by rw [← cellsOf_length hf m]; exact (List.getElem?_eq_some_iff.1 hq).1
      have hlt : j / n < m.length := (Nat.div_lt_iff_lt_mul hn).2 hj
      obtain ⟨x, hx⟩ : ∃ x, m[j / n]? = some x := ⟨_, List.getElem?_eq_getElem hlt⟩
      have hmod : j % n < (f x).length := by rw [hf]; exact Nat.mod_lt _ hn
      obtain ⟨c, hc⟩ : ∃ c, (f x)[j % n]? = some c := ⟨_, List.getElem?_eq_getElem hmod⟩
      have e1 := cellsOf_at hf m (j / n) x hx (j % n) c hc
      have e2 := hcell (j / n) x hx (j % n) c hc
      have e3 : j / n * n + j % n = j := by rw [Nat.mul_comm]; exact Nat.div_add_mod j n
      rw [e3, hq] at e1
      rw [Nat.add_assoc, e3] at e2
      rw [e2, ← e1]
    · intro q hq
      obtain ⟨x, _, hx⟩ := List.mem_flatMap.1 hq
      exact h1c x q hx
    · exact hlb
    · intro g cap' w' how hgr hg hlt
      refine h _ w' ?_ hgr
      show w'.ownsRow base t n _ (l ++ m).length (cellsOf f (l ++ m))
      rw [cellsOf_append, List.length_append]
      exact how

/-- A shut word: nothing looks inside. -/
structure Bx (p : Prop) : Prop where
  out : p

theorem wpQuiet_stepB {P : Program} {ops : Array Oper} {C : World → Prop} {Q : Act → Prop} {a : Act} {o : Oper} {rest : List Oper}
    (h : ∀ K : Act → Prop, (∀ a, Bx (wpQuiet P ops C Q rest a) → K a) → if Region.wanted o (yielded ops a.tmps) then o.quiet P a C K else K (a.put o.dst undef)) : Bx (wpQuiet P ops C Q (o :: rest) a) :=
  ⟨wpQuiet_step fun K hK => h K fun a ha => hK a ha.out⟩

theorem wpQuiet_nilB {P : Program} {ops : Array Oper} {C : World → Prop} {Q : Act → Prop} {a : Act} (h : Q a) : Bx (wpQuiet P ops C Q [] a) := ⟨wpQuiet_nil h⟩

theorem wp_region_quiet_grownB {P : Program} {id : Nat} {Q : Exit → Act → World → Prop} {a : Act} {w : World} {l : List Oper} (hm : P.follows .mixedOrders = true) (hB : Region.lexB .any l.toArray = true)
    (h : Bx (wpQuiet P l.toArray (fun w' => ∃ p : GrownBy, w' = Sort.grow (w.drewN p.n) p.os) (fun a' => ∀ w', (∃ p : GrownBy, w' = Sort.grow (w.drewN p.n) p.os) → Q .normal a' w') l a)) : (Code.region id l.toArray true).wp P Q a w := wp_region_quiet_grown hm hB h.out

theorem add_none (b off j : Nat) : (⟨b, off, none⟩ : Addr).add j = ⟨b, off + j, none⟩ := by unfold Addr.add; split <;> simp_all

end Go.Proofs.YtjjlkjfhhpogaaaDoor

namespace Go.Proofs.YtjjlkjfhhpogaaaDoor
open Go.RowKit

/-- A slice's value. -/
structure Sl where
  a : Option Addr
  n : Nat
  c : Nat
abbrev Sl.v (s : Sl) : Value := .slice s.a s.n s.c

/-- A pattern's value: its kind and two slices. -/
structure PC where
  k : Int
  s : Sl
  b : Sl
abbrev PC.v (x : PC) : Value := .agg #[.int .i64 x.k, .slice x.s.a x.s.n x.s.c, .slice x.b.a x.b.n x.b.c]

def encS (x : Int × Int) : List Value := [.int .u32 x.1, .int .u32 x.2]
def encT (x : PC) : List Value := [.int .i64 x.k, .slice x.s.a x.s.n x.s.c, .slice x.b.a x.b.n x.b.c]
def encN (x : Int) : List Value := [.int .u32 x]
def encB (x : Bool) : List Value := [.bool x]
theorem encS_len (x : Int × Int) : (encS x).length = 2 := rfl
theorem encT_len (x : PC) : (encT x).length = 3 := rfl
theorem encN_len (x : Int) : (encN x).length = 1 := rfl
theorem encB_len (x : Bool) : (encB x).length = 1 := rfl
theorem oneS (x : Int × Int) : ∀ u ∈ encS x, u.oneCell' = true := by
  intro u hu; simp [encS] at hu; rcases hu with rfl | rfl <;> rfl
theorem oneT (x : PC) : ∀ u ∈ encT x, u.oneCell' = true := by
  intro u hu; simp [encT] at hu; rcases hu with rfl | rfl | rfl <;> rfl
theorem oneN (x : Int) : ∀ u ∈ encN x, u.oneCell' = true := by
  intro u hu; simp [encN] at hu; subst hu; rfl
theorem oneB (x : Bool) : ∀ u ∈ encB x, u.oneCell' = true := by
  intro u hu; simp [encB] at hu; subst hu; rfl

abbrev RowS := RowX encS 2
abbrev RowT := RowX encT 3
abbrev RowN := RowX encN 1
abbrev RowB := RowX encB 1
abbrev OwnS := OwnX encS 2 78
abbrev OwnT := OwnX encT 3 25
abbrev OwnN := OwnX encN 1 43
abbrev OwnB := OwnX encB 1 4

theorem info78 : (Tryd.prog.info? 78).map (fun i => (i.zero, i.size, i.bytes)) = some (some (.agg #[.int .u32 0, .int .u32 0]), 2, 8) := by kernel_rfl
theorem info25 : (Tryd.prog.info? 25).map (fun i => (i.zero, i.size, i.bytes)) = some (some (.agg #[.int .i64 0, .slice none 0 0, .slice none 0 0]), 3, 56) := by kernel_rfl
theorem info43 : (Tryd.prog.info? 43).map (fun i => (i.zero, i.size, i.bytes)) = some (some (.int .u32 0), 1, 4) := by kernel_rfl

mutual
/-- This value holds this pattern. -/
def HT (w : World) : Tree → PC → Prop
  | .mk k set subs, x => x.k = k ∧ RowS w x.s.v set ∧ ∃ rows : List PC, RowT w x.b.v rows ∧ HTs w subs rows
def HTs (w : World) : List Tree → List PC → Prop
  | [], rs => rs = []
  | t :: ts, rs => ∃ r rest, rs = r :: rest ∧ HT w t r ∧ HTs w ts rest
end
theorem HT_mk (w : World) (k : Int) (set : List (Int × Int)) (subs : List Tree) (x : PC) : HT w (.mk k set subs) x ↔ (x.k = k ∧ RowS w x.s.v set ∧ ∃ rows : List PC, RowT w x.b.v rows ∧ HTs w subs rows) := by rw [HT]
theorem HTs_nil (w : World) (rs : List PC) : HTs w [] rs ↔ rs = [] := by rw [HTs]
theorem HTs_cons (w : World) (t : Tree) (ts : List Tree) (rs : List PC) : HTs w (t :: ts) rs ↔ ∃ r rest, rs = r :: rest ∧ HT w t r ∧ HTs w ts rest := by rw [HTs]

theorem HTs.len {w : World} : ∀ {ts : List Tree} {rs : List PC}, HTs w ts rs → rs.length = ts.length
  | [], rs, h => by rw [HTs_nil] at h; subst h; rfl
  | t :: ts, rs, h => by
    obtain ⟨r, rest, rfl, _, h2⟩ := (HTs_cons _ _ _ _).1 h
    simp [HTs.len h2]
theorem HTs.at {w : World} : ∀ {ts : List Tree} {rs : List PC}, HTs w ts rs → ∀ {i : Nat} {t : Tree}, ts[i]? = some t → ∃ r, rs[i]? = some r ∧ HT w t r
  | [], rs, h, i, t, hi => by simp at hi
  | t0 :: ts, rs, h, i, t, hi => by
    obtain ⟨r, rest, rfl, h1, h2⟩ := (HTs_cons _ _ _ _).1 h
    cases i with
    | zero => simp at hi; subst hi; exact ⟨r, rfl, h1⟩
    | succ i =>
      obtain ⟨r', h3, h4⟩ := HTs.at h2 (i := i) (t := t) (by simpa using hi)
      exact ⟨r', by simpa using h3, h4⟩
mutual
theorem HT.bel {w w' : World} (hB : Below w.heap.size w w') : ∀ {t : Tree} {x : PC}, HT w t x → HT w' t x
  | .mk k set subs, x, h => by
    obtain ⟨h1, h2, rows, h3, h4⟩ := (HT_mk _ _ _ _ _).1 h
    exact (HT_mk _ _ _ _ _).2 ⟨h1, h2.bel hB, rows, h3.bel hB, HTs.bel hB h4⟩
theorem HTs.bel {w w' : World} (hB : Below w.heap.size w w') : ∀ {ts : List Tree} {rs : List PC}, HTs w ts rs → HTs w' ts rs
  | [], rs, h => (HTs_nil _ _).2 ((HTs_nil _ _).1 h)
  | t :: ts, rs, h => by
    obtain ⟨r, rest, rfl, h1, h2⟩ := (HTs_cons _ _ _ _).1 h
    exact (HTs_cons _ _ _ _).2 ⟨r, rest, rfl, HT.bel hB h1, HTs.bel hB h2⟩
end
theorem HT.gr {w w' : World} {t : Tree} {x : PC} (h : HT w t x) (k : Gr w w') : HT w' t x := HT.bel k.below h

mutual
/-- Its memory is the call's own, in blocks of which P holds. -/
def HO (P : Nat → Prop) (w : World) : Tree → PC → Prop
  | .mk k set subs, x => x.k = k ∧ (OwnS 0 w x.s.v set ∧ ∀ g, x.s.v.ownBlock = some g → P g) ∧ ∃ rows : List PC, (OwnT 0 w x.b.v rows ∧ ∀ g, x.b.v.ownBlock = some g → P g) ∧ HOs P w subs rows
def HOs (P : Nat → Prop) (w : World) : List Tree → List PC → Prop
  | [], rs => rs = []
  | t :: ts, rs => ∃ r rest, rs = r :: rest ∧ HO P w t r ∧ HOs P w ts rest
end
theorem HO_mk (P : Nat → Prop) (w : World) (k : Int) (set : List (Int × Int)) (subs : List Tree) (x : PC) : HO P w (.mk k set subs) x ↔ (x.k = k ∧ (OwnS 0 w x.s.v set ∧ ∀ g, x.s.v.ownBlock = some g → P g) ∧ ∃ rows : List PC, (OwnT 0 w x.b.v rows ∧ ∀ g, x.b.v.ownBlock = some g → P g) ∧ HOs P w subs rows) := by rw [HO]
theorem HOs_nil (P : Nat → Prop) (w : World) (rs : List PC) : HOs P w [] rs ↔ rs = [] := by rw [HOs]
theorem HOs_cons (P : Nat → Prop) (w : World) (t : Tree) (ts : List Tree) (rs : List PC) : HOs P w (t :: ts) rs ↔ ∃ r rest, rs = r :: rest ∧ HO P w t r ∧ HOs P w ts rest := by rw [HOs]
mutual
theorem HO.same {P Q : Nat → Prop} {w w' : World} (hPQ : ∀ g, P g → Q g) (hs : ∀ g, P g → w'.heap[g]? = w.heap[g]?) : ∀ {t : Tree} {x : PC}, HO P w t x → HO Q w' t x
  | .mk k set subs, x, h => by
    obtain ⟨h1, ⟨h2, h3⟩, rows, ⟨h4, h5⟩, h6⟩ := (HO_mk _ _ _ _ _ _).1 h
    exact (HO_mk _ _ _ _ _ _).2 ⟨h1, ⟨h2.same fun g hg => hs g (h3 g hg), fun g hg => hPQ g (h3 g hg)⟩, rows, ⟨h4.same fun g hg => hs g (h5 g hg), fun g hg => hPQ g (h5 g hg)⟩, HOs.same hPQ hs h6⟩
theorem HOs.same {P Q : Nat → Prop} {w w' : World} (hPQ : ∀ g, P g → Q g) (hs : ∀ g, P g → w'.heap[g]? = w.heap[g]?) : ∀ {ts : List Tree} {rs : List PC}, HOs P w ts rs → HOs Q w' ts rs
  | [], rs, h => (HOs_nil _ _ _).2 ((HOs_nil _ _ _).1 h)
  | t :: ts, rs, h => by
    obtain ⟨r, rest, rfl, h1, h2⟩ := (HOs_cons _ _ _ _ _).1 h
    exact (HOs_cons _ _ _ _ _).2 ⟨r, rest, rfl, HO.same hPQ hs h1, HOs.same hPQ hs h2⟩
end
mutual
theorem HO.held {P : Nat → Prop} {w : World} : ∀ {t : Tree} {x : PC}, HO P w t x → HT w t x
  | .mk k set subs, x, h => by
    obtain ⟨h1, ⟨h2, _⟩, rows, ⟨h4, _⟩, h6⟩ := (HO_mk _ _ _ _ _ _).1 h
    exact (HT_mk _ _ _ _ _).2 ⟨h1, h2.row encS_len, rows, h4.row encT_len, HOs.held h6⟩
theorem HOs.held {P : Nat → Prop} {w : World} : ∀ {ts : List Tree} {rs : List PC}, HOs P w ts rs → HTs w ts rs
  | [], rs, h => (HTs_nil _ _).2 ((HOs_nil _ _ _).1 h)
  | t :: ts, rs, h => by
    obtain ⟨r, rest, rfl, h1, h2⟩ := (HOs_cons _ _ _ _ _).1 h
    exact (HTs_cons _ _ _ _).2 ⟨r, rest, rfl, HO.held h1, HOs.held h2⟩
end
theorem HOs.snoc {P : Nat → Prop} {w : World} : ∀ {ts : List Tree} {rs : List PC} {t : Tree} {r : PC}, HOs P w ts rs → HO P w t r → HOs P w (ts ++ [t]) (rs ++ [r])
  | [], rs, t, r, h, k => by
    rw [HOs_nil] at h; subst h
    exact (HOs_cons _ _ _ _ _).2 ⟨r, [], rfl, k, (HOs_nil _ _ _).2 rfl⟩
  | t0 :: ts, rs, t, r, h, k => by
    obtain ⟨r0, rest, rfl, h1, h2⟩ := (HOs_cons _ _ _ _ _).1 h
    exact (HOs_cons _ _ _ _ _).2 ⟨r0, rest ++ [r], rfl, h1, HOs.snoc h2 k⟩
theorem HOs.len {P : Nat → Prop} {w : World} {ts : List Tree} {rs : List PC} (h : HOs P w ts rs) : rs.length = ts.length := HTs.len h.held

mutual
/-- How long its lists may be. -/
def okT : Tree → Prop
  | .mk _ set subs => set.length ≤ 17592186043904 ∧ subs.length ≤ 4611686018427387903 ∧ okL subs
def okL : List Tree → Prop
  | [] => True
  | t :: ts => okT t ∧ okL ts
end
theorem okT_mk (k : Int) (set : List (Int × Int)) (subs : List Tree) : okT (.mk k set subs) ↔ (set.length ≤ 17592186043904 ∧ subs.length ≤ 4611686018427387903 ∧ okL subs) := by rw [okT]
theorem okL_nil : okL [] ↔ True := by rw [okL]
theorem okL_cons (t : Tree) (ts : List Tree) : okL (t :: ts) ↔ (okT t ∧ okL ts) := by rw [okL]
theorem okL.at : ∀ {ts : List Tree} {i : Nat} {t : Tree}, okL ts → ts[i]? = some t → okT t
  | [], i, t, _, h => by simp at h
  | a :: ts, 0, t, hk, h => by simp at h; subst h; exact ((okL_cons _ _).1 hk).1
  | a :: ts, i + 1, t, hk, h => okL.at (ts := ts) (i := i) ((okL_cons _ _).1 hk).2 (by simpa using h)

/-- The value of a pattern, taken apart. -/
theorem HT.parts {w : World} {t : Tree} {x : PC} (h : HT w t x) : ∃ k set subs rows sa sc ba bc, t = .mk k set subs ∧ x = ⟨k, ⟨sa, set.length, sc⟩, ⟨ba, subs.length, bc⟩⟩ ∧ RowS w (.slice sa set.length sc) set ∧ RowT w (.slice ba subs.length bc) rows ∧ HTs w subs rows := by
  obtain ⟨k, set, subs⟩ := t
  obtain ⟨xk, ⟨sa, sn, sc⟩, ⟨ba, bn, bc⟩⟩ := x
  obtain ⟨h1, h2, rows, h3, h4⟩ := (HT_mk _ _ _ _ _).1 h
  simp only at h1 h2 h3
  subst h1
  obtain ⟨a1, c1, e1⟩ := h2.form
  obtain ⟨a2, c2, e2⟩ := h3.form
  injection e1 with _ e1 _
  injection e2 with _ e2 _
  rw [h4.len] at e2
  have e1' : sn = set.length := e1
  have e2' : bn = subs.length := e2
  subst e1' e2'
  exact ⟨xk, set, subs, rows, sa, sc, ba, bc, rfl, rfl, h2, h3, h4⟩

/-- The cells of one of a row of patterns. -/
theorem RowX.cs3 {w : World} {ao : Option Addr} {n cap : Nat} {l : List PC} (h : RowT w (.slice ao n cap) l) {k : Nat} {x : PC} (hx : l[k]? = some x) :
    ∃ b off, ao = some ⟨b, off, none⟩ ∧ b < w.heap.size ∧ w.cell? ⟨b, off + k * 3, none⟩ = some (.int .i64 x.k) ∧ w.cell? ⟨b, off + k * 3 + 1, none⟩ = some (.slice x.s.a x.s.n x.s.c) ∧ w.cell? ⟨b, off + k * 3 + 2, none⟩ = some (.slice x.b.a x.b.n x.b.c) := by
  obtain ⟨b, off, e, hb, hc⟩ := h.at hx
  exact ⟨b, off, e, hb, hc 0 _ rfl, hc 1 _ rfl, hc 2 _ rfl⟩
theorem RowX.cs2 {w : World} {ao : Option Addr} {n cap : Nat} {l : List (Int × Int)} (h : RowS w (.slice ao n cap) l) {k : Nat} {x : Int × Int} (hx : l[k]? = some x) :
    ∃ b off, ao = some ⟨b, off, none⟩ ∧ b < w.heap.size ∧ w.cell? ⟨b, off + k * 2, none⟩ = some (.int .u32 x.1) ∧ w.cell? ⟨b, off + k * 2 + 1, none⟩ = some (.int .u32 x.2) := by
  obtain ⟨b, off, e, hb, hc⟩ := h.at hx
  exact ⟨b, off, e, hb, hc 0 _ rfl, hc 1 _ rfl⟩
theorem RowX.cs1 {w : World} {ao : Option Addr} {n cap : Nat} {l : List Int} (h : RowN w (.slice ao n cap) l) {k : Nat} {x : Int} (hx : l[k]? = some x) :
    ∃ b off, ao = some ⟨b, off, none⟩ ∧ b < w.heap.size ∧ w.cell? ⟨b, off + k, none⟩ = some (.int .u32 x) := by
  obtain ⟨b, off, e, hb, hc⟩ := h.at hx
  have := hc 0 _ rfl
  rw [Nat.mul_one] at this
  exact ⟨b, off, e, hb, this⟩

end Go.Proofs.YtjjlkjfhhpogaaaDoor
