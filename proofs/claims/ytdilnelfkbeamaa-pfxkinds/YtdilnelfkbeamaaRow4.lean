/-
  Rows of ranges, of entries, of prefixes: held, and owned; 'append' to them.
-/
import Derived.Test.YtdilnelfkbeamaaW4
import Derived.Test.YtdilnelfkbeamaaOwn1
namespace Go.Proofs.Ytdilnelfkbeamaa
open Go.RowKit

/-- The cells of a row, one element behind the other. -/
def cellsOf {α : Type} (f : α → List Value) (l : List α) : List Value := l.flatMap f

theorem cellsOf_length {α : Type} {f : α → List Value} {n : Nat} (h : ∀ x, (f x).length = n) (l : List α) : (cellsOf f l).length = l.length * n := by
  induction l with
  | nil => simp [cellsOf]
  | cons a l ih =>
    have : cellsOf f (a :: l) = f a ++ cellsOf f l := rfl
    rw [this, List.length_append, ih, h, List.length_cons, Nat.add_mul]
    omega

theorem cellsOf_append {α : Type} (f : α → List Value) (a b : List α) : cellsOf f (a ++ b) = cellsOf f a ++ cellsOf f b := by simp [cellsOf]

theorem cellsOf_at {α : Type} {f : α → List Value} {n : Nat} (h : ∀ x, (f x).length = n) : ∀ (l : List α) (i : Nat) (x : α), l[i]? = some x → ∀ j v, (f x)[j]? = some v → (cellsOf f l)[i * n + j]? = some v
  | [], i, x, hx, _, _, _ => by simp at hx
  | a :: l, 0, x, hx, j, v, hv => by
    simp at hx
    subst hx
    have hj : j < (f a).length := (List.getElem?_eq_some_iff.1 hv).1
    have : cellsOf f (a :: l) = f a ++ cellsOf f l := rfl
    rw [this, Nat.zero_mul, Nat.zero_add, List.getElem?_append_left hj]
    exact hv
  | a :: l, i + 1, x, hx, j, v, hv => by
    have e : cellsOf f (a :: l) = f a ++ cellsOf f l := rfl
    have ih := cellsOf_at h l i x (by simpa using hx) j v hv
    have hk : (i + 1) * n + j = (f a).length + (i * n + j) := by rw [h, Nat.add_mul]; omega
    rw [e, hk, List.getElem?_append_right (by omega)]
    simpa using ih

/-- The cells of a range, an entry, a prefix. -/
def encG (x : Rg) : List Value := [.int .u32 x.addr, .int .i64 x.len, .int .i64 x.ge, .int .i64 x.le]
def encE (x : En) : List Value := [.bool x.deny, .int .u32 x.rg.addr, .int .i64 x.rg.len, .int .i64 x.rg.ge, .int .i64 x.rg.le]
def encP (x : Pf) : List Value := [.int .u32 x.addr, .int .i64 x.len]

/-- v is a slice that holds these elements, n cells each. -/
def RowX {α : Type} (f : α → List Value) (n : Nat) (w : World) (v : Value) (l : List α) : Prop :=
  ∃ ao cap, v = .slice ao l.length cap ∧ (l ≠ [] → ∃ b off, ao = some ⟨b, off, none⟩ ∧ b < w.heap.size ∧
    ∀ i x, l[i]? = some x → ∀ j c, (f x)[j]? = some c → w.cell? ⟨b, off + i * n + j, none⟩ = some c) ∧ (ao = none → cap = 0)

theorem RowX.kept {α : Type} {f : α → List Value} {n B : Nat} {w w' : World} {v : Value} {l : List α} (h : RowX f n w v l) (hB : Below B w w') (hs : w.heap.size ≤ B) : RowX f n w' v l := by
  obtain ⟨ao, cap, rfl, hc, hz⟩ := h
  refine ⟨ao, cap, rfl, fun hne => ?_, hz⟩
  obtain ⟨b, off, rfl, hb, hcell⟩ := hc hne
  have e : ∀ o, w'.cell? ⟨b, o, none⟩ = w.cell? ⟨b, o, none⟩ := fun o => hB.cell (p := ⟨b, o, none⟩) (by exact Nat.lt_of_lt_of_le hb hs)
  exact ⟨b, off, rfl, Nat.lt_of_lt_of_le hb hB.size, fun i x hx j c hc => by rw [e]; exact hcell i x hx j c hc⟩
theorem RowX.bel {α : Type} {f : α → List Value} {n : Nat} {w w' : World} {v : Value} {l : List α} (h : RowX f n w v l) (hB : Below w.heap.size w w') : RowX f n w' v l := h.kept hB (Nat.le_refl _)
theorem RowX.gr {α : Type} {f : α → List Value} {n : Nat} {w w' : World} {v : Value} {l : List α} (h : RowX f n w v l) (k : Gr w w') : RowX f n w' v l := h.bel k.below
theorem RowX.form {α : Type} {f : α → List Value} {n : Nat} {w : World} {v : Value} {l : List α} (h : RowX f n w v l) : ∃ ao cap, v = .slice ao l.length cap := by
  obtain ⟨ao, cap, rfl, _⟩ := h
  exact ⟨_, _, rfl⟩
theorem RowX.nil {α : Type} (f : α → List Value) (n : Nat) (w : World) : RowX f n w (.slice none 0 0) [] := ⟨none, 0, rfl, fun h => absurd rfl h, fun _ => rfl⟩

/-- Where an element lies: its block and the place of its first cell. -/
theorem RowX.at {α : Type} {f : α → List Value} {n : Nat} {w : World} {ao : Option Addr} {k cap : Nat} {l : List α} (h : RowX f n w (.slice ao k cap) l) {i : Nat} {x : α} (hx : l[i]? = some x) :
    ∃ b off, ao = some ⟨b, off, none⟩ ∧ b < w.heap.size ∧ ∀ j c, (f x)[j]? = some c → w.cell? ⟨b, off + i * n + j, none⟩ = some c := by
  obtain ⟨ao', cap', hv, hc, _⟩ := h
  injection hv with h1 h2 h3
  subst h1
  obtain ⟨b, off, rfl, hb, hcell⟩ := hc (by intro e; subst e; simp at hx)
  exact ⟨b, off, rfl, hb, fun j c hc => hcell i x hx j c hc⟩

abbrev RowG := RowX encG 4
abbrev RowE := RowX encE 5
abbrev RowP := RowX encP 2

/-- The call owns this row of elements. -/
def OwnX {α : Type} (f : α → List Value) (n : Nat) (t : TypeId) (base : Nat) (w : World) (v : Value) (l : List α) : Prop := w.ownsRow base t n v l.length (cellsOf f l)
abbrev OwnG := OwnX encG 4 28
abbrev OwnP := OwnX encP 2 25
abbrev OwnE := OwnX encE 5 30

theorem OwnX.form {α : Type} {f : α → List Value} {n : Nat} {t : TypeId} {base : Nat} {w : World} {v : Value} {l : List α} (h : OwnX f n t base w v l) : ∃ ao cap, v = .slice ao l.length cap := by
  rcases h.2 with ⟨rfl, h0⟩ | ⟨g, cap, cur, rfl, _⟩
  · exact ⟨none, 0, by rw [h0]⟩
  · exact ⟨_, _, rfl⟩
theorem OwnX.nil {α : Type} (f : α → List Value) (n : Nat) (t : TypeId) (base : Nat) (w : World) : OwnX f n t base w (.slice none 0 0) ([] : List α) := World.ownsRow_nil w base t n
theorem OwnX.alloc {α : Type} {f : α → List Value} {n : Nat} {t : TypeId} {base : Nat} {w : World} {v : Value} {l : List α} (h : OwnX f n t base w v l) (o : Obj) : OwnX f n t base (w.alloc o) v l := World.ownsRow.alloc h o
theorem OwnX.lt {α : Type} {f : α → List Value} {n : Nat} {t : TypeId} {base : Nat} {w : World} {v : Value} {l : List α} (h : OwnX f n t base w v l) {g : Nat} (hg : v.ownBlock = some g) : base ≤ g ∧ g < w.heap.size := World.ownsRow.lt h g hg
theorem OwnX.same {α : Type} {f : α → List Value} {n : Nat} {t : TypeId} {base : Nat} {w w' : World} {v : Value} {l : List α} (h : OwnX f n t base w v l) (hs : ∀ g, v.ownBlock = some g → w'.heap[g]? = w.heap[g]?) : OwnX f n t base w' v l := by
  refine ⟨h.1, ?_⟩
  rcases h.2 with h | ⟨g, cap, cur, rfl, hb, hg, h1⟩
  · exact .inl h
  · exact .inr ⟨g, cap, cur, rfl, hb, (hs g rfl).trans hg, h1⟩
theorem OwnX.lower {α : Type} {f : α → List Value} {n : Nat} {t : TypeId} {base base' : Nat} {w : World} {v : Value} {l : List α} (h : OwnX f n t base' w v l) (hb : base ≤ base') : OwnX f n t base w v l := by
  refine ⟨h.1, ?_⟩
  rcases h.2 with h | ⟨g, cap, cur, rfl, hg, h1⟩
  · exact .inl h
  · exact .inr ⟨g, cap, cur, rfl, Nat.le_trans hb hg, h1⟩
theorem OwnX.bel {α : Type} {f : α → List Value} {n : Nat} {t : TypeId} {base : Nat} {w w' : World} {v : Value} {l : List α} (h : OwnX f n t base w v l) (hB : Below w.heap.size w w') : OwnX f n t base w' v l :=
  h.same fun g hg => hB.block g (h.lt hg).2
theorem OwnX.gr {α : Type} {f : α → List Value} {n : Nat} {t : TypeId} {base : Nat} {w w' : World} {v : Value} {l : List α} (h : OwnX f n t base w v l) (k : Gr w w') : OwnX f n t base w' v l := h.bel k.below
theorem OwnX.setOther {α : Type} {f : α → List Value} {n : Nat} {t : TypeId} {base : Nat} {w : World} {v : Value} {l : List α} (h : OwnX f n t base w v l) {p : Addr} (hp : v.ownBlock ≠ some p.block) (z : Value) : OwnX f n t base (w.setCell p z) v l :=
  h.same fun g hg => Below.heap_setCell _ _ _ _ (fun e => hp (by rw [hg, e]))
theorem OwnX.notAt {α : Type} {f : α → List Value} {n : Nat} {t : TypeId} {base : Nat} {w : World} {v : Value} {l : List α} (h : OwnX f n t base w v l) {b : Nat} (hb : w.heap.size ≤ b) : v.ownBlock ≠ some b := by
  intro e
  have := (World.ownsRow.lt h b e).2
  omega

/-- What is owned is held. -/
theorem OwnX.row {α : Type} {f : α → List Value} {n : Nat} {t : TypeId} {base : Nat} {w : World} {v : Value} {l : List α} (hf : ∀ x, (f x).length = n) (h : OwnX f n t base w v l) : RowX f n w v l := by
  rcases h.2 with ⟨rfl, h0⟩ | ⟨g, cap, cur, rfl, hb, hg, hn, hm, hs, ht⟩
  · have : l = [] := List.length_eq_zero_iff.1 h0
    subst this
    exact RowX.nil f n w
  · refine ⟨_, cap, rfl, fun _ => ⟨g, 0, rfl, (Array.getElem?_eq_some_iff.1 hg).1, fun i x hx j c hc => ?_⟩, fun h => by cases h⟩
    have a1 := World.ownsRow.cells h (g := g) rfl _ _ (cellsOf_at hf l i x hx j c hc)
    have hadd : ∀ j, (⟨g, 0, none⟩ : Addr).add j = ⟨g, 0 + j, none⟩ := fun j => by unfold Addr.add; split <;> simp_all
    rw [hadd, ← Nat.add_assoc] at a1
    exact a1

theorem encG_len (x : Rg) : (encG x).length = 4 := rfl
theorem encE_len (x : En) : (encE x).length = 5 := rfl
theorem encP_len (x : Pf) : (encP x).length = 2 := rfl

theorem info28 : (Try.prog.info? 28).map (fun i => (i.zero, i.size, i.bytes)) = some (some (.agg #[.int .u32 0, .int .i64 0, .int .i64 0, .int .i64 0]), 4, 32) := by kernel_rfl
theorem info25 : (Try.prog.info? 25).map (fun i => (i.zero, i.size, i.bytes)) = some (some (.agg #[.int .u32 0, .int .i64 0]), 2, 16) := by kernel_rfl

end Go.Proofs.Ytdilnelfkbeamaa
