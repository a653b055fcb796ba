/-
  What turns when a part is asked: the worlds ahead of it and behind it.
-/
import Derived.Test.YtihnmamejfoeeaaDoorPart
namespace Go.Proofs.YtihnmamejfoeeaaDoor
open Go.RowKit

/-- Nothing old turns but the blocks lo .. hi, and block b. -/
structure Fr (lo hi b : Nat) (w w' : World) : Prop where
  os : w'.os = w.os
  tape : w'.tape = w.tape
  output : w'.output = w.output
  size : w.heap.size ≤ w'.heap.size
  drawn : w.drawn ≤ w'.drawn
  block : ∀ g, g < w.heap.size → ¬ (lo ≤ g ∧ g < hi) → g ≠ b → w'.heap[g]? = w.heap[g]?

theorem Fr.refl (lo hi b : Nat) (w : World) : Fr lo hi b w w := ⟨rfl, rfl, rfl, Nat.le_refl _, Nat.le_refl _, fun _ _ _ _ => rfl⟩
theorem Fr.trans {lo hi b : Nat} {w w' w'' : World} (h : Fr lo hi b w w') (k : Fr lo hi b w' w'') : Fr lo hi b w w'' :=
  ⟨k.os.trans h.os, k.tape.trans h.tape, k.output.trans h.output, Nat.le_trans h.size k.size, Nat.le_trans h.drawn k.drawn, fun g h1 h2 h3 => (k.block g (Nat.lt_of_lt_of_le h1 h.size) h2 h3).trans (h.block g h1 h2 h3)⟩
theorem Fr.of_gr {lo hi b : Nat} {w w' : World} (h : Gr w w') : Fr lo hi b w w' :=
  ⟨h.below.os, h.below.tape, h.below.output, h.below.size, h.drawn, fun g h1 _ _ => h.below.block g h1⟩
theorem Fr.gr {lo hi b : Nat} {w w' w'' : World} (h : Fr lo hi b w w') (k : Gr w' w'') : Fr lo hi b w w'' := h.trans (.of_gr k)
theorem Fr.wide {lo hi b lo' hi' b' : Nat} {w w' : World} (h : Fr lo hi b w w') (h1 : lo' ≤ lo) (h2 : hi ≤ hi') (h3 : b = b' ∨ (lo' ≤ b ∧ b < hi')) : Fr lo' hi' b' w w' :=
  ⟨h.os, h.tape, h.output, h.size, h.drawn, fun g k1 k2 k3 => h.block g k1 (by omega) (by omega)⟩
theorem Fr.setCell {lo hi b : Nat} {w w' : World} (h : Fr lo hi b w w') {p : Addr} (hp : w.heap.size ≤ p.block ∨ (lo ≤ p.block ∧ p.block < hi) ∨ p.block = b) (v : Value) : Fr lo hi b w (w'.setCell p v) := by
  have e := (Below.refl 0 w').setCell (p := p) (Nat.zero_le _) v
  refine ⟨e.os.trans h.os, e.tape.trans h.tape, e.output.trans h.output, Nat.le_trans h.size e.size, ?_, fun g k1 k2 k3 => ?_⟩
  · exact h.drawn
  · rw [← h.block g k1 k2 k3]
    exact Below.heap_setCell _ _ _ _ (by rintro rfl; omega)
theorem Blk.fr {lo hi b : Nat} {w w' : World} (h : Fr lo hi b w w') {g : Nat} {cs : Array Value} {t : TypeId} (hb : Blk w g cs t) (h1 : ¬ (lo ≤ g ∧ g < hi)) (h2 : g ≠ b) : Blk w' g cs t := (h.block g hb.lt h1 h2).trans hb
theorem Tab.same {w w' : World} (h : Tab w) (hs : w'.heap[0]? = w.heap[0]?) : Tab w' := fun i x hx => by
  have := h i x hx
  unfold World.cell? at this ⊢
  simp only at this ⊢
  rw [hs]
  exact this
theorem Tab.lt {w : World} (h : Tab w) : 0 < w.heap.size := World.block_lt_of_cell? w _ (h 0 0 rfl)
theorem Tab.fr {lo hi b : Nat} {w w' : World} (h : Tab w) (hf : Fr lo hi b w w') (h1 : 0 < lo) (h2 : 0 < b) : Tab w' := h.same (hf.block 0 h.lt (by omega) (by omega))

/-- A part laid at a path lies in this block, the i-th of its row; its memory is the blocks lo .. hi. -/
structure St (l : List Int) (t : Tree) (w : World) (b i : Nat) (rows : List PV) (x : PV) (lo hi : Nat) : Prop where
  blk : Blk w b (prow rows) 53
  at_ : rows[i]? = some x
  pt : PT w l t lo hi x
  le : lo ≤ hi
  top : hi ≤ w.heap.size
  out : b < lo ∨ hi ≤ b
  tab : Tab w
  pos : 0 < lo
  bpos : 0 < b

theorem St.gr {l : List Int} {t : Tree} {w w' : World} {b i : Nat} {rows : List PV} {x : PV} {lo hi : Nat} (h : St l t w b i rows x lo hi) (k : Gr w w') : St l t w' b i rows x lo hi :=
  ⟨h.blk.gr k, h.at_, h.pt.same fun g _ h2 => k.below.block g (Nat.lt_of_lt_of_le h2 h.top), h.le, Nat.le_trans h.top k.below.size, h.out, h.tab.same (k.below.block 0 h.tab.lt), h.pos, h.bpos⟩
/-- A store elsewhere. -/
theorem St.setCell {l : List Int} {t : Tree} {w : World} {b i : Nat} {rows : List PV} {x : PV} {lo hi : Nat} (h : St l t w b i rows x lo hi) {p : Addr} (h1 : p.block ≠ b) (h2 : ¬ (lo ≤ p.block ∧ p.block < hi)) (h3 : 0 < p.block) (v : Value) : St l t (w.setCell p v) b i rows x lo hi :=
  ⟨h.blk.other (fun e => h1 e.symm) v, h.at_, h.pt.same fun g _ h3 => Below.heap_setCell _ _ _ _ (by rintro rfl; omega), h.le, by
    have e := (Below.refl 0 w).setCell (p := p) (Nat.zero_le _) v
    exact Nat.le_trans h.top e.size, h.out, h.tab.same (Below.heap_setCell _ _ _ _ (by rintro e; omega)), h.pos, h.bpos⟩
theorem St.drewN {l : List Int} {t : Tree} {w : World} {b i : Nat} {rows : List PV} {x : PV} {lo hi : Nat} (h : St l t w b i rows x lo hi) (n : Nat) : St l t (w.drewN n) b i rows x lo hi := h.gr ((Gr.refl _).drewN n)
theorem St.alloc {l : List Int} {t : Tree} {w : World} {b i : Nat} {rows : List PV} {x : PV} {lo hi : Nat} (h : St l t w b i rows x lo hi) (o : Obj) : St l t (w.alloc o) b i rows x lo hi := h.gr ((Gr.refl _).alloc o)
theorem St.lt {l : List Int} {t : Tree} {w : World} {b i : Nat} {rows : List PV} {x : PV} {lo hi : Nat} (h : St l t w b i rows x lo hi) : b < w.heap.size := h.blk.lt

theorem set_id {α : Type} {l : List α} {i : Nat} {x : α} (h : l[i]? = some x) : l.set i x = l := by
  obtain ⟨hi, rfl⟩ := List.getElem?_eq_some_iff.1 h
  simp

/-- The eleven cells of a part. -/
theorem part_cs {w : World} {b i : Nat} {rows : List PV} {x : PV} (h : Blk w b (prow rows) 53) (hx : rows[i]? = some x) :
    w.cell? ⟨b, i * 11, none⟩ = some (.int .i64 x.k) ∧ w.cell? ⟨b, i * 11 + 1, none⟩ = some (.slice x.sub.a x.sub.n x.sub.c) ∧
    w.cell? ⟨b, i * 11 + 2, none⟩ = some (.int .u64 (u x.tk.a)) ∧ w.cell? ⟨b, i * 11 + 2 + 1, none⟩ = some (.int .u64 (u x.tk.b)) ∧ w.cell? ⟨b, i * 11 + 2 + 2, none⟩ = some (.int .u64 (u x.tk.c)) ∧ w.cell? ⟨b, i * 11 + 2 + 3, none⟩ = some (.int .u64 (u x.tk.d)) ∧
    w.cell? ⟨b, i * 11 + 6, none⟩ = some (.slice x.st.a x.st.n x.st.c) ∧
    w.cell? ⟨b, i * 11 + 7, none⟩ = some (.int .u64 (u x.ak.a)) ∧ w.cell? ⟨b, i * 11 + 7 + 1, none⟩ = some (.int .u64 (u x.ak.b)) ∧ w.cell? ⟨b, i * 11 + 7 + 2, none⟩ = some (.int .u64 (u x.ak.c)) ∧ w.cell? ⟨b, i * 11 + 7 + 3, none⟩ = some (.int .u64 (u x.ak.d)) := by
  have c : ∀ j v, (encP x)[j]? = some v → w.cell? ⟨b, i * 11 + j, none⟩ = some v := fun j v hv => (h.c _).trans (prow_at hx j v hv)
  exact ⟨c 0 _ rfl, c 1 _ rfl, c 2 _ rfl, c 3 _ rfl, c 4 _ rfl, c 5 _ rfl, c 6 _ rfl, c 7 _ rfl, c 8 _ rfl, c 9 _ rfl, c 10 _ rfl⟩
theorem step_cs {w : World} {b i : Nat} {qs : List Pl} {x : Pl} (h : Blk w b (lrow qs) 50) (hx : qs[i]? = some x) :
    w.cell? ⟨b, i * 4, none⟩ = some (.int .u64 (u x.a)) ∧ w.cell? ⟨b, i * 4 + 1, none⟩ = some (.int .u64 (u x.b)) ∧ w.cell? ⟨b, i * 4 + 2, none⟩ = some (.int .u64 (u x.c)) ∧ w.cell? ⟨b, i * 4 + 3, none⟩ = some (.int .u64 (u x.d)) := by
  have c : ∀ j v, (encL x)[j]? = some v → w.cell? ⟨b, i * 4 + j, none⟩ = some v := fun j v hv => (h.c _).trans (lrow_at hx j v hv)
  exact ⟨c 0 _ rfl, c 1 _ rfl, c 2 _ rfl, c 3 _ rfl⟩

/-- What comes of asking a part: the places of which R says so; the part stays what it was. -/
def PostG (l : List Int) (t : Tree) (R : Nat → Prop) (b i : Nat) (rows : List PV) (lo hi : Nat) (w : World) (e : Ending) (w' : World) : Prop :=
  ∃ (r : Pl) (x' : PV), e = .returned (plv r) ∧ (∀ j, r.has j = true ↔ R j) ∧ St l t w' b i (rows.set i x') x' lo hi ∧ Fr lo hi b w w'

/-- What 'ends' does with a part. -/
def CE (l : List Int) (t : Tree) : Prop := ∀ (w : World) (b i : Nat) (rows : List PV) (x : PV) (lo hi : Nat) (N : Pl), St l t w b i rows x lo hi → (∀ n, N.has n = true → n ≤ l.length) →
  Calls Tryd.prog 18 #[.pointer (some ⟨b, i * 11, none⟩), plv N] w fun e w' => PostG l t (fun j => ∃ i, N.has i = true ∧ Goes l t i j) b i rows lo hi w e w'

end Go.Proofs.YtihnmamejfoeeaaDoor
