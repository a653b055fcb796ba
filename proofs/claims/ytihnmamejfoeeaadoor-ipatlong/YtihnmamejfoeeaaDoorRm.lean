/-
  Rows of bools in memory: made, copied, stored; what the document's ends comes to.
-/
import Derived.Test.YtihnmamejfoeeaaDoorMa
import Derived.Test.YtihnmamejfoeeaaDoorCb
import Derived.Laws.CopyOwn
namespace Go.Proofs.YtihnmamejfoeeaaDoor
open Go.RowKit

def brow (l : List Bool) : Array Value := (cellsOf encB l).toArray
theorem info4 : (Tryd.prog.info? 4).map (fun i => (i.zero, i.size, i.bytes)) = some (some (.bool false), 1, 1) := by kernel_rfl
theorem make4 (N : Nat) (hN : N ≤ 400) (W : World) : (Instr.makeSlice 58 (.int .i64 N) (.int .i64 N)).run Tryd.prog W = .ok (.slice (some ⟨W.heap.size, 0, none⟩) N N) (W.alloc (.cells (brow (List.replicate N false)) 4)) := by
  obtain ⟨i, hi, hz, hz1, hz2⟩ := info_parts info4
  have := run_make (P := Tryd.prog) W 58 4 i _ Tryd.underlying58 hi hz .i64 .i64 N N (by omega) (by omega) (by rw [hz2]; omega) (by omega)
  rw [this, hz1]
  exact congrArg (fun c => Result.ok (Value.slice (some ⟨W.heap.size, 0, none⟩) N N) (W.alloc (.cells c 4))) (made_rows encB_len (by omega) false _ rfl N)

theorem brow_at {W : World} {b i : Nat} {bs : List Bool} {q : Bool} (h : Blk W b (brow bs) 4) (hi : bs[i]? = some q) : W.cell? ⟨b, i, none⟩ = some (.bool q) := by
  rw [h.c i]
  unfold brow
  rw [List.getElem?_toArray]
  have := cellsOf_at encB_len bs i q hi 0 _ rfl
  rw [show i * 1 + 0 = i by omega] at this
  exact this
theorem brow_set {W : World} {b i : Nat} {bs : List Bool} (h : Blk W b (brow bs) 4) (hi : i < bs.length) (q : Bool) : Blk (W.setCell ⟨b, i, none⟩ (.bool q)) b (brow (bs.set i q)) 4 := by
  have h1 := h.set i (.bool q)
  unfold brow at h1 ⊢
  rw [List.setIfInBounds_toArray] at h1
  obtain ⟨y, hy⟩ : ∃ y, bs[i]? = some y := ⟨_, List.getElem?_eq_getElem hi⟩
  have h2 := cellsOf_set encB_len bs i y q hy 0 (.bool q) rfl (by omega)
  rw [show i * 1 + 0 = i by omega] at h2
  rw [h2] at h1
  exact h1
theorem brow_toList (bs : List Bool) : (brow bs).toList = cellsOf encB bs := by simp [brow]
theorem brow_size (bs : List Bool) : (brow bs).size = bs.length := by
  have := cellsOf_length encB_len bs
  simp [brow, this]

/-- 'copy' of a whole row of bools over another one. -/
theorem wp_copyB {w : World} {ops : Array Oper} {rest : List Oper} {o : Oper} {a : Act} {Q : Exit → Act → World → Prop} (hgd : o.guard = none) (d s : Operand)
    (ho : o.op = .call { callee := .builtin .copy, args := #[d, s], argTypes := #[58, 58] }) (g ab n : Nat) (hd : a.eval d = .slice (some ⟨g, 0, none⟩) n n) (hs : a.eval s = .slice (some ⟨ab, 0, none⟩) n n)
    (cur bs : List Bool) (hg : Blk w g (brow cur) 4) (hb : Blk w ab (brow bs) 4) (hc : cur.length = n) (hl : bs.length = n)
    (h : ∀ w', Blk w' g (brow bs) 4 → Below g w w' → w.drawn ≤ w'.drawn → wpList Tryd.prog ops Q rest (a.put o.dst (goInt n)) w') : wpList Tryd.prog ops Q (o :: rest) a w := by
  have hlen : (cellsOf encB bs).length = n := by rw [cellsOf_length encB_len, hl, Nat.mul_one]
  have hcur : (cellsOf encB cur).length = n := by rw [cellsOf_length encB_len, hc, Nat.mul_one]
  have hsz : (Tryd.prog.info? 4).map (·.size) = some 1 := by kernel_rfl
  refine wpList_copy_own hgd d s 58 58 ho 4 Tryd.underlying58 hsz g 0 n n ⟨ab, 0, none⟩ n n hd hs (brow cur) 4 hg (cellsOf encB bs) (by rw [hlen]; exact (Nat.min_self n).symm) ?_ ?_ ?_ ?_
  · intro j v hv
    rw [add_none, Nat.zero_add, hb.c, ← Array.getElem?_toList, brow_toList]
    exact hv
  · rw [brow_size, hc, hlen]; omega
  · intro v hv
    obtain ⟨x, _, hx⟩ := List.mem_flatMap.1 hv
    exact oneB x v hx
  · rw [hlen]
    have e : ((brow cur).toList.take 0 ++ (cellsOf encB bs ++ (brow cur).toList.drop (0 + n))).toArray = brow bs := by
      rw [brow_toList, List.take_zero, List.nil_append, Nat.zero_add, List.drop_eq_nil_of_le (by omega), List.append_nil]
      rfl
    rw [e]
    exact h _ (setRow_heap w g _ _ 4 _ hg) (below_setRow (Below.refl _ _) (Nat.le_refl _) _) (Nat.le_refl _)

/-- A place is on. -/
def On (bs : List Bool) (j : Nat) : Prop := bs[j]? = some true
theorem on_false (N j : Nat) : ¬ On (List.replicate N false) j := by
  unfold On
  rw [List.getElem?_replicate]
  split <;> simp
theorem on_set {bs : List Bool} {i : Nat} (hi : i < bs.length) (j : Nat) : On (bs.set i true) j ↔ On bs j ∨ j = i := by
  unfold On
  by_cases e : i = j
  · subst e
    simp [hi]
  · rw [List.getElem?_set_ne e]
    constructor
    · intro h; exact Or.inl h
    · rintro (h | h)
      · exact h
      · exact absurd h.symm e
theorem on_lt {bs : List Bool} {j : Nat} (h : On bs j) : j < bs.length := (List.getElem?_eq_some_iff.1 h).1
theorem off_of {bs : List Bool} {j : Nat} (h : bs[j]? = some false) : ¬ On bs j := by unfold On; rw [h]; simp

def PostE (l : List Int) (t : Tree) (bs : List Bool) (w : World) (e : Ending) (w' : World) : Prop :=
  ∃ (ob : Nat) (os : List Bool), e = .returned (.slice (some ⟨ob, 0, none⟩) (l.length + 1) (l.length + 1)) ∧ w.heap.size ≤ ob ∧ Blk w' ob (brow os) 4 ∧ os.length = l.length + 1 ∧ (∀ j, On os j ↔ ∃ i, On bs i ∧ Goes l t i j) ∧ Gr w w'
/-- What the document's ends does with a part. -/
def CR (l : List Int) (pv : Value) (t : Tree) : Prop := ∀ (x : PC) (w : World) (ab : Nat) (bs : List Bool), HT w t x → RowN w pv l → Blk w ab (brow bs) 4 → bs.length = l.length + 1 →
  Calls Tryd.prog 21 #[x.v, pv, .slice (some ⟨ab, 0, none⟩) (l.length + 1) (l.length + 1)] w fun e w' => PostE l t bs w e w'

/-- Between the rounds: the pattern in its box, the answer in its block. -/
structure EX (w : World) (x : PC) (ob : Nat) (os : List Bool) (W : World) : Prop where
  gr : Gr w W
  box : Blk W w.heap.size (encT x).toArray 25
  out : Blk W ob (brow os) 4
  hob : w.heap.size < ob
theorem EX.bel {w : World} {x : PC} {ob : Nat} {os : List Bool} {W : World} (h : EX w x ob os W) : Below w.heap.size w W := h.gr.below
theorem EX.go {w : World} {x : PC} {ob : Nat} {os : List Bool} {W W' : World} (h : EX w x ob os W) (g : Gr W W') : EX w x ob os W' := ⟨h.gr.trans g, h.box.bel g.below, h.out.bel g.below, h.hob⟩
theorem EX.set {w : World} {x : PC} {ob : Nat} {os : List Bool} {W : World} (h : EX w x ob os W) {i : Nat} (hi : i < os.length) (q : Bool) : EX w x ob (os.set i q) (W.setCell ⟨ob, i, none⟩ (.bool q)) :=
  ⟨h.gr.setCell (by have := h.hob; show w.heap.size ≤ ob; omega) _, h.box.other (by have := h.hob; show w.heap.size ≠ ob; omega) _, brow_set h.out hi q, h.hob⟩
theorem EX.copied {w : World} {x : PC} {ob : Nat} {os bs : List Bool} {W W' : World} (h : EX w x ob os W) (hb : Blk W' ob (brow bs) 4) (g : Below ob W W') (d : W.drawn ≤ W'.drawn) : EX w x ob bs W' :=
  ⟨.of (h.bel.trans (g.mono (by have := h.hob; omega))) (Nat.le_trans h.gr.drawn d), (g.block _ h.hob).trans h.box, hb, h.hob⟩

end Go.Proofs.YtihnmamejfoeeaaDoor
