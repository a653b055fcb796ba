/-
  Patterns in new memory: what copies carry between their rounds.
  The walk of copied: the same pattern in new memory.
  Patterns made of literals: Any, five; rows of literals that a call owns; a pattern so many times, as a tree.
  A pattern so many times, as a tree: how many parts it has, which are right, how long its lists are.
-/
import Derived.Test.YtjjlkjfhhpogaaaDoorW2
import Derived.Deep.RegionLaw
import Derived.Deep.WholeRow
import Derived.Deep.RegionHeld3
import Derived.Deep.DeepCutAuto
namespace Go.Proofs.YtjjlkjfhhpogaaaDoor
open Go.RowKit

/-- One element behind a row of the call's own, in a region that draws. -/
theorem step_appX1 {α : Type} {f : α → List Value} {n : Nat} {t T : TypeId} {z : Value} {bytes : Nat}
    (hinfo : (Tryd.prog.info? t).map (fun i => (i.zero, i.size, i.bytes)) = some (some z, n, bytes)) (hT : Tryd.prog.underlying T = some (.slice t)) (hf : ∀ x, (f x).length = n) (h1c : ∀ x, ∀ u ∈ f x, u.oneCell' = true) (hzs : z.cells.size = n) (hn : 0 < n) (hby : bytes ≤ 100)
    {w : World} {ops : Array Oper} {o : Oper} {a : Act} {K : Act → World → Prop} {Q : Exit → Act → World → Prop} {E : Prop} (hgd : o.guard = none) (s x : Operand)
    (ho : o.op = .call { callee := .builtin .append, args := #[s, x], argTypes := #[T, T] })
    (base : Nat) (v : Value) (l : List α) (hs : a.eval s = v) (hown : OwnX f n t base w v l) (y : α)
    (blk : Nat) (hx : a.eval x = .slice (some ⟨blk, 0, none⟩) 1 1) (cs : Array Value) (hb : Blk w blk cs t) (hcs : cs.toList = f y)
    (hl : l.length ≤ 1000000) (hbase : base ≤ w.heap.size) (H : Nat) (hH : w.heap.size = H)
    (h : ∀ g cap w', OwnX f n t base w' (.slice (some ⟨g, 0, none⟩) (l.length + 1) cap) (l ++ [y]) → w.grownBy w' v.ownBlock → (v.ownBlock = some g ∨ g = H) → K (a.put o.dst (.slice (some ⟨g, 0, none⟩) (l.length + 1) cap)) w') : if Region.wanted o (yielded ops a.tmps) = true then Oper.wp Tryd.prog o a w K Q else E := by
  obtain ⟨i, hi, hz, hz1, hz2⟩ := info_parts hinfo
  refine step_append_lies w hgd s x T ho base t i _ n bytes hT hi hz hz1 hz2 hzs hn v l.length (cellsOf f l) hs hown ⟨blk, 0, none⟩ 1 1 (f y) hx (by rw [hf]; omega) ?_ (h1c y) (by decide) (by unfold maxLen; omega) ?_ hbase H hH ?_
  · intro j u hu
    have hadd : (⟨blk, 0, none⟩ : Addr).add j = ⟨blk, j, none⟩ := by unfold Addr.add; split <;> simp_all
    rw [hadd, hb.c, ← Array.getElem?_toList, hcs]
    exact hu
  · have : (l.length + 1) * bytes ≤ 1000001 * 100 := Nat.mul_le_mul (by omega) hby
    omega
  · intro g cap w' how hgr hg hlt
    refine h g cap w' ?_ hgr hg
    show w'.ownsRow base t n _ (l ++ [y]).length (cellsOf f (l ++ [y]))
    rw [cellsOf_append, List.length_append]
    have : cellsOf f [y] = f y := by simp [cellsOf]
    rw [this]
    exact how

theorem step_appT {w : World} {ops : Array Oper} {o : Oper} {a : Act} {K : Act → World → Prop} {Q : Exit → Act → World → Prop} {E : Prop} (hgd : o.guard = none) (s x : Operand)
    (ho : o.op = .call { callee := .builtin .append, args := #[s, x], argTypes := #[23, 23] })
    (base : Nat) (v : Value) (l : List PC) (hs : a.eval s = v) (hown : OwnT base w v l) (y : PC)
    (blk : Nat) (hx : a.eval x = .slice (some ⟨blk, 0, none⟩) 1 1) (hb : Blk w blk (encT y).toArray 25)
    (hl : l.length ≤ 1000000) (hbase : base ≤ w.heap.size) (H : Nat) (hH : w.heap.size = H)
    (h : ∀ g cap w', OwnT base w' (.slice (some ⟨g, 0, none⟩) (l.length + 1) cap) (l ++ [y]) → w.grownBy w' v.ownBlock → (v.ownBlock = some g ∨ g = H) → K (a.put o.dst (.slice (some ⟨g, 0, none⟩) (l.length + 1) cap)) w') : if Region.wanted o (yielded ops a.tmps) = true then Oper.wp Tryd.prog o a w K Q else E :=
  step_appX1 info25 Tryd.underlying23 encT_len oneT rfl (by decide) (by decide) hgd s x ho base v l hs hown y blk hx _ hb rfl hl hbase H hH h

theorem step_appSall {w : World} {ops : Array Oper} {o : Oper} {a : Act} {K : Act → World → Prop} {Q : Exit → Act → World → Prop} {E : Prop} (hgd : o.guard = none) (s x : Operand)
    (ho : o.op = .call { callee := .builtin .append, args := #[s, x], argTypes := #[22, 22] })
    (base : Nat) (v : Value) (hs : a.eval s = v) (hown : OwnS base w v []) (u : Value) (m : List (Int × Int)) (hx : a.eval x = u) (hu : RowS w u m)
    (hl : m.length ≤ 17592186043904) (hbase : base ≤ w.heap.size)
    (h : ∀ ao cap w', OwnS base w' (.slice ao m.length cap) m → w.grownBy w' v.ownBlock → K (a.put o.dst (.slice ao m.length cap)) w') : if Region.wanted o (yielded ops a.tmps) = true then Oper.wp Tryd.prog o a w K Q else E :=
  step_appXall info78 Tryd.underlying22 encS_len oneS rfl (by decide) hgd s x ho base v [] hs hown u m hx hu (by simp; omega) (by simp; omega) hbase (fun v' w' how gr => by
    rw [List.nil_append] at how
    obtain ⟨ao, cap, rfl⟩ := how.form
    exact h ao cap w' how gr)

theorem OwnX.neBlk {α : Type} {f : α → List Value} {n : Nat} {t t' : TypeId} {base : Nat} {w : World} {v : Value} {l : List α} (h : OwnX f n t base w v l) {b : Nat} {cs : Array Value} (hb : Blk w b cs t') (ht : t ≠ t') : v.ownBlock ≠ some b := by
  intro e
  rcases h.2 with ⟨rfl, _⟩ | ⟨g, cap, cur, rfl, _, hg, _⟩
  · cases e
  · injection e with e
    subst e
    unfold Blk at hb
    rw [hg] at hb
    injection hb with hb
    injection hb with _ hb
    exact ht hb

theorem Gr.grown {a w w' : World} {o : Option Nat} (h : Gr a w) (g : w.grownBy w' o) (ho : ∀ k, o = some k → a.heap.size ≤ k) (hd : w.drawn ≤ w'.drawn) : Gr a w' :=
  Gr.of (h.below.grown g h.below.size ho) (Nat.le_trans h.drawn hd)

/-- A copy, between its rounds: x the pattern, its Set copied, j of its Subs. -/
structure CI (w : World) (x : PC) (k : Int) (set : List (Int × Int)) (subs : List Tree) (b3 j : Nat) (s bs : Sl) (rows : List PC) (W : World) : Prop where
  bel : Below w.heap.size w W
  box : Blk W w.heap.size (encT x).toArray 25
  res : Blk W (w.heap.size + 1) (encT ⟨0, ⟨none, 0, 0⟩, ⟨none, 0, 0⟩⟩).toArray 25
  me : Blk W b3 (encT ⟨k, s, bs⟩).toArray 25
  set : OwnS 0 W s.v set
  setP : ∀ g, s.v.ownBlock = some g → w.heap.size + 2 ≤ g
  row : OwnT 0 W bs.v rows
  rowP : ∀ g, bs.v.ownBlock = some g → w.heap.size + 2 ≤ g ∧ g ≠ b3
  hos : HOs (fun g => w.heap.size + 2 ≤ g ∧ g < W.heap.size ∧ g ≠ b3 ∧ bs.v.ownBlock ≠ some g) W (subs.take j) rows
  hb3 : w.heap.size + 2 ≤ b3
  sz : w.heap.size + 3 ≤ W.heap.size

/-- What a copy comes to: the same pattern in new memory. -/
def PostC (t : Tree) (w : World) (e : Ending) (w' : World) : Prop :=
  ∃ r : PC, e = .returned r.v ∧ HO (fun g => w.heap.size ≤ g ∧ g < w'.heap.size) w' t r ∧ Below w.heap.size w w'


theorem OwnX.neOwn {α β : Type} {f : α → List Value} {f' : β → List Value} {n n' : Nat} {t t' : TypeId} {base base' : Nat} {w : World} {v v' : Value} {l : List α} {l' : List β} (h : OwnX f n t base w v l) (h' : OwnX f' n' t' base' w v' l') (ht : t ≠ t') {g : Nat} (hg : v.ownBlock = some g) : v'.ownBlock ≠ some g := by
  rcases h.2 with ⟨rfl, _⟩ | ⟨g1, cap, cur, rfl, _, h1, _⟩
  · cases hg
  · injection hg with e
    subst e
    exact h'.neBlk (b := g1) (cs := cur) h1 (fun e => ht e.symm)

theorem OwnX.grown {α : Type} {f : α → List Value} {n : Nat} {t : TypeId} {base : Nat} {w w' : World} {v : Value} {l : List α} (h : OwnX f n t base w v l) {o : Option Nat} (hB : w.grownBy w' o) (ho : ∀ g, v.ownBlock = some g → o ≠ some g) : OwnX f n t base w' v l :=
  h.same fun g hg => hB.block g (h.lt hg).2 (fun e => ho g hg e.symm)

theorem CI.go {w : World} {x : PC} {k : Int} {set : List (Int × Int)} {subs : List Tree} {b3 j : Nat} {s bs : Sl} {rows : List PC} {W W' : World} (h : CI w x k set subs b3 j s bs rows W) (g : Below W.heap.size W W') : CI w x k set subs b3 j s bs rows W' :=
  ⟨h.bel.trans (g.mono h.bel.size), h.box.bel g, h.res.bel g, h.me.bel g, h.set.bel g, h.setP, h.row.bel g, h.rowP, HOs.same (fun _ h1 => ⟨h1.1, Nat.lt_of_lt_of_le h1.2.1 g.size, h1.2.2⟩) (fun g1 h1 => g.block g1 h1.2.1) h.hos, h.hb3, Nat.le_trans h.sz g.size⟩

theorem encT_set2 (k : Int) (s bs : Sl) (v : Sl) : (encT ⟨k, s, bs⟩).toArray.setIfInBounds 2 (.slice v.a v.n v.c) = (encT ⟨k, s, v⟩).toArray := rfl

/-- One copy more behind the row. -/
theorem CI.step {w : World} {x : PC} {k : Int} {set : List (Int × Int)} {subs : List Tree} {b3 j : Nat} {s bs : Sl} {rows : List PC} {W W' : World} (h : CI w x k set subs b3 j s bs rows W) {t : Tree} (ht : subs[j]? = some t) {r : PC} {lo : Nat} (hr : HO (fun g => lo ≤ g ∧ g < W.heap.size) W t r) (hlo3 : b3 < lo) (hlo4 : ∀ g, bs.v.ownBlock = some g → g < lo)
    {g n cap : Nat} (how : OwnT 0 W' (.slice (some ⟨g, 0, none⟩) n cap) (rows ++ [r])) (gr : W.grownBy W' bs.v.ownBlock) (hg : bs.v.ownBlock = some g ∨ g = W.heap.size) :
    CI w x k set subs b3 (j + 1) s ⟨some ⟨g, 0, none⟩, n, cap⟩ (rows ++ [r]) (W'.setCell ⟨b3, 2, none⟩ (.slice (some ⟨g, 0, none⟩) n cap)) := by
  have hb3 := h.hb3
  have m3 := h.me.lt
  have hk : ∀ q, bs.v.ownBlock = some q → w.heap.size ≤ q := fun q hq => by have := (h.rowP q hq).1; omega
  have hgb : w.heap.size + 2 ≤ g ∧ g ≠ b3 := by
    rcases hg with hg | hg
    · exact h.rowP g hg
    · omega
  have hset : ∀ (g1 : Nat), s.v.ownBlock = some g1 → bs.v.ownBlock ≠ some g1 := fun g1 hg1 => h.set.neOwn h.row (by decide) hg1
  have hsb : s.v.ownBlock ≠ some b3 := h.set.neBlk h.me (by decide)
  have hnew : ∀ q, q < W.heap.size → bs.v.ownBlock ≠ some q → (Sl.v ⟨some ⟨g, 0, none⟩, n, cap⟩).ownBlock ≠ some q := fun q h1 h2 e => by
    injection e with e
    have e : g = q := e
    subst e
    rcases hg with hg | hg
    · exact h2 hg
    · omega
  have hheap : ∀ q, q < W.heap.size → q ≠ b3 → bs.v.ownBlock ≠ some q → (W'.setCell ⟨b3, 2, none⟩ (.slice (some ⟨g, 0, none⟩) n cap)).heap[q]? = W.heap[q]? := fun q h1 h2 h3 => (Below.heap_setCell _ _ _ _ h2).trans (gr.block q h1 (fun e => h3 e.symm))
  have hsz : (W'.setCell ⟨b3, 2, none⟩ (.slice (some ⟨g, 0, none⟩) n cap)).heap.size = W'.heap.size := by simp
  refine ⟨(h.bel.grown gr h.bel.size hk).setCell (by show w.heap.size ≤ b3; omega) _, (h.box.grown gr (fun e => by have := (h.rowP _ e).1; omega)).other (by show w.heap.size ≠ b3; omega) _, (h.res.grown gr (fun e => by have := (h.rowP _ e).1; omega)).other (by show w.heap.size + 1 ≠ b3; omega) _, ?_, (h.set.grown gr hset).setOther hsb _, h.setP, how.setOther (by intro e; injection e with e; exact hgb.2 e) _, ?_, ?_, h.hb3, ?_⟩
  · have h1 := (h.me.grown gr (fun e => (h.rowP _ e).2 rfl)).set 2 (.slice (some ⟨g, 0, none⟩) n cap)
    exact h1
  · intro g1 hg1
    injection hg1 with hg1
    have hg1 : g = g1 := hg1
    subst hg1
    exact hgb
  · rw [take_succ_of ht]
    refine HOs.snoc (HOs.same ?_ ?_ h.hos) (HO.same ?_ ?_ hr)
    · intro q ⟨h1, h2, h3, h4⟩
      exact ⟨h1, by rw [hsz]; exact Nat.lt_of_lt_of_le h2 gr.size, h3, hnew q h2 h4⟩
    · intro q ⟨h1, h2, h3, h4⟩
      exact hheap q h2 h3 h4
    · intro q ⟨h1, h2⟩
      exact ⟨by omega, by rw [hsz]; exact Nat.lt_of_lt_of_le h2 gr.size, by omega, hnew q h2 (fun e => by have := hlo4 q e; omega)⟩
    · intro q ⟨h1, h2⟩
      exact hheap q h2 (by omega) (fun e => by have := hlo4 q e; omega)
  · rw [hsz]; exact Nat.le_trans h.sz gr.size

/-- The copy, returned. -/
theorem CI.fin {w : World} {x : PC} {k : Int} {set : List (Int × Int)} {subs : List Tree} {b3 : Nat} {s bs : Sl} {rows : List PC} {W : World} (h : CI w x k set subs b3 subs.length s bs rows W) (v0 v1 v2 : Value) :
    PostC (.mk k set subs) w (.returned (PC.v ⟨k, s, bs⟩)) (((W.setCell ⟨w.heap.size + 1, 0, none⟩ v0).setCell ⟨w.heap.size + 1, 1, none⟩ v1).setCell ⟨w.heap.size + 1, 2, none⟩ v2) := by
  have hheap : ∀ q, q ≠ w.heap.size + 1 → (((W.setCell ⟨w.heap.size + 1, 0, none⟩ v0).setCell ⟨w.heap.size + 1, 1, none⟩ v1).setCell ⟨w.heap.size + 1, 2, none⟩ v2).heap[q]? = W.heap[q]? := fun q hq => by
    rw [Below.heap_setCell _ _ _ _ hq, Below.heap_setCell _ _ _ _ hq, Below.heap_setCell _ _ _ _ hq]
  have hsz : (((W.setCell ⟨w.heap.size + 1, 0, none⟩ v0).setCell ⟨w.heap.size + 1, 1, none⟩ v1).setCell ⟨w.heap.size + 1, 2, none⟩ v2).heap.size = W.heap.size := by simp
  have hb : w.heap.size ≤ w.heap.size + 1 := by omega
  refine ⟨⟨k, s, bs⟩, rfl, (HO_mk _ _ _ _ _ _).2 ⟨rfl, ⟨h.set.same fun g hg => hheap g (by have := h.setP g hg; omega), fun g hg => ⟨by have := h.setP g hg; omega, by rw [hsz]; exact (h.set.lt hg).2⟩⟩, rows, ⟨h.row.same fun g hg => hheap g (by have := (h.rowP g hg).1; omega), fun g hg => ⟨by have := (h.rowP g hg).1; omega, by rw [hsz]; exact (h.row.lt hg).2⟩⟩, ?_⟩, ((h.bel.setCell hb _).setCell hb _).setCell hb _⟩
  have h1 := h.hos
  rw [List.take_length] at h1
  exact HOs.same (fun q ⟨h1, h2, _, _⟩ => ⟨by omega, by rw [hsz]; exact h2⟩) (fun q ⟨h1, _⟩ => hheap q (by omega)) h1

theorem CI.start1 {w : World} {x : PC} {k : Int} {set : List (Int × Int)} {subs : List Tree} {B cap : Nat} {ao : Option Addr} {wa : World} (hB : Below w.heap.size w wa) (hX : Blk wa w.heap.size (encT x).toArray 25) (hR : Blk wa (w.heap.size + 1) (encT ⟨0, ⟨none, 0, 0⟩, ⟨none, 0, 0⟩⟩).toArray 25) (hO : OwnS B wa (.slice ao set.length cap) set) (hb : w.heap.size + 2 ≤ B) (hz : B ≤ wa.heap.size) :
    CI w x k set subs wa.heap.size 0 ⟨ao, set.length, cap⟩ ⟨none, 0, 0⟩ [] (wa.alloc (.cells #[.int .i64 k, .slice ao set.length cap, .slice none 0 0] 25)) :=
  ⟨hB.alloc hB.size _, hX.alloc _, hR.alloc _, Blk.new _ _ _, (hO.lower (Nat.zero_le _)).alloc _, fun g hg => Nat.le_trans hb (hO.lt hg).1, OwnX.nil _ _ _ _ _, (fun g hg => by cases hg), (HOs_nil _ _ _).2 rfl, by omega, by simp; omega⟩

theorem CI.start2 {w : World} {x y : PC} {k : Int} {set : List (Int × Int)} {subs : List Tree} {B cap b3 : Nat} {ao : Option Addr} {wa : World} (hB : Below w.heap.size w wa) (hX : Blk wa w.heap.size (encT x).toArray 25) (hR : Blk wa (w.heap.size + 1) (encT ⟨0, ⟨none, 0, 0⟩, ⟨none, 0, 0⟩⟩).toArray 25) (hM : Blk wa b3 (encT y).toArray 25) (hO : OwnS B wa (.slice ao set.length cap) set) (hb : w.heap.size + 2 ≤ B) (hb3 : w.heap.size + 2 ≤ b3) :
    CI w x k set subs b3 0 ⟨ao, set.length, cap⟩ ⟨none, 0, 0⟩ [] (((wa.setCell ⟨b3, 0, none⟩ (.int .i64 k)).setCell ⟨b3, 1, none⟩ (.slice ao set.length cap)).setCell ⟨b3, 2, none⟩ (.slice none 0 0)) := by
  have hne : (Value.slice ao set.length cap).ownBlock ≠ some b3 := hO.neBlk hM (by decide)
  have hk : w.heap.size ≤ b3 := by omega
  have h3 := hM.lt
  refine ⟨((hB.setCell hk _).setCell hk _).setCell hk _, ((hX.other (by show w.heap.size ≠ b3; omega) _).other (by show w.heap.size ≠ b3; omega) _).other (by show w.heap.size ≠ b3; omega) _, ((hR.other (by show w.heap.size + 1 ≠ b3; omega) _).other (by show w.heap.size + 1 ≠ b3; omega) _).other (by show w.heap.size + 1 ≠ b3; omega) _, ?_, (((hO.lower (Nat.zero_le _)).setOther hne _).setOther hne _).setOther hne _, fun g hg => Nat.le_trans hb (hO.lt hg).1, OwnX.nil _ _ _ _ _, (fun g hg => by cases hg), (HOs_nil _ _ _).2 rfl, hb3, by simp; omega⟩
  exact ((hM.set 0 (.int .i64 k)).set 1 (.slice ao set.length cap)).set 2 (.slice none 0 0)

theorem CI.len {w : World} {x : PC} {k : Int} {set : List (Int × Int)} {subs : List Tree} {b3 j : Nat} {s bs : Sl} {rows : List PC} {W : World} (h : CI w x k set subs b3 j s bs rows W) : rows.length ≤ j := by
  have := h.hos.len
  simp at this
  omega
theorem CI.me_grown {w : World} {x : PC} {k : Int} {set : List (Int × Int)} {subs : List Tree} {b3 j : Nat} {s bs : Sl} {rows : List PC} {W W' : World} (h : CI w x k set subs b3 j s bs rows W) (gr : W.grownBy W' bs.v.ownBlock) : Blk W' b3 (encT ⟨k, s, bs⟩).toArray 25 := h.me.grown gr (fun e => (h.rowP _ e).2 rfl)
theorem run_ptv {w : World} {b : Nat} {x : PC} (h : Blk w b (encT x).toArray 25) : (loadVar 25 ⟨b, 0, none⟩).run Tryd.prog w = .ok (PC.v x) w := run_loadVar_row w b 25 25 (encT x).toArray (0, 0) _ h Tryd.underlying25 rfl (by kernel_rfl)
theorem blk_put3 {w : World} {b : Nat} {x : PC} (h : Blk w b (encT x).toArray 25) (y : PC) : Blk (((w.setCell ⟨b, 0, none⟩ (.int .i64 y.k)).setCell ⟨b, 1, none⟩ (.slice y.s.a y.s.n y.s.c)).setCell ⟨b, 2, none⟩ (.slice y.b.a y.b.n y.b.c)) b (encT y).toArray 25 :=
  ((h.set 0 (.int .i64 y.k)).set 1 (.slice y.s.a y.s.n y.s.c)).set 2 (.slice y.b.a y.b.n y.b.c)
theorem HO.imp {P Q : Nat → Prop} {w : World} {t : Tree} {x : PC} (h : HO P w t x) (hPQ : ∀ g, P g → Q g) : HO Q w t x := HO.same hPQ (fun _ _ => rfl) h
theorem HO.bel {lo : Nat} {w w' : World} {t : Tree} {x : PC} (h : HO (fun g => lo ≤ g ∧ g < w.heap.size) w t x) (hB : Below w.heap.size w w') : HO (fun g => lo ≤ g ∧ g < w'.heap.size) w' t x :=
  HO.same (fun _ hg => ⟨hg.1, Nat.lt_of_lt_of_le hg.2 hB.size⟩) (fun g hg => hB.block g hg.2) h
theorem HO.low {lo lo' hi : Nat} {w : World} {t : Tree} {x : PC} (h : HO (fun g => lo ≤ g ∧ g < hi) w t x) (hl : lo' ≤ lo) : HO (fun g => lo' ≤ g ∧ g < hi) w t x := h.imp fun _ hg => ⟨Nat.le_trans hl hg.1, hg.2⟩
theorem bel_alloc (w : World) (o : Obj) : Below w.heap.size w (w.alloc o) := (Below.refl _ _).alloc (Nat.le_refl _) o
theorem OwnX.empty {α : Type} {f : α → List Value} {n : Nat} {t : TypeId} {base : Nat} {w : World} {b : Nat} (hb : Blk w b #[] t) (h : base ≤ b) : OwnX f n t base w (.slice (some ⟨b, 0, none⟩) 0 0) ([] : List α) :=
  ⟨by simp [cellsOf], .inr ⟨b, 0, #[], rfl, h, hb, by simp, by unfold maxLen; simp, by simp, by simp [cellsOf]⟩⟩
theorem own_ne {b g n c : Nat} (h : b ≠ g) : (Value.slice (some ⟨b, 0, none⟩) n c).ownBlock ≠ some g := by
  intro e
  injection e with e
  exact h e
theorem own_le {b n c B : Nat} (h : B ≤ b) : ∀ k, (Value.slice (some ⟨b, 0, none⟩) n c).ownBlock = some k → B ≤ k := by
  intro k e
  injection e with e
  have e : b = k := e
  omega

end Go.Proofs.YtjjlkjfhhpogaaaDoor

namespace Go.Proofs.YtjjlkjfhhpogaaaDoor
open Go.RowKit

set_option maxRecDepth 100000 in
set_option maxHeartbeats 4000000 in
theorem copied_any (m : Nat) : ∀ (t : Tree) (x : PC) (w : World), size t ≤ m → size t ≤ 3000 → okT t → HT w t x → Calls Tryd.prog 69 #[x.v] w fun e w' => PostC t w e w' := by
  induction m with
  | zero => intro t x w h; have := size_pos t; omega
  | succ m ih =>
  intro t x w hm hz hok hx
  obtain ⟨k, set, subs, rows, sa, sc, ba, bc, rfl, rfl, hS, hB, hT⟩ := hx.parts
  rw [size_mk] at hm hz
  obtain ⟨ok1, ok2, ok3⟩ := (okT_mk _ _ _).1 hok
  have hlen := length_le_sizeL subs
  have HE : Hid (∀ (j : Nat) (s : Tree) (r : PC) (W : World), subs[j]? = some s → HT W s r → Calls Tryd.prog 69 #[r.v] W fun e w' => PostC s W e w') := fun j s r W hs h1 => ih s r W (by have := size_le_of_at hs; omega) (by have := size_le_of_at hs; omega) (okL.at ok3 hs) h1
  obtain ⟨N, hN⟩ : ∃ N, N = subs.length := ⟨_, rfl⟩
  obtain ⟨S, hSn⟩ : ∃ S, S = set.length := ⟨_, rfl⟩
  have HN : Hid (N = subs.length) := hN
  have HSn : Hid (S = set.length) := hSn
  have HS : Hid (RowS w (.slice sa S sc) set) := by rw [hSn]; exact hS
  have HB : Hid (RowT w (.slice ba N bc) rows) := by rw [hN]; exact hB
  have HT' : Hid (HTs w subs rows) := hT
  have HOk : Hid (set.length ≤ 17592186043904) := ok1
  rw [← hN] at hlen ⊢
  rw [← hSn]
  have hN2 : N ≤ 3000 := by omega
  clear hS hB hT hx hm hz ih hN hSn hlen ok1 ok2 ok3 hok
  go_enter Tryd.func69, Tryd.ntmps69
  go_upto_region 1 with fail
  generalize hW : World.alloc _ _ = W2
  have HB2 : Hid (Below w.heap.size w W2) := by rw [← hW]; exact ((Below.refl _ _).alloc (Nat.le_refl _) _).alloc (by simp) _
  have HX2 : Hid (Blk W2 w.heap.size (encT ⟨k, ⟨sa, S, sc⟩, ⟨ba, N, bc⟩⟩).toArray 25) := by rw [← hW]; exact (Blk.new _ _ _).alloc _
  have HR2 : Hid (Blk W2 (w.heap.size + 1) (encT ⟨0, ⟨none, 0, 0⟩, ⟨none, 0, 0⟩⟩).toArray 25) := by rw [← hW]; exact Blk.new' _ _ _ _ (by simp)
  have HZ2 : Hid (W2.heap.size = w.heap.size + 2) := by rw [← hW]; simp [Hid]
  clear hW
  have x2l : w.heap.size < W2.heap.size := HX2.out.lt
  have n1 : w.heap.size ≠ W2.heap.size := by omega
  have n2 : W2.heap.size ≠ w.heap.size := by omega
  obtain ⟨x0, x1, x2⟩ := BlkT.cs HX2.out
  simp only at x0 x1 x2
  go_cut [3] (fun v3 wx => ∃ b3 sl, v3 = .pointer (some ⟨b3, 0, none⟩) ∧ Hid (CI w ⟨k, ⟨sa, S, sc⟩, ⟨ba, N, bc⟩⟩ k set subs b3 0 sl ⟨none, 0, 0⟩ [] wx))
  case first =>
    go_region_held3 (fun w' => w'.cell? ⟨w.heap.size, 0, none⟩ = some (.int .i64 k) ∧ w'.cell? ⟨w.heap.size, 1, none⟩ = some (.slice sa S sc)) (go_keep)
      (first
        | (refine step_appSall (by rfl) _ _ (by rfl) W2.heap.size (.slice none 0 0) (by rfl) (OwnX.nil _ _ _ _ _) (.slice sa S sc) set (by rfl) (HS.out.bel (below_drewN HB2.out 1)) HOk.out (by simp) ?_; intro ao cap wa owa gra; have HOa : Hid (OwnS W2.heap.size wa (.slice ao set.length cap) set) := owa; have HBa : Hid (Below w.heap.size w wa) := (below_drewN HB2.out 1).grown gra (by have := HZ2.out; simp; omega) (fun k hk => by cases hk); have HXa : Hid (Blk wa w.heap.size (encT ⟨k, ⟨sa, S, sc⟩, ⟨ba, N, bc⟩⟩).toArray 25) := (HX2.out.drewN 1).grown gra (by intro e; cases e); have HRa : Hid (Blk wa (w.heap.size + 1) (encT ⟨0, ⟨none, 0, 0⟩, ⟨none, 0, 0⟩⟩).toArray 25) := (HR2.out.drewN 1).grown gra (by intro e; cases e); have HZa : Hid (W2.heap.size ≤ wa.heap.size) := (Nat.le_trans (by simp) gra.size); obtain ⟨i0, i1, i2⟩ := BlkT.cs HXa.out; clear owa gra)
        | (refine step_appSall (by rfl) _ _ (by rfl) W2.heap.size (.slice none 0 0) (by rfl) (OwnX.nil _ _ _ _ _) (.slice sa S sc) set (by rfl) (HS.out.bel (below_drewN (HB2.out.alloc (HB2.out.size) _) 1)) HOk.out (by simp) ?_; intro ao cap wa owa gra; have HOa : Hid (OwnS W2.heap.size wa (.slice ao set.length cap) set) := owa; have HBa : Hid (Below w.heap.size w wa) := (below_drewN (HB2.out.alloc (HB2.out.size) _) 1).grown gra (by have := HZ2.out; simp; omega) (fun k hk => by cases hk); have HXa : Hid (Blk wa w.heap.size (encT ⟨k, ⟨sa, S, sc⟩, ⟨ba, N, bc⟩⟩).toArray 25) := ((HX2.out.alloc _).drewN 1).grown gra (by intro e; cases e); have HRa : Hid (Blk wa (w.heap.size + 1) (encT ⟨0, ⟨none, 0, 0⟩, ⟨none, 0, 0⟩⟩).toArray 25) := ((HR2.out.alloc _).drewN 1).grown gra (by intro e; cases e); have HZa : Hid (W2.heap.size ≤ wa.heap.size) := (Nat.le_trans (by simp) gra.size); have HMa : Hid (Blk wa W2.heap.size (encT ⟨0, ⟨none, 0, 0⟩, ⟨none, 0, 0⟩⟩).toArray 25) := ((Blk.new _ _ _).drewN 1).grown gra (by intro e; cases e); obtain ⟨y0, y1, y2⟩ := BlkT.cs HMa.out; have yf := HMa.out.frozen; obtain ⟨i0, i1, i2⟩ := BlkT.cs HXa.out; clear owa gra))
    all_goals go_wp2_with fail
    all_goals go_meet
    · exact ⟨wa.heap.size, ⟨ao, set.length, cap⟩, rfl, CI.start1 HBa.out HXa.out HRa.out HOa.out (by have := HZ2.out; omega) HZa.out⟩
    · exact ⟨W2.heap.size, ⟨ao, set.length, cap⟩, rfl, CI.start2 HBa.out HXa.out HRa.out HMa.out HOa.out (by have := HZ2.out; omega) (by have := HZ2.out; omega)⟩
  case rest =>
    clear HB2 HX2 HR2 HZ2 x2l n1 n2 x0 x1 x2 HS HOk
    obtain ⟨b3, sl, rfl, HI⟩ := hcut
    obtain ⟨x0, x1, x2⟩ := BlkT.cs HI.out.box
    simp only at x0 x1 x2
    go_wp2_with fail
    clear x0 x1 x2
    go_loopw [15] (fun vi wr => ∃ (j : Nat) (bs : Sl) (done : List PC), j ≤ N ∧ vi = .int .i64 j ∧ Hid (CI w ⟨k, ⟨sa, S, sc⟩, ⟨ba, N, bc⟩⟩ k set subs b3 j sl bs done wr)) (fun vi _ => N - (intOf vi).toNat)
    case atStart => exact ⟨0, _, [], Nat.zero_le _, rfl, HI⟩
    case round =>
      clear HI
      obtain ⟨j, ⟨da, dn, dc⟩, done, hj, rfl, HI⟩ := hrel
      by_cases hlt : j < N
      case neg =>
        have hkN : N ≤ j := by omega
        have hjN : j = subs.length := by have := HN.out; omega
        rw [hjN] at HI
        clear hjN
        obtain ⟨m0, m1, m2⟩ := BlkT.cs HI.out.me
        obtain ⟨z0, z1, z2⟩ := BlkT.cs HI.out.res
        have zf := HI.out.res.frozen
        obtain ⟨la, ln, lc⟩ := sl
        simp only at m0 m1 m2
        go_wp2_with fail
        refine bodyPost_ret (v := PC.v ⟨k, ⟨la, ln, lc⟩, ⟨da, dn, dc⟩⟩) ?_ rfl (HI.out.fin _ _ _)
        simp [results, Tryd.results69]
        have B := blk_put3 HI.out.res ⟨k, ⟨la, ln, lc⟩, ⟨da, dn, dc⟩⟩
        simp only at B
        generalize hW7 : World.setCell _ _ _ = W7 at B ⊢
        exact run_ptv B
      case pos =>
        obtain ⟨s, hs⟩ : ∃ s, subs[j]? = some s := ⟨_, List.getElem?_eq_getElem (by have := HN.out; omega)⟩
        obtain ⟨r, hr, hr2⟩ := HTs.at HT'.out hs
        obtain ⟨rb, ro, rfl, hrb, q0, q1, q2⟩ := RowX.cs3 HB.out hr
        have q0' := (HI.out.bel.cell (by exact hrb)).trans q0
        have q1' := (HI.out.bel.cell (by exact hrb)).trans q1
        have q2' := (HI.out.bel.cell (by exact hrb)).trans q2
        have kE : ∀ W, Below w.heap.size w W → Calls Tryd.prog 69 #[r.v] W fun e w' => PostC s W e w' := fun W g => HE.out j s r W hs (HT.bel g hr2)
        have HSj : Hid (subs[j]? = some s) := hs
        have HL : Hid (done.length ≤ j) := HI.out.len
        have hlt2 : (j : Int) < N := by omega
        obtain ⟨rk, ⟨rsa, rsn, rsc⟩, rba, rbn, rbc⟩ := r
        simp only at q0' q1' q2'
        obtain ⟨m0, m1, m2⟩ := BlkT.cs HI.out.me
        simp only at m0 m1 m2
        have bl3 : b3 < wr.heap.size := HI.out.me.lt
        clear q0 q1 q2 hr hr2 hs HB
        go_wp2_with fail
        go_region_law
          (first
            | (go_simp; go_at_call 69; refine (kE _ (below_drewN (HI.out.bel.alloc HI.out.bel.size _) 1)).mono ?_; rintro _ w4 ⟨r4, rfl, ho4, bb4⟩; have I4 : Hid (CI w ⟨k, ⟨sa, S, sc⟩, ⟨some ⟨rb, ro, none⟩, N, bc⟩⟩ k set subs b3 j sl ⟨da, dn, dc⟩ done w4) := HI.out.go (bstep (below_drewN (bel_alloc _ _) 1) bb4); have H4 : Hid (HO (fun g => wr.heap.size + 1 ≤ g ∧ g < w4.heap.size) w4 s r4) := ho4.low (by simp); clear ho4 bb4; obtain ⟨r4k, ⟨r4a, r4b, r4c⟩, r4d, r4e, r4f⟩ := r4; obtain ⟨n0, n1, n2⟩ := BlkT.cs I4.out.me; have n2l := I4.out.me.lt)
            | (refine step_appT (by rfl) _ _ (by rfl) 0 (.slice da dn dc) done (by rfl) (I4.out.row.alloc _) ⟨r4k, ⟨r4a, r4b, r4c⟩, ⟨r4d, r4e, r4f⟩⟩ w4.heap.size (by rfl) (Blk.new _ _ _) (by have := HL.out; omega) (Nat.zero_le _) (w4.heap.size + 1) (by simp) ?_; intro g5 cap5 w5 ow5 gr5 hg5; have I5 := I4.out.go (bel_alloc _ (.cells (encT ⟨r4k, ⟨r4a, r4b, r4c⟩, ⟨r4d, r4e, r4f⟩⟩).toArray 25)); have J5 : Hid _ := I5.step HSj.out (H4.out.bel (bel_alloc _ _)) (Nat.lt_succ_of_lt HI.out.me.lt) (fun g hg => Nat.lt_succ_of_lt (HI.out.row.lt hg).2) ow5 gr5 (by simpa using hg5); obtain ⟨p0, p1, p2⟩ := BlkT.cs (I5.me_grown gr5); have pf := (I5.me_grown gr5).frozen; clear ow5 gr5 hg5 I5))
        all_goals
          have J6 := J5.out
          generalize hW6 : World.setCell _ _ _ = W6 at J6 ⊢
          have H6 : Hid (CI w ⟨k, ⟨sa, S, sc⟩, ⟨some ⟨rb, ro, none⟩, N, bc⟩⟩ k set subs b3 (j + 1) sl ⟨some ⟨g5, 0, none⟩, done.length + 1, cap5⟩ (done ++ [⟨r4k, ⟨r4a, r4b, r4c⟩, ⟨r4d, r4e, r4f⟩⟩]) W6) := J6
          clear J6 hW6 J5 H4 I4 HI n0 n1 n2 n2l p0 p1 p2 pf m0 m1 m2 q0' q1' q2' kE
          go_wp2_with fail
          go_roundw
          case rel => exact ⟨j + 1, _, _, by omega, by go_num, H6⟩
          case measure => simp [intOf]; omega

end Go.Proofs.YtjjlkjfhhpogaaaDoor

namespace Go.Proofs.YtjjlkjfhhpogaaaDoor
open Go.RowKit

/-- A literal's row. -/
theorem OwnX.lit {α : Type} {f : α → List Value} {n : Nat} {t : TypeId} {base : Nat} {w : World} {b : Nat} {l : List α} (hf : ∀ x, (f x).length = n) {cs : Array Value} (hb : Blk w b cs t) (hcs : cs.toList = cellsOf f l) (h : base ≤ b) (hl : l.length ≤ 1000) : OwnX f n t base w (.slice (some ⟨b, 0, none⟩) l.length l.length) l := by
  have hs : cs.size = l.length * n := by rw [← Array.length_toList, hcs, cellsOf_length hf]
  exact ⟨cellsOf_length hf l, .inr ⟨b, l.length, cs, rfl, h, hb, Nat.le_refl _, by unfold maxLen; omega, hs, by rw [hcs, ← cellsOf_length hf l, List.take_length]⟩⟩

theorem HO_one {P : Nat → Prop} {w : World} {s : Int × Int} {b : Nat} {cs : Array Value} (hb : Blk w b cs 78) (hcs : cs.toList = cellsOf encS [s]) (hP : P b) : HO P w (.mk 1 [s] []) ⟨1, ⟨some ⟨b, 0, none⟩, 1, 1⟩, ⟨none, 0, 0⟩⟩ :=
  (HO_mk _ _ _ _ _ _).2 ⟨rfl, ⟨OwnX.lit (l := [s]) encS_len hb hcs (Nat.zero_le _) (by simp), fun g hg => by injection hg with hg; have hg : b = g := hg; subst hg; exact hP⟩, [], ⟨OwnX.nil _ _ _ _ _, fun g hg => by cases hg⟩, (HOs_nil _ _ _).2 rfl⟩
theorem HO_none {P : Nat → Prop} {w : World} (k : Int) : HO P w (.mk k [] []) ⟨k, ⟨none, 0, 0⟩, ⟨none, 0, 0⟩⟩ :=
  (HO_mk _ _ _ _ _ _).2 ⟨rfl, ⟨OwnX.nil _ _ _ _ _, fun g hg => by cases hg⟩, [], ⟨OwnX.nil _ _ _ _ _, fun g hg => by cases hg⟩, (HOs_nil _ _ _).2 rfl⟩
theorem HO_sub1 {P : Nat → Prop} {w : World} {k : Int} {t : Tree} {r : PC} {b : Nat} {cs : Array Value} (hr : HO P w t r) (hb : Blk w b cs 25) (hcs : cs.toList = cellsOf encT [r]) (hP : P b) : HO P w (.mk k [] [t]) ⟨k, ⟨none, 0, 0⟩, ⟨some ⟨b, 0, none⟩, 1, 1⟩⟩ :=
  (HO_mk _ _ _ _ _ _).2 ⟨rfl, ⟨OwnX.nil _ _ _ _ _, fun g hg => by cases hg⟩, [r], ⟨OwnX.lit (l := [r]) encT_len hb hcs (Nat.zero_le _) (by simp), fun g hg => by injection hg with hg; have hg : b = g := hg; subst hg; exact hP⟩, (HOs_cons _ _ _ _ _).2 ⟨r, [], rfl, hr, (HOs_nil _ _ _).2 rfl⟩⟩
theorem HO_sub2 {P : Nat → Prop} {w : World} {k : Int} {t t' : Tree} {r r' : PC} {b : Nat} {cs : Array Value} (hr : HO P w t r) (hr' : HO P w t' r') (hb : Blk w b cs 25) (hcs : cs.toList = cellsOf encT [r, r']) (hP : P b) : HO P w (.mk k [] [t, t']) ⟨k, ⟨none, 0, 0⟩, ⟨some ⟨b, 0, none⟩, 2, 2⟩⟩ :=
  (HO_mk _ _ _ _ _ _).2 ⟨rfl, ⟨OwnX.nil _ _ _ _ _, fun g hg => by cases hg⟩, [r, r'], ⟨OwnX.lit (l := [r, r']) encT_len hb hcs (Nat.zero_le _) (by simp), fun g hg => by injection hg with hg; have hg : b = g := hg; subst hg; exact hP⟩, (HOs_cons _ _ _ _ _).2 ⟨r, [r'], rfl, hr, (HOs_cons _ _ _ _ _).2 ⟨r', [], rfl, hr', (HOs_nil _ _ _).2 rfl⟩⟩⟩

set_option maxRecDepth 100000 in
set_option maxHeartbeats 1000000 in
theorem any_any (w : World) : Calls Tryd.prog 29 #[] w fun e w' => PostC anyT w e w' := by
  go_enter Tryd.func29, Tryd.ntmps29
  go_wp2_with fail
  refine bodyPost_ret (v := PC.v ⟨1, ⟨some ⟨w.heap.size + 1, 0, none⟩, 1, 1⟩, ⟨none, 0, 0⟩⟩) ?_ rfl ⟨_, rfl, HO_one (Blk.new' _ _ _ _ (by simp)) rfl ⟨by omega, by simp⟩, ((Below.refl _ _).alloc (Nat.le_refl _) _).alloc (by simp) _⟩
  simp [results, Tryd.results29]
  exact run_ptv (x := ⟨1, ⟨some ⟨w.heap.size + 1, 0, none⟩, 1, 1⟩, ⟨none, 0, 0⟩⟩) ((Blk.new _ _ _).alloc _)
theorem CI.start0 {w W2 : World} {x : PC} {subs : List Tree} (hB : Below w.heap.size w W2) (hX : Blk W2 w.heap.size (encT x).toArray 25) (hR : Blk W2 (w.heap.size + 1) (encT ⟨0, ⟨none, 0, 0⟩, ⟨none, 0, 0⟩⟩).toArray 25) (hz : w.heap.size + 2 ≤ W2.heap.size) :
    CI w x 2 [] subs W2.heap.size 0 ⟨none, 0, 0⟩ ⟨none, 0, 0⟩ [] (W2.alloc (.cells #[.int .i64 2, .slice none 0 0, .slice none 0 0] 25)) :=
  CI.start1 (B := W2.heap.size) (ao := none) (cap := 0) (set := []) hB hX hR (OwnX.nil _ _ _ _ _) hz (Nat.le_refl _)

theorem CI.start0' {w W2 : World} {x : PC} {subs : List Tree} {b3 : Nat} (hB : Below w.heap.size w W2) (hX : Blk W2 w.heap.size (encT x).toArray 25) (hR : Blk W2 (w.heap.size + 1) (encT ⟨0, ⟨none, 0, 0⟩, ⟨none, 0, 0⟩⟩).toArray 25) (hz : w.heap.size + 2 ≤ W2.heap.size) (hb : b3 = W2.heap.size) :
    CI w x 2 [] subs b3 0 ⟨none, 0, 0⟩ ⟨none, 0, 0⟩ [] (W2.alloc (.cells #[.int .i64 2, .slice none 0 0, .slice none 0 0] 25)) := by
  subst hb
  exact CI.start0 hB hX hR hz

theorem rowL_len (t : Tree) (a m : Nat) (e : Bool) : (rowL t a m e).length = a + m + (if e then 1 else 0) := by
  unfold rowL
  cases e <;> simp <;> omega
theorem rowL_at1 {t : Tree} {a m : Nat} {e : Bool} {j : Nat} (h : j < a) : (rowL t a m e)[j]? = some t := by
  unfold rowL
  rw [List.getElem?_append_left (by simpa using h), List.getElem?_replicate, if_pos h]
theorem rowL_at2 {t : Tree} {a m : Nat} {e : Bool} {j : Nat} (h : j < m) : (rowL t a m e)[a + j]? = some (mayT t) := by
  unfold rowL
  rw [List.getElem?_append_right (by simp), List.length_replicate, Nat.add_sub_cancel_left, List.getElem?_append_left (by simpa using h), List.getElem?_replicate, if_pos h]
theorem rowL_at3 {t : Tree} {a m : Nat} : (rowL t a m true)[a + m]? = some (starT t) := by
  unfold rowL
  rw [List.getElem?_append_right (by simp), List.length_replicate, Nat.add_sub_cancel_left, List.getElem?_append_right (by simp), List.length_replicate, Nat.sub_self]
  rfl

end Go.Proofs.YtjjlkjfhhpogaaaDoor

namespace Go.Proofs.YtjjlkjfhhpogaaaDoor

theorem sizeL_rep (t : Tree) : ∀ a : Nat, sizeL (List.replicate a t) = a * size t
  | 0 => by rw [List.replicate_zero, sizeL_nil, Nat.zero_mul]
  | a + 1 => by rw [List.replicate_succ, sizeL_cons, sizeL_rep t a, Nat.add_mul]; omega
theorem size_mayT (t : Tree) : size (mayT t) = size t + 2 := by
  rw [mayT, size_mk, sizeL_cons, sizeL_cons, sizeL_nil, catT, size_mk, sizeL_nil]
theorem size_starT (t : Tree) : size (starT t) = size t + 1 := by rw [starT, size_mk, sizeL_cons, sizeL_nil]
theorem size_rowT (t : Tree) (a m : Nat) (e : Bool) : size (rowT t a m e) = a * size t + (m * (size t + 2) + (if e then size t + 1 else 0)) + 1 := by
  rw [rowT, size_mk, rowL, sizeL_append, sizeL_append, sizeL_rep, sizeL_rep, size_mayT]
  cases e
  · simp [sizeL_nil]
  · simp [sizeL_cons, sizeL_nil, size_starT]

theorem not_right {t : Tree} (h : 200 < size t) : rightT t = false := by
  unfold rightT
  have : ¬ size t ≤ 200 := by omega
  simp [this]
theorem row_great1 {t : Tree} {a m : Nat} {e : Bool} (h : 200 / size t < a) : rightT (rowT t a m e) = false := by
  have hp := size_pos t
  have h1 : 200 < a * size t := (Nat.div_lt_iff_lt_mul hp).1 h
  exact not_right (by rw [size_rowT]; omega)
theorem row_great2 {t : Tree} {a m : Nat} {e : Bool} (h : 200 / size t < m) : rightT (rowT t a m e) = false := by
  have hp := size_pos t
  have h1 : 200 < m * size t := (Nat.div_lt_iff_lt_mul hp).1 h
  have h2 : m * size t ≤ m * (size t + 2) := Nat.mul_le_mul_left _ (by omega)
  exact not_right (by rw [size_rowT]; omega)
theorem row_great3 {t : Tree} {a m : Nat} {e : Bool} (h : 200 < a) : rightT (rowT t a m e) = false :=
  row_great1 (by have := Nat.div_le_self 200 (size t); omega)
theorem row_great4 {t : Tree} {a m : Nat} {e : Bool} (h : 200 < m) : rightT (rowT t a m e) = false :=
  row_great2 (by have := Nat.div_le_self 200 (size t); omega)

theorem okL_append {a b : List Tree} : okL a → okL b → okL (a ++ b) := by
  intro ha hb
  induction a with
  | nil => exact hb
  | cons t ts ih => exact (okL_cons _ _).2 ⟨((okL_cons _ _).1 ha).1, ih ((okL_cons _ _).1 ha).2⟩
theorem okL_rep {t : Tree} (h : okT t) : ∀ a : Nat, okL (List.replicate a t)
  | 0 => by rw [List.replicate_zero, okL_nil]; trivial
  | a + 1 => by rw [List.replicate_succ]; exact (okL_cons _ _).2 ⟨h, okL_rep h a⟩
theorem okT_cat : okT catT := (okT_mk _ _ _).2 ⟨by simp, by simp, okL_nil.2 trivial⟩
theorem okT_may {t : Tree} (h : okT t) : okT (mayT t) := (okT_mk _ _ _).2 ⟨by simp, by simp, (okL_cons _ _).2 ⟨h, (okL_cons _ _).2 ⟨okT_cat, okL_nil.2 trivial⟩⟩⟩
theorem okT_star {t : Tree} (h : okT t) : okT (starT t) := (okT_mk _ _ _).2 ⟨by simp, by simp, (okL_cons _ _).2 ⟨h, okL_nil.2 trivial⟩⟩
theorem okT_row {t : Tree} (h : okT t) {a m : Nat} (ha : a ≤ 300) (hm : m ≤ 300) (e : Bool) : okT (rowT t a m e) := by
  refine (okT_mk _ _ _).2 ⟨by simp, by rw [rowL_len]; split <;> omega, okL_append (okL_rep h a) (okL_append (okL_rep (okT_may h) m) ?_)⟩
  cases e
  · exact okL_nil.2 trivial
  · exact (okL_cons _ _).2 ⟨okT_star h, okL_nil.2 trivial⟩

theorem timesT_1 {t : Tree} {a b : Int} (h : a < 0) : timesT t a b = (zeroT, 2) := by unfold timesT; rw [if_pos h]
theorem timesT_2 {t : Tree} {a b : Int} (h : ¬ a < 0) (h2 : rightT t = false) : timesT t a b = (zeroT, 4) := by unfold timesT; rw [if_neg h, if_pos h2]
theorem timesT_3 {t : Tree} {a b : Int} (h : ¬ a < 0) (h2 : rightT t = true) (h3 : 0 ≤ b ∧ b < a) : timesT t a b = (zeroT, 2) := by unfold timesT; rw [if_neg h, if_neg (by rw [h2]; decide), if_pos h3]
theorem timesT_4 {t : Tree} {a m : Nat} {b : Int} {e : Bool} (h2 : rightT t = true) (h3 : ¬ (0 ≤ b ∧ b < a)) (hm : (if b < 0 then (0 : Int) else b - a) = m) (he : decide (b < 0) = e) : timesT t a b = if rightT (rowT t a m e) = true then (rowT t a m e, 0) else (zeroT, 6) := by
  unfold timesT
  rw [if_neg (by omega), if_neg (by rw [h2]; decide), if_neg h3, hm, he, Int.toNat_natCast, Int.toNat_natCast]

end Go.Proofs.YtjjlkjfhhpogaaaDoor
