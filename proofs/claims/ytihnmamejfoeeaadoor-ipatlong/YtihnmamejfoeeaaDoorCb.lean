/-
  Patterns in new memory: what copies carry between their rounds.
-/
import Derived.Test.YtihnmamejfoeeaaDoorW1
import Derived.Deep.RegionLaw
import Derived.Deep.WholeRow
import Derived.Deep.RegionHeld3
import Derived.Deep.DeepCutAuto
namespace Go.Proofs.YtihnmamejfoeeaaDoor
open Go.RowKit

/-- One element behind a row of the call's own, in a region that draws. -/
theorem step_appX1 {α : Type} {f : α → List Value} {n : Nat} {t T : TypeId} {z : Value} {bytes : Nat}
    (hinfo : (Tryd.prog.info? t).map (fun i => (i.zero, i.size, i.bytes)) = some (some z, n, bytes)) (hT : Tryd.prog.underlying T = some (.slice t)) (hf : ∀ x, (f x).length = n) (h1c : ∀ x, ∀ u ∈ f x, u.oneCell' = true) (hzs : z.cells.size = n) (hn : 0 < n) (hby : bytes ≤ 100)
    {w : World} {ops : Array Oper} {o : Oper} {a : Act} {K : Act → World → Prop} {Q : Exit → Act → World → Prop} {E : Prop} (hgd : o.guard = none) (s x : Operand)
    (ho : o.op = .call { callee := .builtin .append, args := #[s, x], argTypes := #[T, T] })
    (base : Nat) (v : Value) (l : List α) (hs : a.eval s = v) (hown : OwnX f n t base w v l) (y : α)
    (blk : Nat) (hx : a.eval x = .slice (some ⟨blk, 0, none⟩) 1 1) (cs : Array Value) (hb : Blk w blk cs t) (hcs : cs.toList = f y)
    (hl : l.length ≤ 1000000) (hbase : base ≤ w.heap.size) (H : Nat) (hH : w.heap.size = H)
    (h : ∀ g cap w', OwnX f n t base w' (.slice (some ⟨g, 0, none⟩) (l.length + 1) cap) (l ++ [y]) → w.grownBy w' v.ownBlock → (v.ownBlock = some g ∨ g = H) → K (a.put o.dst (.slice (some ⟨g, 0, none⟩) (l.length + 1) cap)) w') : if Region.wanted o (yielded ops a.tmps) = true then Oper.wp Tryd.prog o a w K Q else E := by
  obtain ⟨i, hi, hz, hz1, hz2⟩ := info_parts hinfo
  refine step_append_lies w hgd s x T ho base t i _ n bytes hT hi hz hz1 hz2 hzs hn v l.length (cellsOf f l) hs hown ⟨blk, 0, none⟩ 1 1 (f y) hx (by rw [hf]; omega) ?_ (h1c y) (by decide) (by unfold maxLen; omega) ?_ hbase H hH ?_
  · intro j u hu
    have hadd : (⟨blk, 0, none⟩ : Addr).add j = ⟨blk, j, none⟩ := by unfold Addr.add; split <;> simp_all
    rw [hadd, hb.c, ← Array.getElem?_toList, hcs]
    exact hu
  · have : (l.length + 1) * bytes ≤ 1000001 * 100 := Nat.mul_le_mul (by omega) hby
    omega
  · intro g cap w' how hgr hg hlt
    refine h g cap w' ?_ hgr hg
    show w'.ownsRow base t n _ (l ++ [y]).length (cellsOf f (l ++ [y]))
    rw [cellsOf_append, List.length_append]
    have : cellsOf f [y] = f y := by simp [cellsOf]
    rw [this]
    exact how

theorem step_appT {w : World} {ops : Array Oper} {o : Oper} {a : Act} {K : Act → World → Prop} {Q : Exit → Act → World → Prop} {E : Prop} (hgd : o.guard = none) (s x : Operand)
    (ho : o.op = .call { callee := .builtin .append, args := #[s, x], argTypes := #[23, 23] })
    (base : Nat) (v : Value) (l : List PC) (hs : a.eval s = v) (hown : OwnT base w v l) (y : PC)
    (blk : Nat) (hx : a.eval x = .slice (some ⟨blk, 0, none⟩) 1 1) (hb : Blk w blk (encT y).toArray 25)
    (hl : l.length ≤ 1000000) (hbase : base ≤ w.heap.size) (H : Nat) (hH : w.heap.size = H)
    (h : ∀ g cap w', OwnT base w' (.slice (some ⟨g, 0, none⟩) (l.length + 1) cap) (l ++ [y]) → w.grownBy w' v.ownBlock → (v.ownBlock = some g ∨ g = H) → K (a.put o.dst (.slice (some ⟨g, 0, none⟩) (l.length + 1) cap)) w') : if Region.wanted o (yielded ops a.tmps) = true then Oper.wp Tryd.prog o a w K Q else E :=
  step_appX1 info25 Tryd.underlying23 encT_len oneT rfl (by decide) (by decide) hgd s x ho base v l hs hown y blk hx _ hb rfl hl hbase H hH h

theorem step_appSall {w : World} {ops : Array Oper} {o : Oper} {a : Act} {K : Act → World → Prop} {Q : Exit → Act → World → Prop} {E : Prop} (hgd : o.guard = none) (s x : Operand)
    (ho : o.op = .call { callee := .builtin .append, args := #[s, x], argTypes := #[22, 22] })
    (base : Nat) (v : Value) (hs : a.eval s = v) (hown : OwnS base w v []) (u : Value) (m : List (Int × Int)) (hx : a.eval x = u) (hu : RowS w u m)
    (hl : m.length ≤ 17592186043904) (hbase : base ≤ w.heap.size)
    (h : ∀ ao cap w', OwnS base w' (.slice ao m.length cap) m → w.grownBy w' v.ownBlock → K (a.put o.dst (.slice ao m.length cap)) w') : if Region.wanted o (yielded ops a.tmps) = true then Oper.wp Tryd.prog o a w K Q else E :=
  step_appXall info39 Tryd.underlying22 encS_len oneS rfl (by decide) hgd s x ho base v [] hs hown u m hx hu (by simp; omega) (by simp; omega) hbase (fun v' w' how gr => by
    rw [List.nil_append] at how
    obtain ⟨ao, cap, rfl⟩ := how.form
    exact h ao cap w' how gr)

theorem OwnX.neBlk {α : Type} {f : α → List Value} {n : Nat} {t t' : TypeId} {base : Nat} {w : World} {v : Value} {l : List α} (h : OwnX f n t base w v l) {b : Nat} {cs : Array Value} (hb : Blk w b cs t') (ht : t ≠ t') : v.ownBlock ≠ some b := by
  intro e
  rcases h.2 with ⟨rfl, _⟩ | ⟨g, cap, cur, rfl, _, hg, _⟩
  · cases e
  · injection e with e
    subst e
    unfold Blk at hb
    rw [hg] at hb
    injection hb with hb
    injection hb with _ hb
    exact ht hb

theorem Gr.grown {a w w' : World} {o : Option Nat} (h : Gr a w) (g : w.grownBy w' o) (ho : ∀ k, o = some k → a.heap.size ≤ k) (hd : w.drawn ≤ w'.drawn) : Gr a w' :=
  Gr.of (h.below.grown g h.below.size ho) (Nat.le_trans h.drawn hd)

/-- A copy, between its rounds: x the pattern, its Set copied, j of its Subs. -/
structure CI (w : World) (x : PC) (k : Int) (set : List (Int × Int)) (subs : List Tree) (b3 j : Nat) (s bs : Sl) (rows : List PC) (W : World) : Prop where
  bel : Below w.heap.size w W
  box : Blk W w.heap.size (encT x).toArray 25
  res : Blk W (w.heap.size + 1) (encT ⟨0, ⟨none, 0, 0⟩, ⟨none, 0, 0⟩⟩).toArray 25
  me : Blk W b3 (encT ⟨k, s, bs⟩).toArray 25
  set : OwnS 0 W s.v set
  setP : ∀ g, s.v.ownBlock = some g → w.heap.size + 2 ≤ g
  row : OwnT 0 W bs.v rows
  rowP : ∀ g, bs.v.ownBlock = some g → w.heap.size + 2 ≤ g ∧ g ≠ b3
  hos : HOs (fun g => w.heap.size + 2 ≤ g ∧ g < W.heap.size ∧ g ≠ b3 ∧ bs.v.ownBlock ≠ some g) W (subs.take j) rows
  hb3 : w.heap.size + 2 ≤ b3
  sz : w.heap.size + 3 ≤ W.heap.size

/-- What a copy comes to: the same pattern in new memory. -/
def PostC (t : Tree) (w : World) (e : Ending) (w' : World) : Prop :=
  ∃ r : PC, e = .returned r.v ∧ HO (fun g => w.heap.size ≤ g ∧ g < w'.heap.size) w' t r ∧ Below w.heap.size w w'


theorem OwnX.neOwn {α β : Type} {f : α → List Value} {f' : β → List Value} {n n' : Nat} {t t' : TypeId} {base base' : Nat} {w : World} {v v' : Value} {l : List α} {l' : List β} (h : OwnX f n t base w v l) (h' : OwnX f' n' t' base' w v' l') (ht : t ≠ t') {g : Nat} (hg : v.ownBlock = some g) : v'.ownBlock ≠ some g := by
  rcases h.2 with ⟨rfl, _⟩ | ⟨g1, cap, cur, rfl, _, h1, _⟩
  · cases hg
  · injection hg with e
    subst e
    exact h'.neBlk (b := g1) (cs := cur) h1 (fun e => ht e.symm)

theorem OwnX.grown {α : Type} {f : α → List Value} {n : Nat} {t : TypeId} {base : Nat} {w w' : World} {v : Value} {l : List α} (h : OwnX f n t base w v l) {o : Option Nat} (hB : w.grownBy w' o) (ho : ∀ g, v.ownBlock = some g → o ≠ some g) : OwnX f n t base w' v l :=
  h.same fun g hg => hB.block g (h.lt hg).2 (fun e => ho g hg e.symm)

theorem CI.go {w : World} {x : PC} {k : Int} {set : List (Int × Int)} {subs : List Tree} {b3 j : Nat} {s bs : Sl} {rows : List PC} {W W' : World} (h : CI w x k set subs b3 j s bs rows W) (g : Below W.heap.size W W') : CI w x k set subs b3 j s bs rows W' :=
  ⟨h.bel.trans (g.mono h.bel.size), h.box.bel g, h.res.bel g, h.me.bel g, h.set.bel g, h.setP, h.row.bel g, h.rowP, HOs.same (fun _ h1 => ⟨h1.1, Nat.lt_of_lt_of_le h1.2.1 g.size, h1.2.2⟩) (fun g1 h1 => g.block g1 h1.2.1) h.hos, h.hb3, Nat.le_trans h.sz g.size⟩

theorem encT_set2 (k : Int) (s bs : Sl) (v : Sl) : (encT ⟨k, s, bs⟩).toArray.setIfInBounds 2 (.slice v.a v.n v.c) = (encT ⟨k, s, v⟩).toArray := rfl

/-- One copy more behind the row. -/
theorem CI.step {w : World} {x : PC} {k : Int} {set : List (Int × Int)} {subs : List Tree} {b3 j : Nat} {s bs : Sl} {rows : List PC} {W W' : World} (h : CI w x k set subs b3 j s bs rows W) {t : Tree} (ht : subs[j]? = some t) {r : PC} {lo : Nat} (hr : HO (fun g => lo ≤ g ∧ g < W.heap.size) W t r) (hlo3 : b3 < lo) (hlo4 : ∀ g, bs.v.ownBlock = some g → g < lo)
    {g n cap : Nat} (how : OwnT 0 W' (.slice (some ⟨g, 0, none⟩) n cap) (rows ++ [r])) (gr : W.grownBy W' bs.v.ownBlock) (hg : bs.v.ownBlock = some g ∨ g = W.heap.size) :
    CI w x k set subs b3 (j + 1) s ⟨some ⟨g, 0, none⟩, n, cap⟩ (rows ++ [r]) (W'.setCell ⟨b3, 2, none⟩ (.slice (some ⟨g, 0, none⟩) n cap)) := by
  have hb3 := h.hb3
  have m3 := h.me.lt
  have hk : ∀ q, bs.v.ownBlock = some q → w.heap.size ≤ q := fun q hq => by have := (h.rowP q hq).1; omega
  have hgb : w.heap.size + 2 ≤ g ∧ g ≠ b3 := by
    rcases hg with hg | hg
    · exact h.rowP g hg
    · omega
  have hset : ∀ (g1 : Nat), s.v.ownBlock = some g1 → bs.v.ownBlock ≠ some g1 := fun g1 hg1 => h.set.neOwn h.row (by decide) hg1
  have hsb : s.v.ownBlock ≠ some b3 := h.set.neBlk h.me (by decide)
  have hnew : ∀ q, q < W.heap.size → bs.v.ownBlock ≠ some q → (Sl.v ⟨some ⟨g, 0, none⟩, n, cap⟩).ownBlock ≠ some q := fun q h1 h2 e => by
    injection e with e
    have e : g = q := e
    subst e
    rcases hg with hg | hg
    · exact h2 hg
    · omega
  have hheap : ∀ q, q < W.heap.size → q ≠ b3 → bs.v.ownBlock ≠ some q → (W'.setCell ⟨b3, 2, none⟩ (.slice (some ⟨g, 0, none⟩) n cap)).heap[q]? = W.heap[q]? := fun q h1 h2 h3 => (Below.heap_setCell _ _ _ _ h2).trans (gr.block q h1 (fun e => h3 e.symm))
  have hsz : (W'.setCell ⟨b3, 2, none⟩ (.slice (some ⟨g, 0, none⟩) n cap)).heap.size = W'.heap.size := by simp
  refine ⟨(h.bel.grown gr h.bel.size hk).setCell (by show w.heap.size ≤ b3; omega) _, (h.box.grown gr (fun e => by have := (h.rowP _ e).1; omega)).other (by show w.heap.size ≠ b3; omega) _, (h.res.grown gr (fun e => by have := (h.rowP _ e).1; omega)).other (by show w.heap.size + 1 ≠ b3; omega) _, ?_, (h.set.grown gr hset).setOther hsb _, h.setP, how.setOther (by intro e; injection e with e; exact hgb.2 e) _, ?_, ?_, h.hb3, ?_⟩
  · have h1 := (h.me.grown gr (fun e => (h.rowP _ e).2 rfl)).set 2 (.slice (some ⟨g, 0, none⟩) n cap)
    exact h1
  · intro g1 hg1
    injection hg1 with hg1
    have hg1 : g = g1 := hg1
    subst hg1
    exact hgb
  · rw [take_succ_of ht]
    refine HOs.snoc (HOs.same ?_ ?_ h.hos) (HO.same ?_ ?_ hr)
    · intro q ⟨h1, h2, h3, h4⟩
      exact ⟨h1, by rw [hsz]; exact Nat.lt_of_lt_of_le h2 gr.size, h3, hnew q h2 h4⟩
    · intro q ⟨h1, h2, h3, h4⟩
      exact hheap q h2 h3 h4
    · intro q ⟨h1, h2⟩
      exact ⟨by omega, by rw [hsz]; exact Nat.lt_of_lt_of_le h2 gr.size, by omega, hnew q h2 (fun e => by have := hlo4 q e; omega)⟩
    · intro q ⟨h1, h2⟩
      exact hheap q h2 (by omega) (fun e => by have := hlo4 q e; omega)
  · rw [hsz]; exact Nat.le_trans h.sz gr.size

/-- The copy, returned. -/
theorem CI.fin {w : World} {x : PC} {k : Int} {set : List (Int × Int)} {subs : List Tree} {b3 : Nat} {s bs : Sl} {rows : List PC} {W : World} (h : CI w x k set subs b3 subs.length s bs rows W) (v0 v1 v2 : Value) :
    PostC (.mk k set subs) w (.returned (PC.v ⟨k, s, bs⟩)) (((W.setCell ⟨w.heap.size + 1, 0, none⟩ v0).setCell ⟨w.heap.size + 1, 1, none⟩ v1).setCell ⟨w.heap.size + 1, 2, none⟩ v2) := by
  have hheap : ∀ q, q ≠ w.heap.size + 1 → (((W.setCell ⟨w.heap.size + 1, 0, none⟩ v0).setCell ⟨w.heap.size + 1, 1, none⟩ v1).setCell ⟨w.heap.size + 1, 2, none⟩ v2).heap[q]? = W.heap[q]? := fun q hq => by
    rw [Below.heap_setCell _ _ _ _ hq, Below.heap_setCell _ _ _ _ hq, Below.heap_setCell _ _ _ _ hq]
  have hsz : (((W.setCell ⟨w.heap.size + 1, 0, none⟩ v0).setCell ⟨w.heap.size + 1, 1, none⟩ v1).setCell ⟨w.heap.size + 1, 2, none⟩ v2).heap.size = W.heap.size := by simp
  have hb : w.heap.size ≤ w.heap.size + 1 := by omega
  refine ⟨⟨k, s, bs⟩, rfl, (HO_mk _ _ _ _ _ _).2 ⟨rfl, ⟨h.set.same fun g hg => hheap g (by have := h.setP g hg; omega), fun g hg => ⟨by have := h.setP g hg; omega, by rw [hsz]; exact (h.set.lt hg).2⟩⟩, rows, ⟨h.row.same fun g hg => hheap g (by have := (h.rowP g hg).1; omega), fun g hg => ⟨by have := (h.rowP g hg).1; omega, by rw [hsz]; exact (h.row.lt hg).2⟩⟩, ?_⟩, ((h.bel.setCell hb _).setCell hb _).setCell hb _⟩
  have h1 := h.hos
  rw [List.take_length] at h1
  exact HOs.same (fun q ⟨h1, h2, _, _⟩ => ⟨by omega, by rw [hsz]; exact h2⟩) (fun q ⟨h1, _⟩ => hheap q (by omega)) h1

theorem CI.start1 {w : World} {x : PC} {k : Int} {set : List (Int × Int)} {subs : List Tree} {B cap : Nat} {ao : Option Addr} {wa : World} (hB : Below w.heap.size w wa) (hX : Blk wa w.heap.size (encT x).toArray 25) (hR : Blk wa (w.heap.size + 1) (encT ⟨0, ⟨none, 0, 0⟩, ⟨none, 0, 0⟩⟩).toArray 25) (hO : OwnS B wa (.slice ao set.length cap) set) (hb : w.heap.size + 2 ≤ B) (hz : B ≤ wa.heap.size) :
    CI w x k set subs wa.heap.size 0 ⟨ao, set.length, cap⟩ ⟨none, 0, 0⟩ [] (wa.alloc (.cells #[.int .i64 k, .slice ao set.length cap, .slice none 0 0] 25)) :=
  ⟨hB.alloc hB.size _, hX.alloc _, hR.alloc _, Blk.new _ _ _, (hO.lower (Nat.zero_le _)).alloc _, fun g hg => Nat.le_trans hb (hO.lt hg).1, OwnX.nil _ _ _ _ _, (fun g hg => by cases hg), (HOs_nil _ _ _).2 rfl, by omega, by simp; omega⟩

theorem CI.start2 {w : World} {x y : PC} {k : Int} {set : List (Int × Int)} {subs : List Tree} {B cap b3 : Nat} {ao : Option Addr} {wa : World} (hB : Below w.heap.size w wa) (hX : Blk wa w.heap.size (encT x).toArray 25) (hR : Blk wa (w.heap.size + 1) (encT ⟨0, ⟨none, 0, 0⟩, ⟨none, 0, 0⟩⟩).toArray 25) (hM : Blk wa b3 (encT y).toArray 25) (hO : OwnS B wa (.slice ao set.length cap) set) (hb : w.heap.size + 2 ≤ B) (hb3 : w.heap.size + 2 ≤ b3) :
    CI w x k set subs b3 0 ⟨ao, set.length, cap⟩ ⟨none, 0, 0⟩ [] (((wa.setCell ⟨b3, 0, none⟩ (.int .i64 k)).setCell ⟨b3, 1, none⟩ (.slice ao set.length cap)).setCell ⟨b3, 2, none⟩ (.slice none 0 0)) := by
  have hne : (Value.slice ao set.length cap).ownBlock ≠ some b3 := hO.neBlk hM (by decide)
  have hk : w.heap.size ≤ b3 := by omega
  have h3 := hM.lt
  refine ⟨((hB.setCell hk _).setCell hk _).setCell hk _, ((hX.other (by show w.heap.size ≠ b3; omega) _).other (by show w.heap.size ≠ b3; omega) _).other (by show w.heap.size ≠ b3; omega) _, ((hR.other (by show w.heap.size + 1 ≠ b3; omega) _).other (by show w.heap.size + 1 ≠ b3; omega) _).other (by show w.heap.size + 1 ≠ b3; omega) _, ?_, (((hO.lower (Nat.zero_le _)).setOther hne _).setOther hne _).setOther hne _, fun g hg => Nat.le_trans hb (hO.lt hg).1, OwnX.nil _ _ _ _ _, (fun g hg => by cases hg), (HOs_nil _ _ _).2 rfl, hb3, by simp; omega⟩
  exact ((hM.set 0 (.int .i64 k)).set 1 (.slice ao set.length cap)).set 2 (.slice none 0 0)

theorem CI.len {w : World} {x : PC} {k : Int} {set : List (Int × Int)} {subs : List Tree} {b3 j : Nat} {s bs : Sl} {rows : List PC} {W : World} (h : CI w x k set subs b3 j s bs rows W) : rows.length ≤ j := by
  have := h.hos.len
  simp at this
  omega
theorem CI.me_grown {w : World} {x : PC} {k : Int} {set : List (Int × Int)} {subs : List Tree} {b3 j : Nat} {s bs : Sl} {rows : List PC} {W W' : World} (h : CI w x k set subs b3 j s bs rows W) (gr : W.grownBy W' bs.v.ownBlock) : Blk W' b3 (encT ⟨k, s, bs⟩).toArray 25 := h.me.grown gr (fun e => (h.rowP _ e).2 rfl)
theorem run_ptv {w : World} {b : Nat} {x : PC} (h : Blk w b (encT x).toArray 25) : (loadVar 25 ⟨b, 0, none⟩).run Tryd.prog w = .ok (PC.v x) w := run_loadVar_row w b 25 25 (encT x).toArray (0, 0) _ h Tryd.underlying25 rfl (by kernel_rfl)
theorem blk_put3 {w : World} {b : Nat} {x : PC} (h : Blk w b (encT x).toArray 25) (y : PC) : Blk (((w.setCell ⟨b, 0, none⟩ (.int .i64 y.k)).setCell ⟨b, 1, none⟩ (.slice y.s.a y.s.n y.s.c)).setCell ⟨b, 2, none⟩ (.slice y.b.a y.b.n y.b.c)) b (encT y).toArray 25 :=
  ((h.set 0 (.int .i64 y.k)).set 1 (.slice y.s.a y.s.n y.s.c)).set 2 (.slice y.b.a y.b.n y.b.c)
theorem HO.imp {P Q : Nat → Prop} {w : World} {t : Tree} {x : PC} (h : HO P w t x) (hPQ : ∀ g, P g → Q g) : HO Q w t x := HO.same hPQ (fun _ _ => rfl) h
theorem HO.bel {lo : Nat} {w w' : World} {t : Tree} {x : PC} (h : HO (fun g => lo ≤ g ∧ g < w.heap.size) w t x) (hB : Below w.heap.size w w') : HO (fun g => lo ≤ g ∧ g < w'.heap.size) w' t x :=
  HO.same (fun _ hg => ⟨hg.1, Nat.lt_of_lt_of_le hg.2 hB.size⟩) (fun g hg => hB.block g hg.2) h
theorem HO.low {lo lo' hi : Nat} {w : World} {t : Tree} {x : PC} (h : HO (fun g => lo ≤ g ∧ g < hi) w t x) (hl : lo' ≤ lo) : HO (fun g => lo' ≤ g ∧ g < hi) w t x := h.imp fun _ hg => ⟨Nat.le_trans hl hg.1, hg.2⟩
theorem bel_alloc (w : World) (o : Obj) : Below w.heap.size w (w.alloc o) := (Below.refl _ _).alloc (Nat.le_refl _) o
theorem OwnX.empty {α : Type} {f : α → List Value} {n : Nat} {t : TypeId} {base : Nat} {w : World} {b : Nat} (hb : Blk w b #[] t) (h : base ≤ b) : OwnX f n t base w (.slice (some ⟨b, 0, none⟩) 0 0) ([] : List α) :=
  ⟨by simp [cellsOf], .inr ⟨b, 0, #[], rfl, h, hb, by simp, by unfold maxLen; simp, by simp, by simp [cellsOf]⟩⟩
theorem own_ne {b g n c : Nat} (h : b ≠ g) : (Value.slice (some ⟨b, 0, none⟩) n c).ownBlock ≠ some g := by
  intro e
  injection e with e
  exact h e
theorem own_le {b n c B : Nat} (h : B ≤ b) : ∀ k, (Value.slice (some ⟨b, 0, none⟩) n c).ownBlock = some k → B ≤ k := by
  intro k e
  injection e with e
  have e : b = k := e
  omega

end Go.Proofs.YtihnmamejfoeeaaDoor
