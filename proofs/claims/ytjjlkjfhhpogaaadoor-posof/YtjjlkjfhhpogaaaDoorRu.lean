/-
  What stands between two rounds of Run; the marks that it leaves.
-/
import Derived.Test.YtjjlkjfhhpogaaaDoorRh
namespace Go.Proofs.YtjjlkjfhhpogaaaDoor
open Go.RowKit Go.Shelf
attribute [local go_sem] Oper.semAt_some

/-- The marks that loops over functions leave. -/
def marks (Ds : List Nat) : List Deferred := Ds.map fun D => { target := .collected D, args := #[] }

theorem leave_marks {F : Fence} {n : Nat} {fn : Func} {tmps : Array Value} {R : Ending → World → Prop} {B : Nat} : ∀ (Ds : List Nat) (w W : World), Gr w W → w.heap.size ≤ B → Ds.Nodup → (∀ D ∈ Ds, B ≤ D ∧ W.heap[D]? = some (.deferred (some []))) →
    (∀ W', Gr w W' → (∀ g, g < B → W'.heap[g]? = W.heap[g]?) → LeavesInM F n Tryd.prog fn tmps R [] .returning W') → LeavesInM F n Tryd.prog fn tmps R (marks Ds) .returning W
  | [], w, W, hg, hB, hd, hD, h => h W hg fun _ _ => rfl
  | D :: Ds, w, W, hg, hB, hd, hD, h => by
    obtain ⟨hD1, hD2⟩ := hD D (List.mem_cons_self ..)
    rw [List.nodup_cons] at hd
    refine ⟨by simp, .inl ⟨D, _, rfl, run_takeDeferred hD2, ?_⟩⟩
    refine leave_marks Ds w _ (hg.putObj (by omega) _) hB hd.2 (fun D' h' => ?_) (fun W' g' h' => h W' g' fun g hg => (h' g hg).trans (World.putObj_heap_other (by omega)))
    obtain ⟨h1, h2⟩ := hD D' (List.mem_cons_of_mem _ h')
    exact ⟨h1, (World.putObj_heap_other (fun e : D' = D => hd.1 (e ▸ h'))).trans h2⟩

/-- What stands where between two rounds of Run. -/
structure RSt (w wr : World) (p5 p6 qb : Nat) (cs : Array Value) (N : Nat) (qs : List Pl) (may cur : Pl) : Prop where
  gr : Gr w wr
  box : Blk wr w.heap.size cs 53
  beh : Blk wr p5 #[.slice (some ⟨qb, 0, none⟩) N N] 68
  row : Blk wr qb (lrow qs) 67
  may : BlkL wr p6 may
  cur : BlkL wr (p6 + 1) cur
  h1 : w.heap.size + 1 ≤ qb
  h2 : qb < p5
  h3 : p5 < p6

section
variable {w wr w' : World} {p5 p6 qb : Nat} {cs : Array Value} {N : Nat} {qs : List Pl} {may cur : Pl}
theorem RSt.grow (h : RSt w wr p5 p6 qb cs N qs may cur) (k : Gr wr w') : RSt w w' p5 p6 qb cs N qs may cur := ⟨h.gr.trans k, h.box.gr k, h.beh.gr k, h.row.gr k, h.may.gr k, h.cur.gr k, h.h1, h.h2, h.h3⟩
theorem RSt.putObj (h : RSt w wr p5 p6 qb cs N qs may cur) {j : Nat} (hj : p6 + 2 ≤ j) (q : Obj) : RSt w (wr.putObj j q) p5 p6 qb cs N qs may cur := by
  obtain ⟨a, b, c, d, e, f, h1, h2, h3⟩ := h
  exact ⟨a.putObj (by omega) q, b.putObj (by omega) q, c.putObj (by omega) q, d.putObj (by omega) q, e.putObj (by omega) q, f.putObj (by omega) q, h1, h2, h3⟩
theorem RSt.put6 (h : RSt w wr p5 p6 qb cs N qs may cur) (qa qb' qc qd : BitVec 64) :
    RSt w ((((wr.setCell ⟨p6, 0, none⟩ (.int .u64 (u qa))).setCell ⟨p6, 1, none⟩ (.int .u64 (u qb'))).setCell ⟨p6, 2, none⟩ (.int .u64 (u qc))).setCell ⟨p6, 3, none⟩ (.int .u64 (u qd))) p5 p6 qb cs N qs ⟨qa, qb', qc, qd⟩ cur := by
  obtain ⟨a, b, c, d, e, f, h1, h2, h3⟩ := h
  have hp : w.heap.size ≤ p6 := by omega
  exact ⟨(((a.setCell (p := ⟨p6, 0, none⟩) hp _).setCell (p := ⟨p6, 1, none⟩) hp _).setCell (p := ⟨p6, 2, none⟩) hp _).setCell (p := ⟨p6, 3, none⟩) hp _, Blk.other4 b (by omega) _ _ _ _ _ _ _ _, Blk.other4 c (by omega) _ _ _ _ _ _ _ _, Blk.other4 d (by omega) _ _ _ _ _ _ _ _, BlkL.set4 e qa qb' qc qd, Blk.other4 f (by omega) _ _ _ _ _ _ _ _, h1, h2, h3⟩
theorem RSt.put7 (h : RSt w wr p5 p6 qb cs N qs may cur) (qa qb' qc qd : BitVec 64) :
    RSt w ((((wr.setCell ⟨p6 + 1, 0, none⟩ (.int .u64 (u qa))).setCell ⟨p6 + 1, 1, none⟩ (.int .u64 (u qb'))).setCell ⟨p6 + 1, 2, none⟩ (.int .u64 (u qc))).setCell ⟨p6 + 1, 3, none⟩ (.int .u64 (u qd))) p5 p6 qb cs N qs may ⟨qa, qb', qc, qd⟩ := by
  obtain ⟨a, b, c, d, e, f, h1, h2, h3⟩ := h
  have hp : w.heap.size ≤ p6 + 1 := by omega
  exact ⟨(((a.setCell (p := ⟨p6 + 1, 0, none⟩) hp _).setCell (p := ⟨p6 + 1, 1, none⟩) hp _).setCell (p := ⟨p6 + 1, 2, none⟩) hp _).setCell (p := ⟨p6 + 1, 3, none⟩) hp _, Blk.other4 b (by omega) _ _ _ _ _ _ _ _, Blk.other4 c (by omega) _ _ _ _ _ _ _ _, Blk.other4 d (by omega) _ _ _ _ _ _ _ _, Blk.other4 e (by omega) _ _ _ _ _ _ _ _, BlkL.set4 f qa qb' qc qd, h1, h2, h3⟩
end

/-- The marks' blocks are open, and differ. -/
structure Open_ (B : Nat) (W : World) (Ds : List Nat) : Prop where
  nd : Ds.Nodup
  at_ : ∀ D ∈ Ds, B ≤ D ∧ W.heap[D]? = some (.deferred (some []))
theorem Open_.lt {B : Nat} {W : World} {Ds : List Nat} (h : Open_ B W Ds) {D : Nat} (hD : D ∈ Ds) : D < W.heap.size := (Array.getElem?_eq_some_iff.1 (h.at_ D hD).2).1
theorem Open_.same {B : Nat} {W W' : World} {Ds : List Nat} (h : Open_ B W Ds) (k : ∀ g, B ≤ g → g < W.heap.size → W'.heap[g]? = W.heap[g]?) : Open_ B W' Ds :=
  ⟨h.nd, fun D hD => ⟨(h.at_ D hD).1, (k D (h.at_ D hD).1 (h.lt hD)).trans (h.at_ D hD).2⟩⟩
theorem Open_.grow {B : Nat} {W W' : World} {Ds : List Nat} (h : Open_ B W Ds) (k : Gr W W') : Open_ B W' Ds := h.same fun g _ hg => k.below.block g hg
theorem Open_.put4 {B : Nat} {W : World} {Ds : List Nat} (h : Open_ B W Ds) {p : Nat} (hp : p < B) (c0 c1 c2 c3 : Nat) (v0 v1 v2 v3 : Value) :
    Open_ B ((((W.setCell ⟨p, c0, none⟩ v0).setCell ⟨p, c1, none⟩ v1).setCell ⟨p, c2, none⟩ v2).setCell ⟨p, c3, none⟩ v3) Ds := h.same fun g h1 _ => by
  rw [Below.heap_setCell _ _ _ _ (by show g ≠ p; omega), Below.heap_setCell _ _ _ _ (by show g ≠ p; omega), Below.heap_setCell _ _ _ _ (by show g ≠ p; omega), Below.heap_setCell _ _ _ _ (by show g ≠ p; omega)]
theorem Open_.putObj {B : Nat} {W : World} {Ds : List Nat} (h : Open_ B W Ds) {j : Nat} (hj : ∀ D ∈ Ds, D < j) (q : Obj) : Open_ B (W.putObj j q) Ds :=
  ⟨h.nd, fun D hD => ⟨(h.at_ D hD).1, (World.putObj_heap_other (by have := hj D hD; omega)).trans (h.at_ D hD).2⟩⟩

/-- Where the first k numbers can end, and what can come next. -/
def CurP (t : Tree) (l : List Int) (k q : Nat) : Prop := 0 < k ∧ Reach (Fol t 0) (Fir t 0) (Sat (setsT t) l) k q
def MayP (t : Tree) (l : List Int) (k q : Nat) : Prop := (k = 0 ∧ Fir t 0 q) ∨ ∃ p, CurP t l k p ∧ Fol t 0 p q
theorem cur_next (t : Tree) (l : List Int) (k q : Nat) : CurP t l (k + 1) q ↔ MayP t l k q ∧ Sat (setsT t) l q k := by
  unfold CurP MayP
  by_cases h : k = 0
  · subst h
    rw [Reach.one]
    constructor
    · rintro ⟨_, h1, h2⟩; exact ⟨Or.inl ⟨rfl, h1⟩, h2⟩
    · rintro ⟨⟨_, h1⟩ | ⟨p, ⟨h0, _⟩, _⟩, h2⟩
      · exact ⟨by omega, h1, h2⟩
      · omega
  · rw [Reach.succ k q (by omega)]
    constructor
    · rintro ⟨_, ⟨p, h1, h2⟩, h3⟩; exact ⟨Or.inr ⟨p, ⟨by omega, h1⟩, h2⟩, h3⟩
    · rintro ⟨⟨h0, _⟩ | ⟨p, ⟨_, h1⟩, h2⟩, h3⟩
      · omega
      · exact ⟨by omega, ⟨p, h1, h2⟩, h3⟩
theorem MayP.lt {t : Tree} {l : List Int} {k q : Nat} (h : MayP t l k q) : q < ones t := by
  rcases h with ⟨_, h⟩ | ⟨p, _, h⟩
  · have := (Fir.in_ h).2; omega
  · have := (Fol.in_ h).2.2; omega
theorem IsPos.sat {t : Tree} {sets : List (List (Int × Int))} {rows : List (List Nat)} {Lf Ll : List Nat} (h : IsPos t sets rows Lf Ll) {l : List Int} {k : Nat} {x : Int} (hx : l[k]? = some x) (q : Nat) :
    Sat (setsT t) l q k ↔ ∃ m, sets[q]? = some m ∧ inSet m x = true := by
  constructor
  · rintro ⟨s, x', h1, h2, h3⟩
    rw [hx] at h2
    injection h2 with h2
    subst h2
    obtain ⟨m, h4, h5⟩ := h.sts.2 q s h1
    exact ⟨m, h4, by rw [h5.2.1]; exact h3⟩
  · rintro ⟨m, h1, h2⟩
    obtain ⟨s, hs⟩ : ∃ s, (setsT t)[q]? = some s := ⟨_, List.getElem?_eq_getElem (by have := (List.getElem?_eq_some_iff.1 h1).1; have := h.sts.1; omega)⟩
    obtain ⟨m', h4, h5⟩ := h.sts.2 q s hs
    rw [h1] at h4
    injection h4 with h4
    subst h4
    exact ⟨s, x, hs, hx, by rw [← h5.2.1]; exact h2⟩

/-- What Run comes to. -/
def PostRun (t : Tree) (l : List Int) (w : World) (e : Ending) (w' : World) : Prop := (∃ r, e = .returned (.bool r) ∧ (r = true ↔ takes t l)) ∧ Gr w w'

end Go.Proofs.YtjjlkjfhhpogaaaDoor
