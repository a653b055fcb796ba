/-
  A row of spans that a call owns, and 'append' of one span to it.
-/
import Derived.Test.YtihnmamejfoeeaaDoorS1W2
import Derived.Deep.AppendLies
namespace Go.Proofs.YtihnmamejfoeeaaDoorS1
open Go.RowKit

/-- The call owns this row of spans. -/
def Own2 (base : Nat) (w : World) (v : Value) (l : List Sp) : Prop := w.ownsRow base 39 2 v l.length (cells2 l)

theorem Own2.nil (base : Nat) (w : World) : Own2 base w (.slice none 0 0) [] := World.ownsRow_nil w base 39 2
theorem Own2.alloc {base : Nat} {w : World} {v : Value} {l : List Sp} (h : Own2 base w v l) (o : Obj) : Own2 base (w.alloc o) v l := World.ownsRow.alloc h o

theorem info39 : (Tryd.prog.info? 39).map (fun i => (i.zero, i.size, i.bytes)) = some (some (.agg #[.int .u32 0, .int .u32 0]), 2, 8) := by kernel_rfl

/-- 'append' of one span to a row of the call's own; what lies in other blocks stays. -/
theorem wp_app2o {w : World} {ops : Array Oper} {rest : List Oper} {o : Oper} {a : Act} {Q : Exit → Act → World → Prop} (hgd : o.guard = none) (s x : Operand)
    (ho : o.op = .call { callee := .builtin .append, args := #[s, x], argTypes := #[22, 22] })
    (base : Nat) (v : Value) (l : List Sp) (hs : a.eval s = v) (hown : Own2 base w v l) (y : Sp)
    (blk : Nat) (hx : a.eval x = .slice (some ⟨blk, 0, none⟩) 1 1) (h0 : w.cell? ⟨blk, 0, none⟩ = some (.int .u32 y.1)) (h1 : w.cell? ⟨blk, 1, none⟩ = some (.int .u32 y.2))
    (hl : l.length ≤ 1000000) (hbase : base ≤ w.heap.size)
    (h : ∀ g cap w', Own2 base w' (.slice (some ⟨g, 0, none⟩) (l.length + 1) cap) (l ++ [y]) → Below base w w' → base ≤ g → g < w'.heap.size → (∀ b o, b < w.heap.size → v.ownBlock ≠ some b → w'.cell? ⟨b, o, none⟩ = w.cell? ⟨b, o, none⟩) → wpList Tryd.prog ops Q rest (a.put o.dst (.slice (some ⟨g, 0, none⟩) (l.length + 1) cap)) w') : wpList Tryd.prog ops Q (o :: rest) a w := by
  obtain ⟨i, hi, hz, hz1, hz2⟩ := info_parts info39
  refine wpList_append_lies w hgd s x 22 ho base 39 i _ 2 8 Tryd.underlying22 hi hz hz1 hz2 rfl (by decide) v l.length (cells2 l) hs hown ⟨blk, 0, none⟩ 1 1 (enc2 y) hx rfl ?_ ?_ (by decide) (by unfold maxLen; omega) (by omega) hbase w.heap.size rfl ?_
  · intro j u hu
    have hadd : (⟨blk, 0, none⟩ : Addr).add j = ⟨blk, j, none⟩ := by unfold Addr.add; split <;> simp_all
    rw [hadd]
    match j with
    | 0 => simp [enc2] at hu; subst hu; exact h0
    | 1 => simp [enc2] at hu; subst hu; exact h1
    | j + 2 => simp [enc2] at hu
  · intro u hu
    simp [enc2] at hu
    rcases hu with rfl | rfl <;> rfl
  · intro g cap w' how hgr hg hlt
    refine h g cap w' ?_ ?_ ?_ hlt ?_
    · show w'.ownsRow base 39 2 _ (l ++ [y]).length (cells2 (l ++ [y]))
      rw [cells2_append, List.length_append]
      exact how
    · exact (Below.refl base w).grown hgr hbase (fun k hk => (hown.lt k hk).1)
    · rcases hg with hg | hg
      · exact (hown.lt g hg).1
      · omega
    · intro b o hb hne
      exact World.cell?_of_block (w := w) (hgr.block b hb (fun e => hne e.symm))

/-- 'append' of one span to a row of the call's own. -/
theorem wp_app2 {w : World} {ops : Array Oper} {rest : List Oper} {o : Oper} {a : Act} {Q : Exit → Act → World → Prop} (hgd : o.guard = none) (s x : Operand)
    (ho : o.op = .call { callee := .builtin .append, args := #[s, x], argTypes := #[22, 22] })
    (base : Nat) (v : Value) (l : List Sp) (hs : a.eval s = v) (hown : Own2 base w v l) (y : Sp)
    (blk : Nat) (hx : a.eval x = .slice (some ⟨blk, 0, none⟩) 1 1) (h0 : w.cell? ⟨blk, 0, none⟩ = some (.int .u32 y.1)) (h1 : w.cell? ⟨blk, 1, none⟩ = some (.int .u32 y.2))
    (hl : l.length ≤ 1000000) (hbase : base ≤ w.heap.size)
    (h : ∀ g cap w', Own2 base w' (.slice (some ⟨g, 0, none⟩) (l.length + 1) cap) (l ++ [y]) → Below base w w' → base ≤ g → g < w'.heap.size → wpList Tryd.prog ops Q rest (a.put o.dst (.slice (some ⟨g, 0, none⟩) (l.length + 1) cap)) w') : wpList Tryd.prog ops Q (o :: rest) a w :=
  wp_app2o hgd s x ho base v l hs hown y blk hx h0 h1 hl hbase fun g cap w' a1 a2 a3 a4 _ => h g cap w' a1 a2 a3 a4

theorem Own2.notAt {base : Nat} {w : World} {v : Value} {l : List Sp} (h : Own2 base w v l) {b : Nat} (hb : w.heap.size ≤ b) : v.ownBlock ≠ some b := by
  intro e
  have := (World.ownsRow.lt h b e).2
  omega

/-- What an owned row that isn't empty is: a slice of a block of its own; its cells can be read and written. -/
theorem Own2.shape {base : Nat} {w : World} {v : Value} {l : List Sp} (h : Own2 base w v l) (hne : l ≠ []) :
    ∃ g cap, v = .slice (some ⟨g, 0, none⟩) l.length cap ∧ base ≤ g ∧ g < w.heap.size ∧ l.length ≤ cap ∧
      (∀ o, w.frozen? ⟨g, o, none⟩ = false) ∧
      ∀ i x, l[i]? = some x → w.cell? ⟨g, i * 2, none⟩ = some (.int .u32 x.1) ∧ w.cell? ⟨g, i * 2 + 1, none⟩ = some (.int .u32 x.2) := by
  have hc := fun g => World.ownsRow.cells h (g := g)
  rcases h.2 with ⟨rfl, h0⟩ | ⟨g, cap, cur, rfl, hb, hg, hn, hm, hs, ht⟩
  · exact absurd (List.length_eq_zero_iff.1 h0) hne
  · refine ⟨g, cap, rfl, hb, (Array.getElem?_eq_some_iff.1 hg).1, hn, fun o => ?_, fun i x hx => ?_⟩
    · simp [World.frozen?, hg]
    · obtain ⟨c1, c2⟩ := cells2_at l i x hx
      have a1 := hc g rfl _ _ c1
      have a2 := hc g rfl _ _ c2
      have hadd : ∀ j, (⟨g, 0, none⟩ : Addr).add j = ⟨g, j, none⟩ := fun j => by unfold Addr.add; split <;> simp_all
      rw [hadd] at a1 a2
      exact ⟨a1, a2⟩

theorem Own2.form {base : Nat} {w : World} {v : Value} {l : List Sp} (h : Own2 base w v l) : ∃ ao cap, v = .slice ao l.length cap := by
  rcases h.2 with ⟨rfl, h0⟩ | ⟨g, cap, cur, rfl, _⟩
  · exact ⟨none, 0, by rw [h0]⟩
  · exact ⟨_, _, rfl⟩

theorem owns_set {w : World} {base : Nat} {e : TypeId} {size g n cap : Nat} {xs : List Value} (h : w.ownsRow base e size (.slice (some ⟨g, 0, none⟩) n cap) n xs) (j : Nat) (u : Value) :
    (w.setCell ⟨g, j, none⟩ u).ownsRow base e size (.slice (some ⟨g, 0, none⟩) n cap) n (xs.set j u) := by
  obtain ⟨hx, hr⟩ := h
  refine ⟨by simpa using hx, .inr ?_⟩
  rcases hr with ⟨hv, _⟩ | ⟨g', cap', cur, hv, hb, hg, hn, hm, hs, ht⟩
  · simp at hv
  · simp at hv
    obtain ⟨rfl, rfl⟩ := hv
    refine ⟨g, cap, cur.setIfInBounds j u, rfl, hb, heap_setCell_same w g j cur e u hg, hn, hm, by simpa using hs, ?_⟩
    rw [Array.toList_setIfInBounds, ← ht]
    rw [List.take_set]

theorem Own2.setHi {base : Nat} {w : World} {g n cap : Nat} {init : List Sp} {t : Sp} (h : Own2 base w (.slice (some ⟨g, 0, none⟩) n cap) (init ++ [t])) (z : Int) :
    Own2 base (w.setCell ⟨g, init.length * 2 + 1, none⟩ (.int .u32 z)) (.slice (some ⟨g, 0, none⟩) n cap) (init ++ [(t.1, z)]) := by
  have hn : n = (init ++ [t]).length := by
    rcases h.2 with ⟨hv, _⟩ | ⟨g', cap', cur, hv, _⟩
    · simp at hv
    · simp at hv; simp; omega
  subst hn
  have := owns_set (n := (init ++ [t]).length) h (init.length * 2 + 1) (.int .u32 z)
  have e : (cells2 (init ++ [t])).set (init.length * 2 + 1) (.int .u32 z) = cells2 (init ++ [(t.1, z)]) := by
    rw [cells2_append, cells2_append, List.set_append_right _ _ (by rw [cells2_length]; omega), cells2_length, show init.length * 2 + 1 - init.length * 2 = 1 from by omega]
    rfl
  rw [e] at this
  simpa [Own2] using this

theorem Own2.drewN {base : Nat} {w : World} {v : Value} {l : List Sp} (h : Own2 base w v l) (n : Nat) : Own2 base (w.drewN n) v l := h

end Go.Proofs.YtihnmamejfoeeaaDoorS1
