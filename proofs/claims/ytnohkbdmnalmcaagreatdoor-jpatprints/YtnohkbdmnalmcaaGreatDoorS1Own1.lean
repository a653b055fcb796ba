/-
  Rows of numbers, and of bools, that a call owns.
-/
import Derived.Test.YtnohkbdmnalmcaaGreatDoorS1Norm
namespace Go.Proofs.YtnohkbdmnalmcaaGreatDoorS1
open Go.RowKit

/-- The call owns this row of numbers. -/
def Own1 (base : Nat) (w : World) (v : Value) (l : List Int) : Prop := w.ownsRow base 42 1 v l.length (l.map (Value.int .u32))

theorem Own1.alloc {base : Nat} {w : World} {v : Value} {l : List Int} (h : Own1 base w v l) (o : Obj) : Own1 base (w.alloc o) v l := World.ownsRow.alloc h o
theorem Own1.drewN {base : Nat} {w : World} {v : Value} {l : List Int} (h : Own1 base w v l) (n : Nat) : Own1 base (w.drewN n) v l := h

theorem Own1.form {base : Nat} {w : World} {v : Value} {l : List Int} (h : Own1 base w v l) : ∃ ao cap, v = .slice ao l.length cap := by
  rcases h.2 with ⟨rfl, h0⟩ | ⟨g, cap, cur, rfl, _⟩
  · exact ⟨none, 0, by rw [h0]⟩
  · exact ⟨_, _, rfl⟩

theorem Own1.shape {base : Nat} {w : World} {v : Value} {l : List Int} (h : Own1 base w v l) (hne : l ≠ []) :
    ∃ g cap, v = .slice (some ⟨g, 0, none⟩) l.length cap ∧ base ≤ g ∧ g < w.heap.size ∧ l.length ≤ cap ∧
      (∀ o, w.frozen? ⟨g, o, none⟩ = false) ∧ ∀ (i : Nat) x, l[i]? = some x → w.cell? ⟨g, i, none⟩ = some (.int .u32 x) := by
  have hc := fun g => World.ownsRow.cells h (g := g)
  rcases h.2 with ⟨rfl, h0⟩ | ⟨g, cap, cur, rfl, hb, hg, hn, hm, hs, ht⟩
  · exact absurd (List.length_eq_zero_iff.1 h0) hne
  · refine ⟨g, cap, rfl, hb, (Array.getElem?_eq_some_iff.1 hg).1, hn, fun o => ?_, fun i x hx => ?_⟩
    · simp [World.frozen?, hg]
    · have a1 := hc g rfl i (.int .u32 x) (by simp [hx])
      have hadd : (⟨g, 0, none⟩ : Addr).add i = ⟨g, i, none⟩ := by unfold Addr.add; split <;> simp_all
      rw [hadd] at a1
      exact a1

theorem Own1.set {base : Nat} {w : World} {g n cap : Nat} {l : List Int} (h : Own1 base w (.slice (some ⟨g, 0, none⟩) n cap) l) (j : Nat) (z : Int) :
    Own1 base (w.setCell ⟨g, j, none⟩ (.int .u32 z)) (.slice (some ⟨g, 0, none⟩) n cap) (l.set j z) := by
  have hn : n = l.length := by
    rcases h.2 with ⟨hv, _⟩ | ⟨g', cap', cur, hv, _⟩
    · simp at hv
    · simp at hv; omega
  subst hn
  have := owns_set (n := l.length) h j (.int .u32 z)
  rw [← List.map_set] at this
  simpa [Own1] using this

theorem info42 : (Tryz.prog.info? 42).map (fun i => (i.zero, i.size, i.bytes)) = some (some (.int .u32 0), 1, 4) := by kernel_rfl

/-- 'append' of one number to a row of the call's own. -/
theorem wp_app1 {w : World} {ops : Array Oper} {rest : List Oper} {o : Oper} {a : Act} {Q : Exit → Act → World → Prop} (hgd : o.guard = none) (s x : Operand)
    (ho : o.op = .call { callee := .builtin .append, args := #[s, x], argTypes := #[40, 40] })
    (base : Nat) (v : Value) (l : List Int) (hs : a.eval s = v) (hown : Own1 base w v l) (y : Int)
    (blk : Nat) (hx : a.eval x = .slice (some ⟨blk, 0, none⟩) 1 1) (h0 : w.cell? ⟨blk, 0, none⟩ = some (.int .u32 y))
    (hl : l.length ≤ 1000000) (hbase : base ≤ w.heap.size)
    (h : ∀ g cap w', Own1 base w' (.slice (some ⟨g, 0, none⟩) (l.length + 1) cap) (l ++ [y]) → Below base w w' → base ≤ g → g < w'.heap.size → (v.ownBlock = some g ∨ g = w.heap.size) → (∀ b, b < w.heap.size → v.ownBlock ≠ some b → w'.heap[b]? = w.heap[b]?) → wpList Tryz.prog ops Q rest (a.put o.dst (.slice (some ⟨g, 0, none⟩) (l.length + 1) cap)) w') : wpList Tryz.prog ops Q (o :: rest) a w := by
  obtain ⟨i, hi, hz, hz1, hz2⟩ := info_parts info42
  refine wpList_append_lies w hgd s x 40 ho base 42 i _ 1 4 Tryz.underlying40 hi hz hz1 hz2 rfl (by decide) v l.length (l.map (Value.int .u32)) hs hown ⟨blk, 0, none⟩ 1 1 [.int .u32 y] hx rfl ?_ ?_ (by decide) (by unfold maxLen; omega) (by omega) hbase w.heap.size rfl ?_
  · intro j u hu
    have hadd : (⟨blk, 0, none⟩ : Addr).add j = ⟨blk, j, none⟩ := by unfold Addr.add; split <;> simp_all
    rw [hadd]
    match j with
    | 0 => simp at hu; subst hu; exact h0
    | j + 1 => simp at hu
  · intro u hu
    simp at hu
    subst hu
    rfl
  · intro g cap w' how hgr hg hlt
    refine h g cap w' ?_ ?_ ?_ hlt hg ?_
    · show w'.ownsRow base 42 1 _ (l ++ [y]).length ((l ++ [y]).map (Value.int .u32))
      rw [List.map_append, List.length_append]
      exact how
    · exact (Below.refl base w).grown hgr hbase (fun k hk => (hown.lt k hk).1)
    · rcases hg with hg | hg
      · exact (hown.lt g hg).1
      · omega
    · intro b hb hne
      exact hgr.block b hb (fun e => hne e.symm)

theorem Own1.notAt {base : Nat} {w : World} {v : Value} {l : List Int} (h : Own1 base w v l) {b : Nat} (hb : w.heap.size ≤ b) : v.ownBlock ≠ some b := by
  intro e
  have := (World.ownsRow.lt h b e).2
  omega

theorem Row1.of_owns {w : World} {base : Nat} {v : Value} {l : List Int} (h : Own1 base w v l) : Row1 w v l := by
  by_cases e : l = []
  · subst e
    obtain ⟨ao, cap, rfl⟩ := h.form
    exact ⟨_, _, rfl, fun h => absurd rfl h⟩
  · obtain ⟨g, cap, rfl, _, hg, _, _, hc⟩ := h.shape e
    exact ⟨_, _, rfl, fun _ => ⟨g, 0, rfl, hg, fun i x hx => by rw [Nat.zero_add]; exact hc i x hx⟩⟩

/-- The call owns this row of bools. -/
def OwnB (base : Nat) (w : World) (v : Value) (l : List Bool) : Prop := w.ownsRow base 4 1 v l.length (l.map Value.bool)

theorem OwnB.alloc {base : Nat} {w : World} {v : Value} {l : List Bool} (h : OwnB base w v l) (o : Obj) : OwnB base (w.alloc o) v l := World.ownsRow.alloc h o
theorem OwnB.nil (base : Nat) (w : World) : OwnB base w (.slice none 0 0) [] := World.ownsRow_nil w base 4 1

theorem info4 : (Tryz.prog.info? 4).map (fun i => (i.zero, i.size, i.bytes)) = some (some (.bool false), 1, 1) := by kernel_rfl

/-- 'append' of one bool to a row of the call's own. -/
theorem wp_appB {w : World} {ops : Array Oper} {rest : List Oper} {o : Oper} {a : Act} {Q : Exit → Act → World → Prop} (hgd : o.guard = none) (s x : Operand)
    (ho : o.op = .call { callee := .builtin .append, args := #[s, x], argTypes := #[81, 81] })
    (base : Nat) (v : Value) (l : List Bool) (hs : a.eval s = v) (hown : OwnB base w v l) (y : Bool)
    (blk : Nat) (hx : a.eval x = .slice (some ⟨blk, 0, none⟩) 1 1) (h0 : w.cell? ⟨blk, 0, none⟩ = some (.bool y))
    (hl : l.length ≤ 1000000) (hbase : base ≤ w.heap.size)
    (h : ∀ g cap w', OwnB base w' (.slice (some ⟨g, 0, none⟩) (l.length + 1) cap) (l ++ [y]) → Below base w w' → wpList Tryz.prog ops Q rest (a.put o.dst (.slice (some ⟨g, 0, none⟩) (l.length + 1) cap)) w') : wpList Tryz.prog ops Q (o :: rest) a w := by
  obtain ⟨i, hi, hz, hz1, hz2⟩ := info_parts info4
  refine wpList_append_lies w hgd s x 81 ho base 4 i _ 1 1 Tryz.underlying81 hi hz hz1 hz2 rfl (by decide) v l.length (l.map Value.bool) hs hown ⟨blk, 0, none⟩ 1 1 [.bool y] hx rfl ?_ ?_ (by decide) (by unfold maxLen; omega) (by omega) hbase w.heap.size rfl ?_
  · intro j u hu
    have hadd : (⟨blk, 0, none⟩ : Addr).add j = ⟨blk, j, none⟩ := by unfold Addr.add; split <;> simp_all
    rw [hadd]
    match j with
    | 0 => simp at hu; subst hu; exact h0
    | j + 1 => simp at hu
  · intro u hu
    simp at hu
    subst hu
    rfl
  · intro g cap w' how hgr hg hlt
    refine h g cap w' ?_ ?_
    · show w'.ownsRow base 4 1 _ (l ++ [y]).length ((l ++ [y]).map Value.bool)
      rw [List.map_append, List.length_append]
      exact how
    · exact (Below.refl base w).grown hgr hbase (fun k hk => (hown.lt k hk).1)

theorem RowB.of_owns {w : World} {base : Nat} {v : Value} {l : List Bool} (h : OwnB base w v l) : RowB w v l := by
  have hc := fun g => World.ownsRow.cells h (g := g)
  rcases h.2 with ⟨rfl, h0⟩ | ⟨g, cap, cur, rfl, hb, hg, hn, hm, hs, ht⟩
  · have : l = [] := List.length_eq_zero_iff.1 h0
    subst this
    exact ⟨_, _, rfl, fun h => absurd rfl h⟩
  · refine ⟨_, cap, rfl, fun _ => ⟨g, 0, rfl, (Array.getElem?_eq_some_iff.1 hg).1, fun i x hx => ?_⟩⟩
    have a1 := hc g rfl i (.bool x) (by simp [hx])
    have hadd : (⟨g, 0, none⟩ : Addr).add i = ⟨g, 0 + i, none⟩ := by unfold Addr.add; split <;> simp_all
    rw [hadd] at a1
    exact a1

end Go.Proofs.YtnohkbdmnalmcaaGreatDoorS1
