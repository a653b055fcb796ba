/-
  Rows of numbers that a call owns; 'append' to them.
-/
import Derived.Test.YtdilnelfkbeamaaRow
import Derived.Deep.AppendLies
namespace Go.Proofs.Ytdilnelfkbeamaa
open Go.RowKit

theorem owns_set {w : World} {base : Nat} {e : TypeId} {size g n cap : Nat} {xs : List Value} (h : w.ownsRow base e size (.slice (some ⟨g, 0, none⟩) n cap) n xs) (j : Nat) (u : Value) :
    (w.setCell ⟨g, j, none⟩ u).ownsRow base e size (.slice (some ⟨g, 0, none⟩) n cap) n (xs.set j u) := by
  obtain ⟨hx, hr⟩ := h
  refine ⟨by simpa using hx, .inr ?_⟩
  rcases hr with ⟨hv, _⟩ | ⟨g', cap', cur, hv, hb, hg, hn, hm, hs, ht⟩
  · simp at hv
  · simp at hv
    obtain ⟨rfl, rfl⟩ := hv
    refine ⟨g, cap, cur.setIfInBounds j u, rfl, hb, heap_setCell_same w g j cur e u hg, hn, hm, by simpa using hs, ?_⟩
    rw [Array.toList_setIfInBounds, ← ht]
    rw [List.take_set]

/-- The call owns this row of numbers. -/
def Own1 (base : Nat) (w : World) (v : Value) (l : List Int) : Prop := w.ownsRow base 23 1 v l.length (l.map (Value.int .u32))

theorem Own1.alloc {base : Nat} {w : World} {v : Value} {l : List Int} (h : Own1 base w v l) (o : Obj) : Own1 base (w.alloc o) v l := World.ownsRow.alloc h o
theorem Own1.drewN {base : Nat} {w : World} {v : Value} {l : List Int} (h : Own1 base w v l) (n : Nat) : Own1 base (w.drewN n) v l := h

theorem Own1.form {base : Nat} {w : World} {v : Value} {l : List Int} (h : Own1 base w v l) : ∃ ao cap, v = .slice ao l.length cap := by
  rcases h.2 with ⟨rfl, h0⟩ | ⟨g, cap, cur, rfl, _⟩
  · exact ⟨none, 0, by rw [h0]⟩
  · exact ⟨_, _, rfl⟩

theorem Own1.shape {base : Nat} {w : World} {v : Value} {l : List Int} (h : Own1 base w v l) (hne : l ≠ []) :
    ∃ g cap, v = .slice (some ⟨g, 0, none⟩) l.length cap ∧ base ≤ g ∧ g < w.heap.size ∧ l.length ≤ cap ∧
      (∀ o, w.frozen? ⟨g, o, none⟩ = false) ∧ ∀ (i : Nat) x, l[i]? = some x → w.cell? ⟨g, i, none⟩ = some (.int .u32 x) := by
  have hc := fun g => World.ownsRow.cells h (g := g)
  rcases h.2 with ⟨rfl, h0⟩ | ⟨g, cap, cur, rfl, hb, hg, hn, hm, hs, ht⟩
  · exact absurd (List.length_eq_zero_iff.1 h0) hne
  · refine ⟨g, cap, rfl, hb, (Array.getElem?_eq_some_iff.1 hg).1, hn, fun o => ?_, fun i x hx => ?_⟩
    · simp [World.frozen?, hg]
    · have a1 := hc g rfl i (.int .u32 x) (by simp [hx])
      have hadd : (⟨g, 0, none⟩ : Addr).add i = ⟨g, i, none⟩ := by unfold Addr.add; split <;> simp_all
      rw [hadd] at a1
      exact a1

theorem Own1.set {base : Nat} {w : World} {g n cap : Nat} {l : List Int} (h : Own1 base w (.slice (some ⟨g, 0, none⟩) n cap) l) (j : Nat) (z : Int) :
    Own1 base (w.setCell ⟨g, j, none⟩ (.int .u32 z)) (.slice (some ⟨g, 0, none⟩) n cap) (l.set j z) := by
  have hn : n = l.length := by
    rcases h.2 with ⟨hv, _⟩ | ⟨g', cap', cur, hv, _⟩
    · simp at hv
    · simp at hv; omega
  subst hn
  have := owns_set (n := l.length) h j (.int .u32 z)
  rw [← List.map_set] at this
  simpa [Own1] using this

theorem info23 : (Try.prog.info? 23).map (fun i => (i.zero, i.size, i.bytes)) = some (some (.int .u32 0), 1, 4) := by kernel_rfl

/-- 'append' of one number to a row of the call's own. -/
theorem wp_app1 {w : World} {ops : Array Oper} {rest : List Oper} {o : Oper} {a : Act} {Q : Exit → Act → World → Prop} (hgd : o.guard = none) (s x : Operand)
    (ho : o.op = .call { callee := .builtin .append, args := #[s, x], argTypes := #[62, 62] })
    (base : Nat) (v : Value) (l : List Int) (hs : a.eval s = v) (hown : Own1 base w v l) (y : Int)
    (blk : Nat) (hx : a.eval x = .slice (some ⟨blk, 0, none⟩) 1 1) (h0 : w.cell? ⟨blk, 0, none⟩ = some (.int .u32 y))
    (hl : l.length ≤ 1000000) (hbase : base ≤ w.heap.size)
    (h : ∀ g cap w', Own1 base w' (.slice (some ⟨g, 0, none⟩) (l.length + 1) cap) (l ++ [y]) → Below base w w' → base ≤ g → g < w'.heap.size → (v.ownBlock = some g ∨ g = w.heap.size) → (∀ b, b < w.heap.size → v.ownBlock ≠ some b → w'.heap[b]? = w.heap[b]?) → wpList Try.prog ops Q rest (a.put o.dst (.slice (some ⟨g, 0, none⟩) (l.length + 1) cap)) w') : wpList Try.prog ops Q (o :: rest) a w := by
  obtain ⟨i, hi, hz, hz1, hz2⟩ := info_parts info23
  refine wpList_append_lies w hgd s x 62 ho base 23 i _ 1 4 Try.underlying62 hi hz hz1 hz2 rfl (by decide) v l.length (l.map (Value.int .u32)) hs hown ⟨blk, 0, none⟩ 1 1 [.int .u32 y] hx rfl ?_ ?_ (by decide) (by unfold maxLen; omega) (by omega) hbase w.heap.size rfl ?_
  · intro j u hu
    have hadd : (⟨blk, 0, none⟩ : Addr).add j = ⟨blk, j, none⟩ := by unfold Addr.add; split <;> simp_all
    rw [hadd]
    match j with
    | 0 => simp at hu; subst hu; exact h0
    | j + 1 => simp at hu
  · intro u hu
    simp at hu
    subst hu
    rfl
  · intro g cap w' how hgr hg hlt
    refine h g cap w' ?_ ?_ ?_ hlt hg ?_
    · show w'.ownsRow base 23 1 _ (l ++ [y]).length ((l ++ [y]).map (Value.int .u32))
      rw [List.map_append, List.length_append]
      exact how
    · exact (Below.refl base w).grown hgr hbase (fun k hk => (hown.lt k hk).1)
    · rcases hg with hg | hg
      · exact (hown.lt g hg).1
      · omega
    · intro b hb hne
      exact hgr.block b hb (fun e => hne e.symm)

theorem Own1.notAt {base : Nat} {w : World} {v : Value} {l : List Int} (h : Own1 base w v l) {b : Nat} (hb : w.heap.size ≤ b) : v.ownBlock ≠ some b := by
  intro e
  have := (World.ownsRow.lt h b e).2
  omega

theorem Row1.of_owns {w : World} {base : Nat} {v : Value} {l : List Int} (h : Own1 base w v l) : Row1 w v l := by
  by_cases e : l = []
  · subst e
    obtain ⟨ao, cap, rfl⟩ := h.form
    rcases h.2 with ⟨hv, h0⟩ | ⟨g, cap', cur, hv, _⟩
    · simp at hv
      exact ⟨_, _, rfl, fun h => absurd rfl h, fun _ => hv.2⟩
    · simp at hv
      exact ⟨_, _, rfl, fun h => absurd rfl h, fun e => by rw [hv.1] at e; cases e⟩
  · obtain ⟨g, cap, rfl, _, hg, _, _, hc⟩ := h.shape e
    exact ⟨_, _, rfl, fun _ => ⟨g, 0, rfl, hg, fun i x hx => by rw [Nat.zero_add]; exact hc i x hx⟩, fun h => by cases h⟩


theorem Own1.nil (base : Nat) (w : World) : Own1 base w (.slice none 0 0) [] := World.ownsRow_nil w base 23 1

/-- A new row without numbers. -/
theorem Own1.empty (base : Nat) (w : World) (h : base ≤ w.heap.size) : Own1 base (w.alloc (.cells #[] 23)) (.slice (some ⟨w.heap.size, 0, none⟩) 0 0) [] :=
  ⟨rfl, .inr ⟨w.heap.size, 0, #[], rfl, h, heap_alloc_new w _, Nat.le_refl _, by decide, rfl, rfl⟩⟩

/-- 'append' of all of a slice to a row of the call's own. -/
theorem wp_appAll {w : World} {ops : Array Oper} {rest : List Oper} {o : Oper} {a : Act} {Q : Exit → Act → World → Prop} (hgd : o.guard = none) (s x : Operand)
    (ho : o.op = .call { callee := .builtin .append, args := #[s, x], argTypes := #[62, 62] })
    (base : Nat) (v : Value) (l : List Int) (hs : a.eval s = v) (hown : Own1 base w v l) (u : Value) (m : List Int) (hx : a.eval x = u) (hu : Row1 w u m)
    (hl : l.length + m.length ≤ 1000000) (hbase : base ≤ w.heap.size)
    (h : ∀ v' w', Own1 base w' v' (l ++ m) → Below base w w' → wpList Try.prog ops Q rest (a.put o.dst v') w') : wpList Try.prog ops Q (o :: rest) a w := by
  obtain ⟨i, hi, hz, hz1, hz2⟩ := info_parts info23
  obtain ⟨ao, cap, rfl, hc, hn⟩ := hu
  cases ao with
  | none =>
    have hm : m = [] := by
      by_cases e : m = []
      · exact e
      · obtain ⟨b, off, hb, _⟩ := hc e
        cases hb
    subst hm
    rw [hn rfl] at hx
    refine wpList_plain hgd fun K hK' => ?_
    have hrun := run_append_owned_none (P := Try.prog) w base 62 o.type 23 i 1 Try.underlying62 hi v l.length (l.map (Value.int .u32)) hown
    unfold Oper.wp
    simp only [List.length_nil] at hx
    simp [execOp, ho, resolve, invoke, builtin, hs, hx, hrun, Result.andThen]
    exact hK' _ _ (h v w (by simpa using hown) (Below.refl _ _))
  | some ad =>
    refine wpList_append_own w hgd s x 62 ho base 23 i _ 1 4 Try.underlying62 hi hz hz1 hz2 rfl (by decide) v l.length (l.map (Value.int .u32)) hs hown ad m.length cap (m.map (Value.int .u32)) hx (by simp) ?_ ?_ (by unfold maxLen; omega) (by omega) hbase ?_
    · intro j q hq
      simp at hq
      obtain ⟨y, hy, rfl⟩ := hq
      obtain ⟨b, off, hb, _, hcell⟩ := hc (by intro e; subst e; simp at hy)
      injection hb with hb
      subst hb
      have hadd : (⟨b, off, none⟩ : Addr).add j = ⟨b, off + j, none⟩ := by unfold Addr.add; split <;> simp_all
      rw [hadd]
      exact hcell j y hy
    · intro q hq
      simp at hq
      obtain ⟨y, _, rfl⟩ := hq
      rfl
    · intro v' w' how hgr _
      refine h v' w' ?_ ?_
      · show w'.ownsRow base 23 1 _ (l ++ m).length ((l ++ m).map (Value.int .u32))
        rw [List.map_append, List.length_append]
        exact how
      · exact (Below.refl base w).grown hgr hbase (fun k hk => (hown.lt k hk).1)

end Go.Proofs.Ytdilnelfkbeamaa
