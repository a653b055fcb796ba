/-
  'append' of a whole slice of boxes to a row of the call's own.
-/
import Derived.Test.YtepioggejacfjaaOwn1
namespace Go.Proofs.Ytepioggejacfjaa
open Go.RowKit

/-- The call owns this row of boxes. -/
def Own2 (base : Nat) (w : World) (v : Value) (l : List Sp) : Prop := w.ownsRow base 26 2 v l.length (cells2 l)

theorem Own2.nil (base : Nat) (w : World) : Own2 base w (.slice none 0 0) [] := World.ownsRow_nil w base 26 2
theorem Own2.alloc {base : Nat} {w : World} {v : Value} {l : List Sp} (h : Own2 base w v l) (o : Obj) : Own2 base (w.alloc o) v l := World.ownsRow.alloc h o

theorem info26 : (Try.prog.info? 26).map (fun i => (i.zero, i.size, i.bytes)) = some (some (.agg #[.int .u32 0, .int .u32 0]), 2, 8) := by kernel_rfl

theorem cells2_get (l : List Sp) (j : Nat) (u : Value) (h : (cells2 l)[j]? = some u) : ∃ x, l[j / 2]? = some x ∧ (j % 2 = 0 ∧ u = .int .u32 x.1 ∨ j % 2 = 1 ∧ u = .int .u32 x.2) := by
  have hj : j < l.length * 2 := by
    rw [← cells2_length]
    exact (List.getElem?_eq_some_iff.1 h).1
  obtain ⟨x, hx⟩ : ∃ x, l[j / 2]? = some x := ⟨_, List.getElem?_eq_getElem (by omega)⟩
  obtain ⟨c1, c2⟩ := cells2_at l (j / 2) x hx
  refine ⟨x, hx, ?_⟩
  rcases Nat.mod_two_eq_zero_or_one j with e | e
  · rw [show j / 2 * 2 = j from by omega, h] at c1
    exact Or.inl ⟨e, by injection c1⟩
  · rw [show j / 2 * 2 + 1 = j from by omega, h] at c2
    exact Or.inr ⟨e, by injection c2⟩

/-- 'append' of all of a slice to a row of the call's own. -/
theorem wp_appAll {w : World} {ops : Array Oper} {rest : List Oper} {o : Oper} {a : Act} {Q : Exit → Act → World → Prop} (hgd : o.guard = none) (s x : Operand)
    (ho : o.op = .call { callee := .builtin .append, args := #[s, x], argTypes := #[22, 22] })
    (base : Nat) (v : Value) (l : List Sp) (hs : a.eval s = v) (hown : Own2 base w v l) (u : Value) (m : List Sp) (hx : a.eval x = u) (hu : Row2 w u m)
    (hl : (l.length + m.length) * 8 ≤ 140737488355328) (hbase : base ≤ w.heap.size)
    (h : ∀ v' w', Own2 base w' v' (l ++ m) → Below base w w' → wpList Try.prog ops Q rest (a.put o.dst v') w') : wpList Try.prog ops Q (o :: rest) a w := by
  obtain ⟨i, hi, hz, hz1, hz2⟩ := info_parts info26
  obtain ⟨ao, cap, rfl, hc, hn⟩ := hu
  cases ao with
  | none =>
    have hm : m = [] := by
      by_cases e : m = []
      · exact e
      · obtain ⟨b, off, hb, _⟩ := hc e
        cases hb
    subst hm
    rw [hn rfl] at hx
    refine wpList_plain hgd fun K hK' => ?_
    have hrun := run_append_owned_none (P := Try.prog) w base 22 o.type 26 i 2 Try.underlying22 hi v l.length (cells2 l) hown
    unfold Oper.wp
    simp only [List.length_nil] at hx
    simp [execOp, ho, resolve, invoke, builtin, hs, hx, hrun, Result.andThen]
    exact hK' _ _ (h v w (by simpa using hown) (Below.refl _ _))
  | some ad =>
    refine wpList_append_own w hgd s x 22 ho base 26 i _ 2 8 Try.underlying22 hi hz hz1 hz2 rfl (by decide) v l.length (cells2 l) hs hown ad m.length cap (cells2 m) hx (cells2_length m) ?_ (cells2_oneCell m) (by unfold maxLen; omega) (by omega) hbase ?_
    · intro j q hq
      obtain ⟨y, hy, hd⟩ := cells2_get m j q hq
      obtain ⟨b, off, hb, _, hcell⟩ := hc (by intro e; subst e; simp at hy)
      injection hb with hb
      subst hb
      have hadd : (⟨b, off, none⟩ : Addr).add j = ⟨b, off + j, none⟩ := by unfold Addr.add; split <;> simp_all
      rw [hadd]
      obtain ⟨c1, c2⟩ := hcell (j / 2) y hy
      rcases hd with ⟨e, rfl⟩ | ⟨e, rfl⟩
      · rw [show off + j = off + j / 2 * 2 from by omega]; exact c1
      · rw [show off + j = off + j / 2 * 2 + 1 from by omega]; exact c2
    · intro v' w' how hgr _
      refine h v' w' ?_ ?_
      · show w'.ownsRow base 26 2 _ (l ++ m).length (cells2 (l ++ m))
        rw [cells2_append, List.length_append]
        exact how
      · exact (Below.refl base w).grown hgr hbase (fun k hk => (hown.lt k hk).1)

/-- A new row without boxes. -/
theorem Own2.empty (base : Nat) (w : World) (h : base ≤ w.heap.size) : Own2 base (w.alloc (.cells #[] 26)) (.slice (some ⟨w.heap.size, 0, none⟩) 0 0) [] :=
  ⟨rfl, .inr ⟨w.heap.size, 0, #[], rfl, h, heap_alloc_new w _, Nat.le_refl _, by decide, rfl, rfl⟩⟩

end Go.Proofs.Ytepioggejacfjaa
