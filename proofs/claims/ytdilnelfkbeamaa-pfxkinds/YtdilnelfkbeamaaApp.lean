/-
  'append' of one element, or of all of a slice, to a row of the call's own.
-/
import Derived.Test.YtdilnelfkbeamaaRow4
namespace Go.Proofs.Ytdilnelfkbeamaa
open Go.RowKit

theorem wp_appX {α : Type} {f : α → List Value} {n : Nat} {t T : TypeId} {z : Value} {bytes : Nat}
    (hinfo : (Try.prog.info? t).map (fun i => (i.zero, i.size, i.bytes)) = some (some z, n, bytes)) (hT : Try.prog.underlying T = some (.slice t)) (hf : ∀ x, (f x).length = n) (h1c : ∀ x, ∀ u ∈ f x, u.oneCell' = true) (hzs : z.cells.size = n) (hn : 0 < n) (hby : bytes ≤ 100)
    {w : World} {ops : Array Oper} {rest : List Oper} {o : Oper} {a : Act} {Q : Exit → Act → World → Prop} (hgd : o.guard = none) (s x : Operand)
    (ho : o.op = .call { callee := .builtin .append, args := #[s, x], argTypes := #[T, T] })
    (base : Nat) (v : Value) (l : List α) (hs : a.eval s = v) (hown : OwnX f n t base w v l) (y : α)
    (blk : Nat) (hx : a.eval x = .slice (some ⟨blk, 0, none⟩) 1 1) (cs : Array Value) (hb : Blk w blk cs t) (hcs : cs.toList = f y)
    (hl : l.length ≤ 1000000) (hbase : base ≤ w.heap.size)
    (h : ∀ g cap w', OwnX f n t base w' (.slice (some ⟨g, 0, none⟩) (l.length + 1) cap) (l ++ [y]) → w.grownBy w' v.ownBlock → (v.ownBlock = some g ∨ g = w.heap.size) → g < w'.heap.size → wpList Try.prog ops Q rest (a.put o.dst (.slice (some ⟨g, 0, none⟩) (l.length + 1) cap)) w') : wpList Try.prog ops Q (o :: rest) a w := by
  obtain ⟨i, hi, hz, hz1, hz2⟩ := info_parts hinfo
  refine wpList_append_lies w hgd s x T ho base t i _ n bytes hT hi hz hz1 hz2 hzs hn v l.length (cellsOf f l) hs hown ⟨blk, 0, none⟩ 1 1 (f y) hx (by rw [hf]; omega) ?_ (h1c y) (by decide) (by unfold maxLen; omega) ?_ hbase w.heap.size rfl ?_
  · intro j u hu
    have hadd : (⟨blk, 0, none⟩ : Addr).add j = ⟨blk, j, none⟩ := by unfold Addr.add; split <;> simp_all
    rw [hadd, hb.c, ← Array.getElem?_toList, hcs]
    exact hu
  · have : (l.length + 1) * bytes ≤ 1000001 * 100 := Nat.mul_le_mul (by omega) hby
    omega
  · intro g cap w' how hgr hg hlt
    refine h g cap w' ?_ hgr hg hlt
    show w'.ownsRow base t n _ (l ++ [y]).length (cellsOf f (l ++ [y]))
    rw [cellsOf_append, List.length_append]
    have : cellsOf f [y] = f y := by simp [cellsOf]
    rw [this]
    exact how

theorem oneG (x : Rg) : ∀ u ∈ encG x, u.oneCell' = true := by
  intro u hu
  simp [encG] at hu
  rcases hu with rfl | rfl | rfl | rfl <;> rfl
theorem oneP (x : Pf) : ∀ u ∈ encP x, u.oneCell' = true := by
  intro u hu
  simp [encP] at hu
  rcases hu with rfl | rfl <;> rfl
theorem oneE (x : En) : ∀ u ∈ encE x, u.oneCell' = true := by
  intro u hu
  simp [encE] at hu
  rcases hu with rfl | rfl | rfl | rfl | rfl <;> rfl

/-- One range more. -/
theorem wp_appG {w : World} {ops : Array Oper} {rest : List Oper} {o : Oper} {a : Act} {Q : Exit → Act → World → Prop} (hgd : o.guard = none) (s x : Operand)
    (ho : o.op = .call { callee := .builtin .append, args := #[s, x], argTypes := #[37, 37] })
    (base : Nat) (v : Value) (l : List Rg) (hs : a.eval s = v) (hown : OwnG base w v l) (y : Rg)
    (blk : Nat) (hx : a.eval x = .slice (some ⟨blk, 0, none⟩) 1 1) (hb : Blk w blk (gc y) 28)
    (hl : l.length ≤ 1000000) (hbase : base ≤ w.heap.size)
    (h : ∀ g cap w', OwnG base w' (.slice (some ⟨g, 0, none⟩) (l.length + 1) cap) (l ++ [y]) → w.grownBy w' v.ownBlock → (v.ownBlock = some g ∨ g = w.heap.size) → g < w'.heap.size → wpList Try.prog ops Q rest (a.put o.dst (.slice (some ⟨g, 0, none⟩) (l.length + 1) cap)) w') : wpList Try.prog ops Q (o :: rest) a w :=
  wp_appX info28 Try.underlying37 encG_len oneG rfl (by decide) (by decide) hgd s x ho base v l hs hown y blk hx (gc y) hb rfl hl hbase h

/-- One prefix more. -/
theorem wp_appP {w : World} {ops : Array Oper} {rest : List Oper} {o : Oper} {a : Act} {Q : Exit → Act → World → Prop} (hgd : o.guard = none) (s x : Operand)
    (ho : o.op = .call { callee := .builtin .append, args := #[s, x], argTypes := #[46, 46] })
    (base : Nat) (v : Value) (l : List Pf) (hs : a.eval s = v) (hown : OwnP base w v l) (y : Pf)
    (blk : Nat) (hx : a.eval x = .slice (some ⟨blk, 0, none⟩) 1 1) (hb : Blk w blk (pc y) 25)
    (hl : l.length ≤ 1000000) (hbase : base ≤ w.heap.size)
    (h : ∀ g cap w', OwnP base w' (.slice (some ⟨g, 0, none⟩) (l.length + 1) cap) (l ++ [y]) → w.grownBy w' v.ownBlock → (v.ownBlock = some g ∨ g = w.heap.size) → g < w'.heap.size → wpList Try.prog ops Q rest (a.put o.dst (.slice (some ⟨g, 0, none⟩) (l.length + 1) cap)) w') : wpList Try.prog ops Q (o :: rest) a w :=
  wp_appX info25 Try.underlying46 encP_len oneP rfl (by decide) (by decide) hgd s x ho base v l hs hown y blk hx (pc y) hb rfl hl hbase h

/-- 'append' of all of a slice to a row of the call's own. -/
theorem wp_appXall {α : Type} {f : α → List Value} {n : Nat} {t T : TypeId} {z : Value} {bytes : Nat}
    (hinfo : (Try.prog.info? t).map (fun i => (i.zero, i.size, i.bytes)) = some (some z, n, bytes)) (hT : Try.prog.underlying T = some (.slice t)) (hf : ∀ x, (f x).length = n) (h1c : ∀ x, ∀ u ∈ f x, u.oneCell' = true) (hzs : z.cells.size = n) (hn : 0 < n) (hby : bytes ≤ 100)
    {w : World} {ops : Array Oper} {rest : List Oper} {o : Oper} {a : Act} {Q : Exit → Act → World → Prop} (hgd : o.guard = none) (s x : Operand)
    (ho : o.op = .call { callee := .builtin .append, args := #[s, x], argTypes := #[T, T] })
    (base : Nat) (v : Value) (l : List α) (hs : a.eval s = v) (hown : OwnX f n t base w v l) (u : Value) (m : List α) (hx : a.eval x = u) (hu : RowX f n w u m)
    (hl : l.length + m.length ≤ 1000000) (hbase : base ≤ w.heap.size)
    (h : ∀ v' w', OwnX f n t base w' v' (l ++ m) → Below base w w' → wpList Try.prog ops Q rest (a.put o.dst v') w') : wpList Try.prog ops Q (o :: rest) a w := by
  obtain ⟨i, hi, hz, hz1, hz2⟩ := info_parts hinfo
  obtain ⟨ao, cap, rfl, hc, hn'⟩ := hu
  by_cases hm : m = []
  · subst hm
    cases ao with
    | none =>
      rw [hn' rfl] at hx
      refine wpList_plain hgd fun K hK' => ?_
      have hrun := run_append_owned_none (P := Try.prog) w base T o.type t i n hT hi v l.length (cellsOf f l) hown
      unfold Oper.wp
      simp only [List.length_nil] at hx
      simp [execOp, ho, resolve, invoke, builtin, hs, hx, hrun, Result.andThen]
      exact hK' _ _ (h v w (by simpa using hown) (Below.refl _ _))
    | some ad =>
      refine wpList_append_own w hgd s x T ho base t i _ n bytes hT hi hz hz1 hz2 hzs hn v l.length (cellsOf f l) hs hown ad 0 cap [] hx (by simp) (by simp) (by simp) (by unfold maxLen; simp at hl; omega) ?_ hbase ?_
      · have : (l.length + 0) * bytes ≤ 1000000 * 100 := Nat.mul_le_mul (by simp at hl; omega) hby
        omega
      · intro v' w' how hgr hv
        exact h v' w' (by simpa [OwnX] using how) ((Below.refl base w).grown hgr hbase (fun k hk => (World.ownsRow.lt hown k hk).1))
  · obtain ⟨b, off, rfl, hb, hcell⟩ := hc hm
    refine wpList_append_lies w hgd s x T ho base t i _ n bytes hT hi hz hz1 hz2 hzs hn v l.length (cellsOf f l) hs hown ⟨b, off, none⟩ m.length cap (cellsOf f m) hx (cellsOf_length hf m) ?_ ?_ (by have := List.length_pos_iff.2 hm; omega) (by unfold maxLen; omega) ?_ hbase w.heap.size rfl ?_
    · intro j q hq
      have hadd : (⟨b, off, none⟩ : Addr).add j = ⟨b, off + j, none⟩ := by unfold Addr.add; split <;> simp_all
      rw [hadd]
      have hj : j < m.length * n := by rw [← cellsOf_length hf m]; exact (List.getElem?_eq_some_iff.1 hq).1
      have hlt : j / n < m.length := (Nat.div_lt_iff_lt_mul hn).2 hj
      obtain ⟨x, hx⟩ : ∃ x, m[j / n]? = some x := ⟨_, List.getElem?_eq_getElem hlt⟩
      have hmod : j % n < (f x).length := by rw [hf]; exact Nat.mod_lt _ hn
      obtain ⟨c, hc⟩ : ∃ c, (f x)[j % n]? = some c := ⟨_, List.getElem?_eq_getElem hmod⟩
      have e1 := cellsOf_at hf m (j / n) x hx (j % n) c hc
      have e2 := hcell (j / n) x hx (j % n) c hc
      have e3 : j / n * n + j % n = j := by rw [Nat.mul_comm]; exact Nat.div_add_mod j n
      rw [e3, hq] at e1
      rw [Nat.add_assoc, e3] at e2
      rw [e2, ← e1]
    · intro q hq
      obtain ⟨x, _, hx⟩ := List.mem_flatMap.1 hq
      exact h1c x q hx
    · have : (l.length + m.length) * bytes ≤ 1000000 * 100 := Nat.mul_le_mul hl hby
      omega
    · intro g cap' w' how hgr hg hlt
      refine h _ w' ?_ ((Below.refl base w).grown hgr hbase (fun k hk => (World.ownsRow.lt hown k hk).1))
      show w'.ownsRow base t n _ (l ++ m).length (cellsOf f (l ++ m))
      rw [cellsOf_append, List.length_append]
      exact how

theorem wp_appGall {w : World} {ops : Array Oper} {rest : List Oper} {o : Oper} {a : Act} {Q : Exit → Act → World → Prop} (hgd : o.guard = none) (s x : Operand)
    (ho : o.op = .call { callee := .builtin .append, args := #[s, x], argTypes := #[37, 37] })
    (base : Nat) (v : Value) (l : List Rg) (hs : a.eval s = v) (hown : OwnG base w v l) (u : Value) (m : List Rg) (hx : a.eval x = u) (hu : RowG w u m)
    (hl : l.length + m.length ≤ 1000000) (hbase : base ≤ w.heap.size)
    (h : ∀ v' w', OwnG base w' v' (l ++ m) → Below base w w' → wpList Try.prog ops Q rest (a.put o.dst v') w') : wpList Try.prog ops Q (o :: rest) a w :=
  wp_appXall info28 Try.underlying37 encG_len oneG rfl (by decide) (by decide) hgd s x ho base v l hs hown u m hx hu hl hbase h

end Go.Proofs.Ytdilnelfkbeamaa
