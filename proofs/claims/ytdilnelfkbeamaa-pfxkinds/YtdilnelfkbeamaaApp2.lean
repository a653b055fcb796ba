/-
  'append' in a region that draws its order; rows whose address is known.
-/
import Derived.Test.YtdilnelfkbeamaaApp
import Derived.Test.YtdilnelfkbeamaaW11
namespace Go.Proofs.Ytdilnelfkbeamaa
open Go.RowKit

theorem grownBy_same (w : World) (o : Option Nat) : w.grownBy w o := ⟨rfl, rfl, rfl, Nat.le_refl _, fun _ _ _ => rfl⟩

/-- All of a slice behind a row of the call's own. -/
theorem step_appXall {α : Type} {f : α → List Value} {n : Nat} {t T : TypeId} {z : Value} {bytes : Nat}
    (hinfo : (Try.prog.info? t).map (fun i => (i.zero, i.size, i.bytes)) = some (some z, n, bytes)) (hT : Try.prog.underlying T = some (.slice t)) (hf : ∀ x, (f x).length = n) (h1c : ∀ x, ∀ u ∈ f x, u.oneCell' = true) (hzs : z.cells.size = n) (hn : 0 < n) (hby : bytes ≤ 100)
    {w : World} {ops : Array Oper} {o : Oper} {a : Act} {K : Act → World → Prop} {Q : Exit → Act → World → Prop} {E : Prop} (hgd : o.guard = none) (s x : Operand)
    (ho : o.op = .call { callee := .builtin .append, args := #[s, x], argTypes := #[T, T] })
    (base : Nat) (v : Value) (l : List α) (hs : a.eval s = v) (hown : OwnX f n t base w v l) (u : Value) (m : List α) (hx : a.eval x = u) (hu : RowX f n w u m)
    (hl : l.length + m.length ≤ 1000000) (hbase : base ≤ w.heap.size)
    (h : ∀ v' w', OwnX f n t base w' v' (l ++ m) → w.grownBy w' v.ownBlock → K (a.put o.dst v') w') : if Region.wanted o (yielded ops a.tmps) = true then Oper.wp Try.prog o a w K Q else E := by
  have hw : Region.wanted o (yielded ops a.tmps) = true := by simp [Region.wanted, hgd]
  rw [if_pos hw]
  obtain ⟨i, hi, hz, hz1, hz2⟩ := info_parts hinfo
  obtain ⟨ao, cap, rfl, hc, hn'⟩ := hu
  by_cases hm : m = []
  · subst hm
    cases ao with
    | none =>
      rw [hn' rfl] at hx
      have hrun := run_append_owned_none (P := Try.prog) w base T o.type t i n hT hi v l.length (cellsOf f l) hown
      unfold Oper.wp
      simp only [List.length_nil] at hx
      simp [execOp, ho, resolve, invoke, builtin, hs, hx, hrun, Result.andThen]
      exact h v w (by simpa using hown) (grownBy_same _ _)
    | some ad =>
      refine wp_append_own w s x T ho base t i _ n bytes hT hi hz hz1 hz2 hzs hn v l.length (cellsOf f l) hs hown ad 0 cap [] hx (by simp) (by simp) (by simp) (by unfold maxLen; simp at hl; omega) ?_ hbase ?_
      · have : (l.length + 0) * bytes ≤ 1000000 * 100 := Nat.mul_le_mul (by simp at hl; omega) hby
        omega
      · intro v' w' how hgr hv
        exact h v' w' (by simpa [OwnX] using how) hgr
  · obtain ⟨b, off, rfl, hb, hcell⟩ := hc hm
    refine wp_append_lies w s x T ho base t i _ n bytes hT hi hz hz1 hz2 hzs hn v l.length (cellsOf f l) hs hown ⟨b, off, none⟩ m.length cap (cellsOf f m) hx (cellsOf_length hf m) ?_ ?_ (by have := List.length_pos_iff.2 hm; omega) (by unfold maxLen; omega) ?_ hbase w.heap.size rfl ?_
    · intro j q hq
      have hadd : (⟨b, off, none⟩ : Addr).add j = ⟨b, off + j, none⟩ := by unfold Addr.add; split <;> simp_all
      rw [hadd]
      have hj : j < m.length * n := by rw [← cellsOf_length hf m]; exact (List.getElem?_eq_some_iff.1 hq).1
      have hlt : j / n < m.length := (Nat.div_lt_iff_lt_mul hn).2 hj
      obtain ⟨x, hx⟩ : ∃ x, m[j / n]? = some x := ⟨_, List.getElem?_eq_getElem hlt⟩
      have hmod : j % n < (f x).length := by rw [hf]; exact Nat.mod_lt _ hn
      obtain ⟨c, hc⟩ : ∃ c, (f x)[j % n]? = some c := ⟨_, List.getElem?_eq_getElem hmod⟩
      have e1 := cellsOf_at hf m (j / n) x hx (j % n) c hc
      have e2 := hcell (j / n) x hx (j % n) c hc
      have e3 : j / n * n + j % n = j := by rw [Nat.mul_comm]; exact Nat.div_add_mod j n
      rw [e3, hq] at e1
      rw [Nat.add_assoc, e3] at e2
      rw [e2, ← e1]
    · intro q hq
      obtain ⟨x, _, hx⟩ := List.mem_flatMap.1 hq
      exact h1c x q hx
    · have : (l.length + m.length) * bytes ≤ 1000000 * 100 := Nat.mul_le_mul hl hby
      omega
    · intro g cap' w' how hgr hg hlt
      refine h _ w' ?_ hgr
      show w'.ownsRow base t n _ (l ++ m).length (cellsOf f (l ++ m))
      rw [cellsOf_append, List.length_append]
      exact how

theorem step_appGall {w : World} {ops : Array Oper} {o : Oper} {a : Act} {K : Act → World → Prop} {Q : Exit → Act → World → Prop} {E : Prop} (hgd : o.guard = none) (s x : Operand)
    (ho : o.op = .call { callee := .builtin .append, args := #[s, x], argTypes := #[37, 37] })
    (base : Nat) (v : Value) (l : List Rg) (hs : a.eval s = v) (hown : OwnG base w v l) (u : Value) (m : List Rg) (hx : a.eval x = u) (hu : RowG w u m)
    (hl : l.length + m.length ≤ 1000000) (hbase : base ≤ w.heap.size)
    (h : ∀ v' w', OwnG base w' v' (l ++ m) → w.grownBy w' v.ownBlock → K (a.put o.dst v') w') : if Region.wanted o (yielded ops a.tmps) = true then Oper.wp Try.prog o a w K Q else E :=
  step_appXall info28 Try.underlying37 encG_len oneG rfl (by decide) (by decide) hgd s x ho base v l hs hown u m hx hu hl hbase h

/-- Two numbers behind a row of the call's own. -/
theorem step_app2 {w : World} {ops : Array Oper} {o : Oper} {a : Act} {K : Act → World → Prop} {Q : Exit → Act → World → Prop} {E : Prop} (hgd : o.guard = none) (s x : Operand)
    (ho : o.op = .call { callee := .builtin .append, args := #[s, x], argTypes := #[62, 62] })
    (base : Nat) (v : Value) (l : List Int) (hs : a.eval s = v) (hown : Own1 base w v l) (y y' : Int)
    (blk : Nat) (hx : a.eval x = .slice (some ⟨blk, 0, none⟩) 2 2) (hb : Blk w blk #[.int .u32 y, .int .u32 y'] 23)
    (hl : l.length ≤ 1000000) (hbase : base ≤ w.heap.size)
    (h : ∀ v' w', Own1 base w' v' (l ++ [y, y']) → w.grownBy w' v.ownBlock → K (a.put o.dst v') w') : if Region.wanted o (yielded ops a.tmps) = true then Oper.wp Try.prog o a w K Q else E := by
  obtain ⟨i, hi, hz, hz1, hz2⟩ := info_parts info23
  refine step_append_lies w hgd s x 62 ho base 23 i _ 1 4 Try.underlying62 hi hz hz1 hz2 rfl (by decide) v l.length (l.map (Value.int .u32)) hs hown ⟨blk, 0, none⟩ 2 2 [.int .u32 y, .int .u32 y'] hx rfl ?_ ?_ (by decide) (by unfold maxLen; omega) (by omega) hbase w.heap.size rfl ?_
  · intro j u hu
    have hadd : (⟨blk, 0, none⟩ : Addr).add j = ⟨blk, j, none⟩ := by unfold Addr.add; split <;> simp_all
    rw [hadd, hb.c, ← Array.getElem?_toList]
    exact hu
  · intro u hu
    simp at hu
    rcases hu with rfl | rfl <;> rfl
  · intro g cap w' how hgr hg hlt
    refine h _ w' ?_ hgr
    show w'.ownsRow base 23 1 _ (l ++ [y, y']).length ((l ++ [y, y']).map (Value.int .u32))
    rw [List.map_append, List.length_append]
    exact how

/-- The cells of an entry, the row's address known. -/
theorem RowX.cs5' {w : World} {b off n cap : Nat} {l : List En} (h : RowE w (.slice (some ⟨b, off, none⟩) n cap) l) {k : Nat} {x : En} (hx : l[k]? = some x) :
    b < w.heap.size ∧ w.cell? ⟨b, off + k * 5, none⟩ = some (.bool x.deny) ∧ w.cell? ⟨b, off + k * 5 + 1, none⟩ = some (.int .u32 x.rg.addr) ∧ w.cell? ⟨b, off + k * 5 + 2, none⟩ = some (.int .i64 x.rg.len) ∧ w.cell? ⟨b, off + k * 5 + 3, none⟩ = some (.int .i64 x.rg.ge) ∧ w.cell? ⟨b, off + k * 5 + 4, none⟩ = some (.int .i64 x.rg.le) := by
  obtain ⟨b', off', e, hb, h1⟩ := h.cs5 hx
  injection e with e
  injection e with e1 e2
  subst e1
  subst e2
  exact ⟨hb, h1⟩
theorem RowX.cs4' {w : World} {b off n cap : Nat} {l : List Rg} (h : RowG w (.slice (some ⟨b, off, none⟩) n cap) l) {k : Nat} {x : Rg} (hx : l[k]? = some x) :
    b < w.heap.size ∧ w.cell? ⟨b, off + k * 4, none⟩ = some (.int .u32 x.addr) ∧ w.cell? ⟨b, off + k * 4 + 1, none⟩ = some (.int .i64 x.len) ∧ w.cell? ⟨b, off + k * 4 + 2, none⟩ = some (.int .i64 x.ge) ∧ w.cell? ⟨b, off + k * 4 + 3, none⟩ = some (.int .i64 x.le) := by
  obtain ⟨b', off', e, hb, h1⟩ := h.cs4 hx
  injection e with e
  injection e with e1 e2
  subst e1
  subst e2
  exact ⟨hb, h1⟩

end Go.Proofs.Ytdilnelfkbeamaa
