/-
  A slice of boxes that came in, opened: it holds a list of boxes whose numbers fit.
-/
import Derived.Test.YtepioggejacfjaaRow
import Derived.ProofKit
import Derived.Deep.SlicePairs
import Derived.Lib.SmallJoins
import Derived.SizedLaws
namespace Go.Proofs.Ytepioggejacfjaa
open Go.ChangeShapes Go.WideShapes Go.ChangeAt Go.RowKit

theorem own : ownKnob Try.prog.godebug = none := by kernel_rfl
theorem laidOut : laidOutB Try.prog = true := by kernel_rfl

theorem bounds_of_wf {x : Int} (h : (Lit.int .u32 x).wf = true) : 0 ≤ x ∧ x ≤ 4294967295 := by
  simp [Lit.wf, IntKind.min, IntKind.max, IntKind.signed, IntKind.bits] at h
  exact ⟨by omega, by omega⟩

theorem add_none (b off j : Nat) : (⟨b, off, none⟩ : Addr).add j = ⟨b, off + j, none⟩ := by unfold Addr.add; split <;> simp_all

theorem open_boxes {H : Type} {enc : TypeId × Value → H} {W : World} {v : Value} {fuel : Nat} {x : DataW H × List MemPlace}
    (h : DataW.trod enc Try.prog W 0 (fun _ => true) true fuel 22 [v] = some x) : ∃ l, Row2 W v l ∧ Good l ∧ ((x.1 = .nil ∧ l = []) ∨ ∃ es sp, x.1 = .slice es sp ∧ es.length = l.length) := by
  rcases Go.Deep.open_slice_pairs Try.underlying22 Try.underlying26 (by kernel_rfl) rfl rfl (by kernel_rfl) (by kernel_rfl) h with ⟨hcs, hxn⟩ | ⟨a, len, cap, m, n, V0, V1, D0, D1, P0, P1, hcs, _, hl, hm, hmm, hxe, hx⟩
  · injection hcs with hcs _
    subst hcs
    exact ⟨[], Row2.nil W, by simp [Good], Or.inl ⟨by rw [hxn], rfl⟩⟩
  · injection hcs with hcs _
    subst hcs
    simp only [if_true] at hmm
    subst hmm
    have each : ∀ i, i < len → ∃ p : Sp, W.cell? (a.add (i * 2)) = some (.int .u32 p.1) ∧ W.cell? (a.add (i * 2 + 1)) = some (.int .u32 p.2) ∧ (0 ≤ p.1 ∧ p.1 ≤ 4294967295 ∧ 0 ≤ p.2 ∧ p.2 ≤ 4294967295) := fun i hi => by
      obtain ⟨c1, c2, t1, t2⟩ := hx i (by omega)
      obtain ⟨y0, e0, _, w0⟩ := DataW.trod_int Try.underlying23 t1
      obtain ⟨y1, e1, _, w1⟩ := DataW.trod_int Try.underlying23 t2
      injection e0 with e0 _
      injection e1 with e1 _
      rw [e0] at c1
      rw [e1] at c2
      exact ⟨(y0, y1), c1, c2, (bounds_of_wf w0).1, (bounds_of_wf w0).2, (bounds_of_wf w1).1, (bounds_of_wf w1).2⟩
    obtain ⟨f, hf⟩ := Go.Deep.choose_lt each
    refine ⟨(List.range len).map f, ⟨some a, m, by simp, fun hne => ?_, fun h => by cases h⟩, fun s hs => ?_, Or.inr ⟨_, _, by rw [hxe], by simp⟩⟩
    · have hlen : 0 < len := by
        rcases Nat.eq_zero_or_pos len with e | e
        · subst e; simp at hne
        · exact e
      obtain ⟨b, off, spot⟩ := a
      have h0 := (hf 0 hlen).1
      have hspot : spot = none := by
        have := World.cell?_spot h0
        simpa [Addr.add] using this
      subst hspot
      refine ⟨b, off, rfl, ?_, fun i x hx => ?_⟩
      · have := World.block_lt_of_cell? W _ h0
        rw [add_none] at this
        exact this
      · have hi : i < len := by
          have := (List.getElem?_eq_some_iff.1 hx).1
          simpa using this
        rw [List.getElem?_map, List.getElem?_range hi] at hx
        simp at hx
        subst hx
        obtain ⟨c1, c2, _⟩ := hf i hi
        rw [add_none] at c1 c2
        exact ⟨c1, by rw [Nat.add_assoc]; exact c2⟩
    · obtain ⟨i, hi, rfl⟩ := List.mem_map.1 hs
      exact (hf i (List.mem_range.1 hi)).2.2

/-- A box that came in by value, opened. -/
theorem open_box {H : Type} {enc : TypeId × Value → H} {W : World} {r : Reach} {b0 : Nat} {v : Value} {d : DataW H} {p : List MemPlace} (hv : Value.okWide Try.prog W r b0 26 v) (h : DataW.Trod enc Try.prog W 0 (fun _ => true) true 26 v d p) :
    ∃ x : Sp, v = .agg #[.int .u32 x.1, .int .u32 x.2] ∧ d = .agg [.lit (.int .u32 x.1), .lit (.int .u32 x.2)] ∧ p = [] ∧ Bx x ∧ (Lit.int .u32 x.1).wf = true ∧ (Lit.int .u32 x.2).wf = true := by
  obtain ⟨v0, v1, y0, y1, n, rfl, rfl, rfl, t0, t1⟩ := Go.Joins.open_agg2 Try.underlying26 (by kernel_rfl) (by kernel_rfl) hv h
  obtain ⟨x0, e0, rfl, w0⟩ := DataW.trod_int Try.underlying23 t0
  obtain ⟨x1, e1, rfl, w1⟩ := DataW.trod_int Try.underlying23 t1
  injection e0 with e0 _
  injection e1 with e1 _
  subst e0
  subst e1
  exact ⟨(x0, x1), rfl, rfl, rfl, ⟨bounds_of_wf w0, bounds_of_wf w1⟩, w0, w1⟩

/-- .. and shut. -/
theorem shut_box {H : Type} {enc : TypeId × Value → H} {W : World} {base : Nat} {sp : Nat → Bool} {held : Bool} {x : Sp} (w0 : (Lit.int .u32 x.1).wf = true) (w1 : (Lit.int .u32 x.2).wf = true) :
    DataW.Trod enc Try.prog W base sp held 26 (.agg #[.int .u32 x.1, .int .u32 x.2]) (.agg [.lit (.int .u32 x.1), .lit (.int .u32 x.2)]) [] := by
  have t0 : ∃ n, DataW.trod enc Try.prog W base sp held n 23 [.int .u32 x.1] = some (.lit (.int .u32 x.1), []) := ⟨1, by simp [DataW.trod, Try.underlying23, w0]⟩
  have t1 : ∃ n, DataW.trod enc Try.prog W base sp held n 23 [.int .u32 x.2] = some (.lit (.int .u32 x.2), []) := ⟨1, by simp [DataW.trod, Try.underlying23, w1]⟩
  exact Go.Joins.shut_agg2 Try.underlying26 (by kernel_rfl) (by kernel_rfl) t0 t1

/-- How long a slice of boxes that came in may be. -/
theorem boxes_bound {H : Type} {ts : List TypeId} {ds : List (DataW H)} (h : (DataW.weightsEach Try.prog ts ds).all (· ≤ reachBytes) = true) {j : Nat} {d : DataW H} (ht : ts[j]? = some 22) (hd : ds[j]? = some d) {l : List Sp} (hl : (d = .nil ∧ l = []) ∨ ∃ es sp, d = .slice es sp ∧ es.length = l.length) :
    l.length * 8 ≤ 140737488351232 := by
  rcases hl with ⟨_, rfl⟩ | ⟨es, sp, rfl, he⟩
  · simp
  · have hb : Try.prog.bytesOf 26 = 8 := by kernel_rfl
    have hr : reachBytes = 140737488351232 := rfl
    have := sized_slice h ht hd Try.underlying22
    rw [hb, hr, he] at this
    omega

end Go.Proofs.Ytepioggejacfjaa
