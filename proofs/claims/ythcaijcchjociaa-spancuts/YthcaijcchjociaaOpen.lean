/-
  A slice of spans that came in, opened: it holds a list of spans whose numbers fit.
-/
import Derived.Test.YthcaijcchjociaaRow
import Derived.ProofKit
import Derived.Deep.SlicePairs
namespace Go.Proofs.Ythcaijcchjociaa
open Go.ChangeShapes Go.WideShapes Go.ChangeAt Go.RowKit

theorem own : ownKnob Try.prog.godebug = none := by kernel_rfl
theorem laidOut : laidOutB Try.prog = true := by kernel_rfl

theorem bounds_of_wf {x : Int} (h : (Lit.int .u32 x).wf = true) : 0 ≤ x ∧ x ≤ 4294967295 := by
  simp [Lit.wf, IntKind.min, IntKind.max, IntKind.signed, IntKind.bits] at h
  exact ⟨by omega, by omega⟩

theorem add_none (b off j : Nat) : (⟨b, off, none⟩ : Addr).add j = ⟨b, off + j, none⟩ := by unfold Addr.add; split <;> simp_all

theorem open_spans {H : Type} {enc : TypeId × Value → H} {W : World} {v : Value} {fuel : Nat} {x : DataW H × List MemPlace}
    (h : DataW.trod enc Try.prog W 0 (fun _ => true) true fuel 22 [v] = some x) : ∃ l, Row2 W v l ∧ Good l := by
  rcases Go.Deep.open_slice_pairs Try.underlying22 Try.underlying35 (by kernel_rfl) rfl rfl (by kernel_rfl) (by kernel_rfl) h with ⟨hcs, _⟩ | ⟨a, len, cap, m, n, V0, V1, D0, D1, P0, P1, hcs, _, hl, hm, hmm, _, hx⟩
  · injection hcs with hcs _
    subst hcs
    exact ⟨[], Row2.nil W, by simp [Good]⟩
  · injection hcs with hcs _
    subst hcs
    simp only [if_true] at hmm
    subst hmm
    have each : ∀ i, i < len → ∃ p : Sp, W.cell? (a.add (i * 2)) = some (.int .u32 p.1) ∧ W.cell? (a.add (i * 2 + 1)) = some (.int .u32 p.2) ∧ (0 ≤ p.1 ∧ p.1 ≤ 4294967295 ∧ 0 ≤ p.2 ∧ p.2 ≤ 4294967295) := fun i hi => by
      obtain ⟨c1, c2, t1, t2⟩ := hx i (by omega)
      obtain ⟨y0, e0, _, w0⟩ := DataW.trod_int Try.underlying23 t1
      obtain ⟨y1, e1, _, w1⟩ := DataW.trod_int Try.underlying23 t2
      injection e0 with e0 _
      injection e1 with e1 _
      rw [e0] at c1
      rw [e1] at c2
      exact ⟨(y0, y1), c1, c2, (bounds_of_wf w0).1, (bounds_of_wf w0).2, (bounds_of_wf w1).1, (bounds_of_wf w1).2⟩
    obtain ⟨f, hf⟩ := Go.Deep.choose_lt each
    refine ⟨(List.range len).map f, ⟨some a, m, by simp, fun hne => ?_, fun h => by cases h⟩, fun s hs => ?_⟩
    · have hlen : 0 < len := by
        rcases Nat.eq_zero_or_pos len with e | e
        · subst e; simp at hne
        · exact e
      obtain ⟨b, off, spot⟩ := a
      have h0 := (hf 0 hlen).1
      have hspot : spot = none := by
        have := World.cell?_spot h0
        simpa [Addr.add] using this
      subst hspot
      refine ⟨b, off, rfl, ?_, fun i x hx => ?_⟩
      · have := World.block_lt_of_cell? W _ h0
        rw [add_none] at this
        exact this
      · have hi : i < len := by
          have := (List.getElem?_eq_some_iff.1 hx).1
          simpa using this
        rw [List.getElem?_map, List.getElem?_range hi] at hx
        simp at hx
        subst hx
        obtain ⟨c1, c2, _⟩ := hf i hi
        rw [add_none] at c1 c2
        exact ⟨c1, by rw [Nat.add_assoc]; exact c2⟩
    · obtain ⟨i, hi, rfl⟩ := List.mem_map.1 hs
      exact (hf i (List.mem_range.1 hi)).2.2

end Go.Proofs.Ythcaijcchjociaa
