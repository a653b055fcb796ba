/-
  Prefixes and ranges that came in by value, slices of entries and of ranges that came in: opened.
-/
import Derived.Test.YtdilnelfkbeamaaRow4
import Derived.Test.YtdilnelfkbeamaaMath3
import Derived.ProofKit
import Derived.Deep.Slices
import Derived.ChangeSlices
import Derived.Lib.SmallJoins
import Derived.SizedLaws
namespace Go.Proofs.Ytdilnelfkbeamaa
open Go.ChangeShapes Go.WideShapes Go.ChangeAt Go.RowKit

theorem own : ownKnob Try.prog.godebug = none := by kernel_rfl
theorem laidOut : laidOutB Try.prog = true := by kernel_rfl

theorem bounds_u32 {x : Int} (h : (Lit.int .u32 x).wf = true) : Num x := by
  simp [Lit.wf, IntKind.min, IntKind.max, IntKind.signed, IntKind.bits] at h
  exact ⟨by omega, by omega⟩

theorem add_none (b off j : Nat) : (⟨b, off, none⟩ : Addr).add j = ⟨b, off + j, none⟩ := by unfold Addr.add; split <;> simp_all

theorem list2 {α : Type} {cs : List α} (h : cs.length = 2) : ∃ a b, cs = [a, b] := by
  match cs, h with
  | [a, b], _ => exact ⟨a, b, rfl⟩
theorem list4 {α : Type} {cs : List α} (h : cs.length = 4) : ∃ a b c d, cs = [a, b, c, d] := by
  match cs, h with
  | [a, b, c, d], _ => exact ⟨a, b, c, d, rfl⟩
theorem list5 {α : Type} {cs : List α} (h : cs.length = 5) : ∃ a b c d e, cs = [a, b, c, d, e] := by
  match cs, h with
  | [a, b, c, d, e], _ => exact ⟨a, b, c, d, e, rfl⟩

section
variable {H : Type} {enc : TypeId × Value → H} {W : World}

theorem open25 {n : Nat} {cs : List Value} {y : DataW H × List MemPlace} (h : DataW.trod enc Try.prog W 0 (fun _ => true) true n 25 cs = some y) : ∃ x : Pf, cs = encP x ∧ Num x.addr := by
  have k23 : Try.prog.cellsOf 23 = 1 := by kernel_rfl
  have k3 : Try.prog.cellsOf 3 = 1 := by kernel_rfl
  obtain ⟨xs, m, _, _, hl, hlen, hfs⟩ := DataW.trod_struct Try.underlying25 h
  obtain ⟨c0, c1, rfl⟩ := list2 (hl.trans (by kernel_rfl))
  match xs, hlen with
  | [y0, y1], _ =>
    have t0 : DataW.trod enc Try.prog W 0 (fun _ => true) true m 23 [c0] = some y0 := by simpa [k23] using hfs 0 _ rfl
    have t1 : DataW.trod enc Try.prog W 0 (fun _ => true) true m 3 [c1] = some y1 := by simpa [k3] using hfs 1 _ rfl
    obtain ⟨x0, e0, _, w0⟩ := DataW.trod_int Try.underlying23 t0
    obtain ⟨x1, e1, _, w1⟩ := DataW.trod_int Try.underlying3 t1
    injection e0 with e0 _
    injection e1 with e1 _
    subst e0 e1
    exact ⟨⟨x0, x1⟩, rfl, bounds_u32 w0⟩

theorem open28 {n : Nat} {cs : List Value} {y : DataW H × List MemPlace} (h : DataW.trod enc Try.prog W 0 (fun _ => true) true n 28 cs = some y) : ∃ x : Rg, cs = encG x ∧ Num x.addr := by
  have k25 : Try.prog.cellsOf 25 = 2 := by kernel_rfl
  have k3 : Try.prog.cellsOf 3 = 1 := by kernel_rfl
  obtain ⟨xs, m, _, _, hl, hlen, hfs⟩ := DataW.trod_struct Try.underlying28 h
  obtain ⟨c0, c1, c2, c3, rfl⟩ := list4 (hl.trans (by kernel_rfl))
  match xs, hlen with
  | [y0, y1, y2], _ =>
    have t0 : DataW.trod enc Try.prog W 0 (fun _ => true) true m 25 [c0, c1] = some y0 := by simpa [k25] using hfs 0 _ rfl
    have t1 : DataW.trod enc Try.prog W 0 (fun _ => true) true m 3 [c2] = some y1 := by simpa [k3] using hfs 1 _ rfl
    have t2 : DataW.trod enc Try.prog W 0 (fun _ => true) true m 3 [c3] = some y2 := by simpa [k3] using hfs 2 _ rfl
    obtain ⟨⟨x0, x1⟩, e0, w0⟩ := open25 t0
    obtain ⟨x2, e2, _, w2⟩ := DataW.trod_int Try.underlying3 t1
    obtain ⟨x3, e3, _, w3⟩ := DataW.trod_int Try.underlying3 t2
    simp [encP] at e0
    obtain ⟨e0, e1⟩ := e0
    injection e2 with e2 _
    injection e3 with e3 _
    subst e0 e1 e2 e3
    exact ⟨⟨x0, x1, x2, x3⟩, rfl, w0⟩

theorem open30 {n : Nat} {cs : List Value} {y : DataW H × List MemPlace} (h : DataW.trod enc Try.prog W 0 (fun _ => true) true n 30 cs = some y) : ∃ x : En, cs = encE x ∧ Num x.rg.addr := by
  have k28 : Try.prog.cellsOf 28 = 4 := by kernel_rfl
  have k4 : Try.prog.cellsOf 4 = 1 := by kernel_rfl
  obtain ⟨xs, m, _, _, hl, hlen, hfs⟩ := DataW.trod_struct Try.underlying30 h
  obtain ⟨c0, c1, c2, c3, c4, rfl⟩ := list5 (hl.trans (by kernel_rfl))
  match xs, hlen with
  | [y0, y1], _ =>
    have t0 : DataW.trod enc Try.prog W 0 (fun _ => true) true m 4 [c0] = some y0 := by simpa [k4] using hfs 0 _ rfl
    have t1 : DataW.trod enc Try.prog W 0 (fun _ => true) true m 28 [c1, c2, c3, c4] = some y1 := by simpa [k28] using hfs 1 _ rfl
    obtain ⟨q, e0, _⟩ := DataW.trod_bool Try.underlying4 t0
    obtain ⟨⟨x0, x1, x2, x3⟩, e1, w1⟩ := open28 t1
    simp [encG] at e1
    obtain ⟨e1, e2, e3, e4⟩ := e1
    injection e0 with e0 _
    subst e0 e1 e2 e3 e4
    exact ⟨⟨q, x0, x1, x2, x3⟩, rfl, w1⟩

/-- A slice that came in, its elements opened one by one. -/
theorem open_row {α : Type} [Inhabited α] {f : α → List Value} {k : Nat} {good : α → Prop} {t e : TypeId} (ht : Try.prog.underlying t = some (.slice e)) (hk : Try.prog.cellsOf e = k) (hk0 : 0 < k)
    (elem : ∀ (n : Nat) (cs : List Value) (y : DataW H × List MemPlace), DataW.trod enc Try.prog W 0 (fun _ => true) true n e cs = some y → ∃ x : α, cs = f x ∧ good x)
    {v : Value} {fuel : Nat} {x : DataW H × List MemPlace} (h : DataW.trod enc Try.prog W 0 (fun _ => true) true fuel t [v] = some x) :
    ∃ l, RowX f k W v l ∧ (∀ x ∈ l, good x) ∧ ((x.1 = .nil ∧ l = []) ∨ ∃ es sp, x.1 = .slice es sp ∧ es.length = l.length) := by
  rcases Go.Deep.open_slice ht h with ⟨hcs, hxn⟩ | ⟨a, len, cap, m, n, D, Pl, hcs, _, hl, hm, hmm, hxe, hx⟩
  · injection hcs with hcs _
    subst hcs
    exact ⟨[], RowX.nil f k W, fun x hx => by simp at hx, Or.inl ⟨by rw [hxn], rfl⟩⟩
  · injection hcs with hcs _
    subst hcs
    simp only [if_true] at hmm
    subst hmm
    have each : ∀ i, i < len → ∃ p : α, good p ∧ (f p).length = k ∧ ∀ j, j < k → W.cell? ((a.add (i * k)).add j) = (f p)[j]? := fun i hi => by
      obtain ⟨cs', h1, h2⟩ := hx i (by omega)
      rw [hk] at h1
      obtain ⟨_, hlen, hcell⟩ := World.cells?_some h1
      obtain ⟨p, rfl, hp⟩ := elem n cs' _ h2
      exact ⟨p, hp, hlen, hcell⟩
    obtain ⟨g, hg⟩ := Go.Deep.choose_lt each
    refine ⟨(List.range len).map g, ⟨some a, m, by simp, fun hne => ?_, fun h => by cases h⟩, fun s hs => ?_, Or.inr ⟨_, _, by rw [hxe], by simp⟩⟩
    · have hlen : 0 < len := by
        rcases Nat.eq_zero_or_pos len with e | e
        · subst e; simp at hne
        · exact e
      obtain ⟨b, off, spot⟩ := a
      obtain ⟨_, hl0, hc0⟩ := hg 0 hlen
      have h0 := hc0 0 hk0
      obtain ⟨c, hc⟩ : ∃ c, (f (g 0))[0]? = some c := ⟨_, List.getElem?_eq_getElem (by omega)⟩
      rw [hc] at h0
      have hspot : spot = none := by
        have := World.cell?_spot h0
        simpa [Addr.add] using this
      subst hspot
      refine ⟨b, off, rfl, ?_, fun i x hx j c hc => ?_⟩
      · have := World.block_lt_of_cell? W _ h0
        rw [add_none, add_none] at this
        exact this
      · have hi : i < len := by
          have := (List.getElem?_eq_some_iff.1 hx).1
          simpa using this
        rw [List.getElem?_map, List.getElem?_range hi] at hx
        simp at hx
        subst hx
        obtain ⟨_, hl1, hc1⟩ := hg i hi
        have hj : j < k := by rw [← hl1]; exact (List.getElem?_eq_some_iff.1 hc).1
        have := hc1 j hj
        rw [add_none, add_none, hc] at this
        exact this
    · obtain ⟨i, hi, rfl⟩ := List.mem_map.1 hs
      exact (hg i (List.mem_range.1 hi)).1

theorem open_entries {r : Reach} {b0 : Nat} {v : Value} {d : DataW H} {p : List MemPlace} (hv : Value.okWide Try.prog W r b0 22 v) (h : DataW.Trod enc Try.prog W 0 (fun _ => true) true 22 v d p) : ∃ l, RowE W v l ∧ GoodE l ∧ ((d = .nil ∧ l = []) ∨ ∃ es sp, d = .slice es sp ∧ es.length = l.length) := by
  obtain ⟨a0, len0, cap0, rfl⟩ := okWide_slice Try.underlying22 hv
  obtain ⟨fuel, hf⟩ := h
  have : Inhabited En := ⟨⟨false, 0, 0, 0, 0⟩⟩
  exact open_row (k := 5) (good := fun x : En => Num x.rg.addr) Try.underlying22 (by kernel_rfl) (by decide) (fun n cs y h => open30 h) hf

theorem open_ranges {r : Reach} {b0 : Nat} {v : Value} {d : DataW H} {p : List MemPlace} (hv : Value.okWide Try.prog W r b0 37 v) (h : DataW.Trod enc Try.prog W 0 (fun _ => true) true 37 v d p) : ∃ l, RowG W v l ∧ GoodG l ∧ ((d = .nil ∧ l = []) ∨ ∃ es sp, d = .slice es sp ∧ es.length = l.length) := by
  obtain ⟨a0, len0, cap0, rfl⟩ := okWide_slice Try.underlying37 hv
  obtain ⟨fuel, hf⟩ := h
  have : Inhabited Rg := ⟨⟨0, 0, 0, 0⟩⟩
  exact open_row (k := 4) (good := fun x : Rg => Num x.addr) Try.underlying37 (by kernel_rfl) (by decide) (fun n cs y h => open28 h) hf

/-- A prefix that came in by value. -/
theorem open_prefix {r : Reach} {b0 : Nat} {v : Value} {d : DataW H} {p : List MemPlace} (hv : Value.okWide Try.prog W r b0 25 v) (h : DataW.Trod enc Try.prog W 0 (fun _ => true) true 25 v d p) : ∃ x : Pf, v = .agg #[.int .u32 x.addr, .int .i64 x.len] ∧ Num x.addr := by
  obtain ⟨cs, rfl, hsz⟩ := okWide_struct Try.underlying25 hv
  obtain ⟨fuel, hf⟩ := h
  obtain ⟨x, hx, hn⟩ := open25 hf
  refine ⟨x, ?_, hn⟩
  obtain ⟨l⟩ := cs
  have : l = encP x := by simpa [Value.cells] using hx
  rw [this]
  rfl

/-- A range that came in by value. -/
theorem open_range {r : Reach} {b0 : Nat} {v : Value} {d : DataW H} {p : List MemPlace} (hv : Value.okWide Try.prog W r b0 28 v) (h : DataW.Trod enc Try.prog W 0 (fun _ => true) true 28 v d p) : ∃ x : Rg, v = .agg #[.int .u32 x.addr, .int .i64 x.len, .int .i64 x.ge, .int .i64 x.le] ∧ Num x.addr := by
  obtain ⟨cs, rfl, hsz⟩ := okWide_struct Try.underlying28 hv
  obtain ⟨fuel, hf⟩ := h
  obtain ⟨x, hx, hn⟩ := open28 hf
  refine ⟨x, ?_, hn⟩
  obtain ⟨l⟩ := cs
  have : l = encG x := by simpa [Value.cells] using hx
  rw [this]
  rfl
end

/-- How long a slice of entries, or of ranges, that came in may be. -/
theorem entries_bound {H : Type} {ts : List TypeId} {ds : List (DataW H)} (h : (DataW.weightsEach Try.prog ts ds).all (· ≤ reachBytes) = true) {j : Nat} {d : DataW H} (ht : ts[j]? = some 22) (hd : ds[j]? = some d) {l : List En} (hl : (d = .nil ∧ l = []) ∨ ∃ es sp, d = .slice es sp ∧ es.length = l.length) :
    l.length < 4611686018427387904 := by
  rcases hl with ⟨_, rfl⟩ | ⟨es, sp, rfl, he⟩
  · simp
  · have hb : Try.prog.bytesOf 30 = 40 := by kernel_rfl
    have hr : reachBytes = 140737488351232 := rfl
    have := sized_slice h ht hd Try.underlying22
    rw [hb, hr, he] at this
    omega
theorem ranges_bound {H : Type} {ts : List TypeId} {ds : List (DataW H)} (h : (DataW.weightsEach Try.prog ts ds).all (· ≤ reachBytes) = true) {j : Nat} {d : DataW H} (ht : ts[j]? = some 37) (hd : ds[j]? = some d) {l : List Rg} (hl : (d = .nil ∧ l = []) ∨ ∃ es sp, d = .slice es sp ∧ es.length = l.length) :
    l.length < 4611686018427387904 := by
  rcases hl with ⟨_, rfl⟩ | ⟨es, sp, rfl, he⟩
  · simp
  · have hb : Try.prog.bytesOf 28 = 32 := by kernel_rfl
    have hr : reachBytes = 140737488351232 := rfl
    have := sized_slice h ht hd Try.underlying37
    rw [hb, hr, he] at this
    omega

end Go.Proofs.Ytdilnelfkbeamaa
