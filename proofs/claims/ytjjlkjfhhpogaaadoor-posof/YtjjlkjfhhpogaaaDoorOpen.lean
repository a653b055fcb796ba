/-
  Patterns and paths that came in, opened: trees in memory, their lists bounded by their weights.
-/
import Derived.Test.YtjjlkjfhhpogaaaDoorTree
import Derived.Test.YtjjlkjfhhpogaaaDoorTx
import Derived.ProofKit
import Derived.Deep.Slices
import Derived.ChangeSlices
import Derived.Lib.SmallJoins
import Derived.SizedLaws
namespace Go.Proofs.YtjjlkjfhhpogaaaDoor
open Go.ChangeShapes Go.WideShapes Go.ChangeAt Go.RowKit

theorem own : ownKnob Tryd.prog.godebug = none := by kernel_rfl
theorem laidOut : laidOutB Tryd.prog = true := by kernel_rfl

theorem bounds_i64 {x : Int} (h : (Lit.int .i64 x).wf = true) : -9223372036854775808 ≤ x ∧ x ≤ 9223372036854775807 := by
  simp [Lit.wf, IntKind.min, IntKind.max, IntKind.signed, IntKind.bits] at h
  exact ⟨by omega, by omega⟩

theorem list2 {α : Type} {cs : List α} (h : cs.length = 2) : ∃ a b, cs = [a, b] := by
  match cs, h with
  | [a, b], _ => exact ⟨a, b, rfl⟩
theorem list3 {α : Type} {cs : List α} (h : cs.length = 3) : ∃ a b c, cs = [a, b, c] := by
  match cs, h with
  | [a, b, c], _ => exact ⟨a, b, c, rfl⟩

theorem okL_of_at : ∀ {ts : List Tree}, (∀ (i : Nat) (t : Tree), ts[i]? = some t → okT t) → okL ts
  | [], _ => okL_nil.2 trivial
  | t :: ts, h => (okL_cons _ _).2 ⟨h 0 t rfl, okL_of_at fun i s hs => h (i + 1) s (by simpa using hs)⟩
theorem goodL_of_at : ∀ {ts : List Tree}, (∀ (i : Nat) (t : Tree), ts[i]? = some t → goodT t) → goodL ts
  | [], _ => goodL_nil.2 trivial
  | t :: ts, h => (goodL_cons _ _).2 ⟨h 0 t rfl, goodL_of_at fun i s hs => h (i + 1) s (by simpa using hs)⟩
theorem bounds_u32 {x : Int} (h : (Lit.int .u32 x).wf = true) : 0 ≤ x ∧ x ≤ 4294967295 := by
  simp [Lit.wf, IntKind.min, IntKind.max, IntKind.signed, IntKind.bits] at h
  exact ⟨by omega, by omega⟩
def InU (x : Int × Int) : Prop := (0 ≤ x.1 ∧ x.1 ≤ 4294967295) ∧ 0 ≤ x.2 ∧ x.2 ≤ 4294967295
theorem HTs_of_at {w : World} : ∀ {l : List (Tree × PC)}, (∀ (i : Nat) (p : Tree × PC), l[i]? = some p → HT w p.1 p.2) → HTs w (l.map (·.1)) (l.map (·.2))
  | [], _ => (HTs_nil _ _).2 rfl
  | p :: l, h => (HTs_cons _ _ _ _).2 ⟨p.2, l.map (·.2), rfl, h 0 p rfl, HTs_of_at fun i s hs => h (i + 1) s (by simpa using hs)⟩
theorem RowX.map {α β : Type} {f : β → List Value} {g : α → β} {n : Nat} {w : World} {v : Value} {l : List α} (h : RowX (fun a => f (g a)) n w v l) : RowX f n w v (l.map g) := by
  obtain ⟨ao, cap, rfl, hc, hz⟩ := h
  refine ⟨ao, cap, by simp, fun hne => ?_, hz⟩
  obtain ⟨b, off, rfl, hb, hcell⟩ := hc (by intro e; subst e; simp at hne)
  refine ⟨b, off, rfl, hb, fun i x hx j c hc => ?_⟩
  rw [List.getElem?_map] at hx
  obtain ⟨a, ha, rfl⟩ := Option.map_eq_some_iff.1 hx
  exact hcell i a ha j c hc

theorem weights_mem_all {H : Type} {P : Program} {e : TypeId} : ∀ {ds : List (DataW H)} {j : Nat} {d : DataW H}, ds[j]? = some d → ∀ n ∈ d.weights P e, n ∈ DataW.weightsAll P e ds
  | d0 :: ds, 0, d, hd, n, hn => by
    simp only [List.getElem?_cons_zero, Option.some.injEq] at hd
    subst hd
    simp only [DataW.weightsAll, List.mem_append]
    exact Or.inl hn
  | d0 :: ds, j + 1, d, hd, n, hn => by
    simp only [List.getElem?_cons_succ] at hd
    simp only [DataW.weightsAll, List.mem_append]
    exact Or.inr (weights_mem_all hd n hn)
  | [], _, _, hd, _, _ => by simp at hd

section
variable {H : Type} {enc : TypeId × Value → H} {W : World}

/-- A slice that came in, its elements opened one by one. -/
theorem open_row {α : Type} [Inhabited α] {f : α → List Value} {k : Nat} {good : α → DataW H → Prop} {t e : TypeId} (ht : Tryd.prog.underlying t = some (.slice e)) (hk : Tryd.prog.cellsOf e = k) (hk0 : 0 < k) {fuel : Nat}
    (elem : ∀ (n : Nat) (cs : List Value) (y : DataW H × List MemPlace), n < fuel → DataW.trod enc Tryd.prog W 0 (fun _ => true) true n e cs = some y → ∃ x : α, cs = f x ∧ good x y.1)
    {v : Value} {x : DataW H × List MemPlace} (h : DataW.trod enc Tryd.prog W 0 (fun _ => true) true fuel t [v] = some x) :
    ∃ l, RowX f k W v l ∧ ((x.1 = .nil ∧ l = []) ∨ ∃ es sp, x.1 = .slice es sp ∧ es.length = l.length ∧ ∀ (i : Nat) (y : α), l[i]? = some y → ∃ d, es[i]? = some d ∧ good y d) := by
  rcases DataW.trod_slice ht h with ⟨hcs, hxn⟩ | ⟨a, len, cap, elems, rest, n, hfuel, hcs, hxe, _, hl, hm, hlen, hel, hsp, hns⟩
  · injection hcs with hcs _
    subst hcs
    exact ⟨[], RowX.nil f k W, Or.inl ⟨by rw [hxn], rfl⟩⟩
  · injection hcs with hcs _
    subst hcs
    have each : ∀ i, i < len → ∃ p : α, (∃ d, elems[i]? = some d ∧ good p d.1) ∧ (f p).length = k ∧ ∀ j, j < k → W.cell? ((a.add (i * k)).add j) = (f p)[j]? := fun i hi => by
      have h0 := hel i hi
      obtain ⟨y, hy⟩ : ∃ y, elems[i]? = some y := ⟨_, List.getElem?_eq_getElem (by omega)⟩
      rw [hy] at h0
      obtain ⟨cs', h1, h2⟩ := Option.bind_eq_some_iff.1 h0
      rw [hk] at h1
      obtain ⟨_, hlen, hcell⟩ := World.cells?_some h1
      obtain ⟨p, rfl, hp⟩ := elem n cs' _ (by omega) h2
      exact ⟨p, ⟨y, hy, hp⟩, hlen, hcell⟩
    obtain ⟨g, hg⟩ := Go.Deep.choose_lt each
    refine ⟨(List.range len).map g, ⟨some a, cap, by simp, fun hne => ?_, fun h => by cases h⟩, Or.inr ⟨elems.map (·.1), rest.map (·.1), by rw [hxe], by simp [hlen], fun i y hy => ?_⟩⟩
    · have hpos : 0 < len := by
        rcases Nat.eq_zero_or_pos len with e | e
        · subst e; simp at hne
        · exact e
      obtain ⟨b, off, spot⟩ := a
      obtain ⟨_, hl0, hc0⟩ := hg 0 hpos
      have h0 := hc0 0 hk0
      obtain ⟨c, hc⟩ : ∃ c, (f (g 0))[0]? = some c := ⟨_, List.getElem?_eq_getElem (by omega)⟩
      rw [hc] at h0
      have hspot : spot = none := by
        have := World.cell?_spot h0
        simpa [Addr.add] using this
      subst hspot
      refine ⟨b, off, rfl, ?_, fun i x hx j c hc => ?_⟩
      · have := World.block_lt_of_cell? W _ h0
        rw [add_none, add_none] at this
        exact this
      · have hi : i < len := by
          have := (List.getElem?_eq_some_iff.1 hx).1
          simpa using this
        rw [List.getElem?_map, List.getElem?_range hi] at hx
        simp at hx
        subst hx
        obtain ⟨_, hl1, hc1⟩ := hg i hi
        have hj : j < k := by rw [← hl1]; exact (List.getElem?_eq_some_iff.1 hc).1
        have := hc1 j hj
        rw [add_none, add_none, hc] at this
        exact this
    · have hi : i < len := by
        have := (List.getElem?_eq_some_iff.1 hy).1
        simpa using this
      rw [List.getElem?_map, List.getElem?_range hi] at hy
      simp at hy
      subst hy
      obtain ⟨⟨d, hd, hgd⟩, _⟩ := hg i hi
      exact ⟨d.1, by rw [List.getElem?_map, hd]; rfl, hgd⟩

theorem open39 {n : Nat} {cs : List Value} {y : DataW H × List MemPlace} (h : DataW.trod enc Tryd.prog W 0 (fun _ => true) true n 78 cs = some y) : ∃ x : Int × Int, cs = encS x ∧ InU x := by
  have k37 : Tryd.prog.cellsOf 43 = 1 := by kernel_rfl
  obtain ⟨xs, m, _, _, hl, hlen, hfs⟩ := DataW.trod_struct Tryd.underlying78 h
  obtain ⟨c0, c1, rfl⟩ := list2 (hl.trans (by kernel_rfl))
  match xs, hlen with
  | [y0, y1], _ =>
    have t0 : DataW.trod enc Tryd.prog W 0 (fun _ => true) true m 43 [c0] = some y0 := by simpa [k37] using hfs 0 _ rfl
    have t1 : DataW.trod enc Tryd.prog W 0 (fun _ => true) true m 43 [c1] = some y1 := by simpa [k37] using hfs 1 _ rfl
    obtain ⟨x0, e0, _, u0⟩ := DataW.trod_int Tryd.underlying43 t0
    obtain ⟨x1, e1, _, u1⟩ := DataW.trod_int Tryd.underlying43 t1
    injection e0 with e0 _
    injection e1 with e1 _
    subst e0 e1
    exact ⟨(x0, x1), rfl, bounds_u32 u0, bounds_u32 u1⟩

theorem open_pat : ∀ (fuel : Nat) {n : Nat} {cs : List Value} {y : DataW H × List MemPlace}, n ≤ fuel → DataW.trod enc Tryd.prog W 0 (fun _ => true) true n 25 cs = some y →
    ∃ p : Tree × PC, cs = encT p.2 ∧ ((HT W p.1 p.2 ∧ goodT p.1) ∧ ((∀ m ∈ y.1.weights Tryd.prog 25, m ≤ reachBytes) → okT p.1)) := by
  intro fuel
  induction fuel with
  | zero =>
    intro n cs y hn h
    obtain ⟨xs, m, hm, _⟩ := DataW.trod_struct Tryd.underlying25 h
    omega
  | succ fuel ih =>
    intro n cs y hn h
    have k3 : Tryd.prog.cellsOf 3 = 1 := by kernel_rfl
    have k22 : Tryd.prog.cellsOf 22 = 1 := by kernel_rfl
    have k23 : Tryd.prog.cellsOf 23 = 1 := by kernel_rfl
    have hb39 : Tryd.prog.bytesOf 78 = 8 := by kernel_rfl
    have hb25 : Tryd.prog.bytesOf 25 = 56 := by kernel_rfl
    have hr : reachBytes = 140737488351232 := rfl
    obtain ⟨xs, m, hm, hxe, hl, hlen, hfs⟩ := DataW.trod_struct Tryd.underlying25 h
    obtain ⟨c0, c1, c2, rfl⟩ := list3 (hl.trans (by kernel_rfl))
    match xs, hlen with
    | [y0, y1, y2], _ =>
      have t0 : DataW.trod enc Tryd.prog W 0 (fun _ => true) true m 3 [c0] = some y0 := by simpa [k3] using hfs 0 _ rfl
      have t1 : DataW.trod enc Tryd.prog W 0 (fun _ => true) true m 22 [c1] = some y1 := by simpa [k22] using hfs 1 _ rfl
      have t2 : DataW.trod enc Tryd.prog W 0 (fun _ => true) true m 23 [c2] = some y2 := by simpa [k23] using hfs 2 _ rfl
      obtain ⟨k, e0, _, _⟩ := DataW.trod_int Tryd.underlying3 t0
      injection e0 with e0 _
      subst e0
      obtain ⟨set, rowS, hS⟩ := open_row (α := Int × Int) (f := encS) (k := 2) (good := fun x _ => InU x) Tryd.underlying22 (by kernel_rfl) (by decide) (fun n cs y _ h => open39 h) t1
      have : Inhabited (Tree × PC) := ⟨(.mk 0 [] [], ⟨0, ⟨none, 0, 0⟩, ⟨none, 0, 0⟩⟩)⟩
      obtain ⟨ps, rowP, hP⟩ := open_row (α := Tree × PC) (f := fun p => encT p.2) (k := 3) (good := fun p d => (HT W p.1 p.2 ∧ goodT p.1) ∧ ((∀ m ∈ d.weights Tryd.prog 25, m ≤ reachBytes) → okT p.1)) Tryd.underlying23 (by kernel_rfl) (by decide) (fun n cs y hn h => ih (by omega) h) t2
      obtain ⟨sa, sc, rfl⟩ := rowS.form
      obtain ⟨ba, bc, rfl⟩ := rowP.form
      refine ⟨(.mk k set (ps.map (·.1)), ⟨k, ⟨sa, set.length, sc⟩, ⟨ba, ps.length, bc⟩⟩), rfl, ⟨(HT_mk _ _ _ _ _).2 ⟨rfl, rowS, ps.map (·.2), RowX.map (g := fun p : Tree × PC => p.2) rowP, HTs_of_at fun i p hp => ?_⟩, (goodT_mk _ _ _).2 ⟨fun x hx => ?_, goodL_of_at fun i t ht => ?_⟩⟩, fun hw => (okT_mk _ _ _).2 ⟨?_, ?_, ?_⟩⟩
      · rcases hP with ⟨_, rfl⟩ | ⟨es, sp, _, _, hgd⟩
        · simp at hp
        · obtain ⟨d, _, hd⟩ := hgd i p hp
          exact hd.1.1
      · rcases hS with ⟨_, rfl⟩ | ⟨es, sp, _, _, hgd⟩
        · simp at hx
        · obtain ⟨i, hi⟩ := List.mem_iff_getElem?.1 hx
          obtain ⟨d, _, hd⟩ := hgd i x hi
          exact ⟨hd.1.1, hd.1.2, hd.2.1, hd.2.2⟩
      · rw [List.getElem?_map] at ht
        obtain ⟨p, hp, rfl⟩ := Option.map_eq_some_iff.1 ht
        rcases hP with ⟨_, rfl⟩ | ⟨es, sp, _, _, hgd⟩
        · simp at hp
        · obtain ⟨d, _, hd⟩ := hgd i p hp
          exact hd.1.2
      · rcases hS with ⟨_, rfl⟩ | ⟨es, sp, he, hel, _⟩
        · simp
        · have h1 : (es.length + sp.length) * Tryd.prog.bytesOf 78 ∈ DataW.weights Tryd.prog 25 y.1 := by
            rw [hxe]
            unfold DataW.weights
            rw [Tryd.underlying25]
            refine DataW.weights_mem_each (j := 1) (t := 22) (d := y1.1) rfl rfl _ ?_
            rw [he]
            simp [DataW.weights, Tryd.underlying22]
          have := hw _ h1
          rw [hb39, hr] at this
          omega
      · rcases hP with ⟨_, rfl⟩ | ⟨es, sp, he, hel, _⟩
        · simp
        · have h1 : (es.length + sp.length) * Tryd.prog.bytesOf 25 ∈ DataW.weights Tryd.prog 25 y.1 := by
            rw [hxe]
            unfold DataW.weights
            rw [Tryd.underlying25]
            refine DataW.weights_mem_each (j := 2) (t := 23) (d := y2.1) rfl rfl _ ?_
            rw [he]
            simp [DataW.weights, Tryd.underlying23]
          have := hw _ h1
          rw [hb25, hr] at this
          simp
          omega
      · refine okL_of_at fun i t ht => ?_
        rw [List.getElem?_map] at ht
        obtain ⟨p, hp, rfl⟩ := Option.map_eq_some_iff.1 ht
        rcases hP with ⟨_, rfl⟩ | ⟨es, sp, he, hel, hgd⟩
        · simp at hp
        · obtain ⟨d, hd, _, hok⟩ := hgd i p hp
          refine hok fun q hq => hw q ?_
          rw [hxe]
          unfold DataW.weights
          rw [Tryd.underlying25]
          refine DataW.weights_mem_each (j := 2) (t := 23) (d := y2.1) rfl rfl _ ?_
          rw [he]
          simp only [DataW.weights, Tryd.underlying23]
          exact List.mem_cons_of_mem _ (List.mem_append_left _ (weights_mem_all hd q hq))

set_option maxRecDepth 100000 in
/-- A pattern that came in by value. -/
theorem open_pattern {r : Reach} {b0 : Nat} {v : Value} {d : DataW H} {p : List MemPlace} (hv : Value.okWide Tryd.prog W r b0 25 v) (h : DataW.Trod enc Tryd.prog W 0 (fun _ => true) true 25 v d p) :
    ∃ (t : Tree) (x : PC), v = x.v ∧ (HT W t x ∧ goodT t) ∧ ((∀ m ∈ d.weights Tryd.prog 25, m ≤ reachBytes) → okT t) := by
  obtain ⟨cs, rfl, hsz⟩ := okWide_struct Tryd.underlying25 hv
  obtain ⟨fuel, hf⟩ := h
  obtain ⟨⟨t, x⟩, hx, h1, h2⟩ := open_pat fuel (Nat.le_refl _) hf
  refine ⟨t, x, ?_, h1, h2⟩
  obtain ⟨l⟩ := cs
  have : l = encT x := by simpa [Value.cells] using hx
  rw [this]
  rfl

theorem open37 {n : Nat} {cs : List Value} {y : DataW H × List MemPlace} (h : DataW.trod enc Tryd.prog W 0 (fun _ => true) true n 43 cs = some y) : ∃ x : Int, cs = encN x ∧ 0 ≤ x ∧ x ≤ 4294967295 := by
  obtain ⟨x0, e0, _, u0⟩ := DataW.trod_int Tryd.underlying43 h
  exact ⟨x0, e0, bounds_u32 u0⟩
set_option maxRecDepth 100000 in
/-- A path that came in. -/
theorem open_path {r : Reach} {b0 : Nat} {v : Value} {d : DataW H} {p : List MemPlace} (hv : Value.okWide Tryd.prog W r b0 26 v) (h : DataW.Trod enc Tryd.prog W 0 (fun _ => true) true 26 v d p) : ∃ l, (RowN W v l ∧ ∀ n ∈ l, 0 ≤ n ∧ n ≤ 4294967295) ∧ ((∀ m ∈ d.weights Tryd.prog 26, m ≤ reachBytes) → l.length ≤ 4611686018427387903) := by
  obtain ⟨a0, len0, cap0, rfl⟩ := okWide_slice Tryd.underlying26 hv
  obtain ⟨fuel, hf⟩ := h
  obtain ⟨l, h1, h2⟩ := open_row (α := Int) (f := encN) (k := 1) (good := fun x _ => 0 ≤ x ∧ x ≤ 4294967295) Tryd.underlying26 (by kernel_rfl) (by decide) (fun n cs y _ h => open37 h) hf
  refine ⟨l, ⟨h1, fun n hn => ?_⟩, fun hw => ?_⟩
  · rcases h2 with ⟨_, rfl⟩ | ⟨es, sp, _, _, hg⟩
    · simp at hn
    · obtain ⟨i, hi⟩ := List.getElem?_of_mem hn
      obtain ⟨_, _, hb⟩ := hg i n hi
      exact hb
  rcases h2 with ⟨_, rfl⟩ | ⟨es, sp, rfl, he, _⟩
  · simp
  · have hb : Tryd.prog.bytesOf 43 = 4 := by kernel_rfl
    have hr : reachBytes = 140737488351232 := rfl
    have := hw ((es.length + sp.length) * Tryd.prog.bytesOf 43) (by simp [DataW.weights, Tryd.underlying26])
    rw [hb, hr] at this
    omega
end

theorem weighed {H : Type} {ts : List TypeId} {ds : List (DataW H)} (h : (DataW.weightsEach Tryd.prog ts ds).all (· ≤ reachBytes) = true) {j : Nat} {t : TypeId} {d : DataW H} (ht : ts[j]? = some t) (hd : ds[j]? = some d) : ∀ m ∈ d.weights Tryd.prog t, m ≤ reachBytes := fun m hm => by
  have := List.all_eq_true.1 h _ (DataW.weights_mem_each ht hd _ hm)
  simpa using this

end Go.Proofs.YtjjlkjfhhpogaaaDoor
