/-
  The walk of laid: a right pattern laid at a path.
  The walks of Match and Empty.
-/
import Derived.Test.YtjjlkjfhhpogaaaDoorE6
import Derived.Deep.DeepCutAuto
namespace Go.Proofs.YtjjlkjfhhpogaaaDoor
open Go.RowKit

theorem made_rows {α : Type} {f : α → List Value} {n : Nat} (hf : ∀ x, (f x).length = n) (hn : 0 < n) (x : α) (zs : Array Value) (hz : zs.toList = f x) (N : Nat) : madeCells zs (N * n) = (cellsOf f (List.replicate N x)).toArray := by
  have hs : zs.size = n := by rw [← Array.length_toList, hz, hf]
  apply Array.ext_getElem?
  intro i
  by_cases hi : i < N * n
  · have h1 : i / n < N := (Nat.div_lt_iff_lt_mul hn).2 hi
    have h2 : i % n < n := Nat.mod_lt _ hn
    have h3 : i / n * n + i % n = i := by rw [Nat.mul_comm]; exact Nat.div_add_mod i n
    have h4 := cellsOf_at hf (List.replicate N x) (i / n) x (by simp [h1]) (i % n) (zs[i % n]!) (by
      rw [← hz, Array.getElem?_toList, getElem!_pos zs (i % n) (by omega)]
      exact Array.getElem?_eq_getElem (by omega))
    rw [h3] at h4
    have h5 : (cellsOf f (List.replicate N x)).toArray[i]? = some (zs[i % n]!) := by rw [List.getElem?_toArray]; exact h4
    rw [h5]
    simp [madeCells, hs, hi]
  · rw [Array.getElem?_eq_none (by rw [size_madeCells]; omega), Array.getElem?_eq_none (by simp [cellsOf_length hf]; omega)]

theorem info70 : (Tryd.prog.info? 70).map (fun i => (i.zero.map Value.cells, i.size, i.bytes)) = some (some (encP PV.zero).toArray, 11, 120) := by kernel_rfl
theorem info67 : (Tryd.prog.info? 67).map (fun i => (i.zero, i.size, i.bytes)) = some (some (.agg #[.int .u64 0, .int .u64 0, .int .u64 0, .int .u64 0]), 4, 32) := by kernel_rfl

theorem make53 (N : Nat) (hN : N ≤ 200) (W : World) : (Instr.makeSlice 64 (.int .i64 N) (.int .i64 N)).run Tryd.prog W = .ok (.slice (some ⟨W.heap.size, 0, none⟩) N N) (W.alloc (.cells (prow (List.replicate N PV.zero)) 70)) := by
  obtain ⟨i, z, hi, hz, hzc, hz1, hz2⟩ : ∃ i z, Tryd.prog.info? 70 = some i ∧ i.zero = some z ∧ z.cells = (encP PV.zero).toArray ∧ i.size = 11 ∧ i.bytes = 120 := by
    have h := info70
    cases hi : Tryd.prog.info? 70 with
    | none => rw [hi] at h; cases h
    | some i =>
      rw [hi] at h
      simp only [Option.map_some, Option.some.injEq, Prod.mk.injEq] at h
      obtain ⟨h1, h2, h3⟩ := h
      cases hz : i.zero with
      | none => rw [hz] at h1; cases h1
      | some z =>
        rw [hz] at h1
        simp only [Option.map_some, Option.some.injEq] at h1
        exact ⟨i, z, rfl, hz, h1, h2, h3⟩
  have := run_make (P := Tryd.prog) W 64 70 i _ Tryd.underlying64 hi hz .i64 .i64 N N (by omega) (by omega) (by rw [hz2]; omega) (by omega)
  rw [this, hz1, hzc]
  exact congrArg (fun c => Result.ok (Value.slice (some ⟨W.heap.size, 0, none⟩) N N) (W.alloc (.cells c 70))) (made_rows encP_len (by omega) PV.zero _ rfl N)
theorem make50 (N : Nat) (hN : N ≤ 256) (W : World) : (Instr.makeSlice 68 (.int .i64 N) (.int .i64 N)).run Tryd.prog W = .ok (.slice (some ⟨W.heap.size, 0, none⟩) N N) (W.alloc (.cells (lrow (List.replicate N Pl.zero)) 67)) := by
  obtain ⟨i, hi, hz, hz1, hz2⟩ := info_parts info67
  have := run_make (P := Tryd.prog) W 68 67 i _ Tryd.underlying68 hi hz .i64 .i64 N N (by omega) (by omega) (by rw [hz2]; omega) (by omega)
  rw [this, hz1]
  exact congrArg (fun c => Result.ok (Value.slice (some ⟨W.heap.size, 0, none⟩) N N) (W.alloc (.cells c 67))) (made_rows encL_len (by omega) Pl.zero _ rfl N)

abbrev pvv (x : PV) : Value := .agg #[.int .i64 x.k, .slice x.sub.a x.sub.n x.sub.c, .int .u64 (u x.tk.a), .int .u64 (u x.tk.b), .int .u64 (u x.tk.c), .int .u64 (u x.tk.d), .slice x.st.a x.st.n x.st.c, .int .u64 (u x.ak.a), .int .u64 (u x.ak.b), .int .u64 (u x.ak.c), .int .u64 (u x.ak.d)]

/-- A part laid: in new memory. -/
def PostD (l : List Int) (t : Tree) (w : World) (e : Ending) (w' : World) : Prop :=
  ∃ r : PV, e = .returned (pvv r) ∧ PT w' l t w.heap.size w'.heap.size r ∧ Gr w w'

/-- Between the rounds over the parts. -/
structure LIL (l : List Int) (w : World) (x : PC) (subs : List Tree) (N sb b5 j : Nat) (done : List PV) (W : World) : Prop where
  gr : Gr w W
  box : Blk W w.heap.size (encT x).toArray 25
  res : Blk W (w.heap.size + 1) (prow [PV.zero]) 70
  me : Blk W b5 (prow [⟨x.k, ⟨some ⟨sb, 0, none⟩, N, N⟩, .zero, ⟨none, 0, 0⟩, .zero⟩]) 70
  row : Blk W sb (prow (done ++ List.replicate (N - j) PV.zero)) 70
  pts : PTs W l (subs.take j) (w.heap.size + 4) W.heap.size done
  p1 : sb = w.heap.size + 2 ∨ sb = w.heap.size + 3
  p2 : b5 = w.heap.size + 2 ∨ b5 = w.heap.size + 3
  p3 : sb ≠ b5
  sz : w.heap.size + 4 ≤ W.heap.size

theorem blk_one {w : World} {b i : Nat} {rows : List PV} {x0 x y : PV} (hx : rows[i]? = some x0) (h : Blk w b (prow (rows.set i x)) 70) (j : Nat) (v : Value) (hv : encP y = (encP x).set j v) (hj : j < 11) : Blk (w.setCell ⟨b, i * 11 + j, none⟩ v) b (prow (rows.set i y)) 70 := by
  have h1 := h.set (i * 11 + j) v
  rw [prow_set (set_same (y := x) hx) (y := y) j v hv hj, List.set_set] at h1
  exact h1
/-- A part stored whole. -/
theorem blk_put {w : World} {b i : Nat} {rows : List PV} {x : PV} (h : Blk w b (prow rows) 70) (hx : rows[i]? = some x) (y : PV) :
    Blk (((((((((((w.setCell ⟨b, i * 11, none⟩ (.int .i64 y.k)).setCell ⟨b, i * 11 + 1, none⟩ (.slice y.sub.a y.sub.n y.sub.c)).setCell ⟨b, i * 11 + 2, none⟩ (.int .u64 (u y.tk.a))).setCell ⟨b, i * 11 + 3, none⟩ (.int .u64 (u y.tk.b))).setCell ⟨b, i * 11 + 4, none⟩ (.int .u64 (u y.tk.c))).setCell ⟨b, i * 11 + 5, none⟩ (.int .u64 (u y.tk.d))).setCell ⟨b, i * 11 + 6, none⟩ (.slice y.st.a y.st.n y.st.c)).setCell ⟨b, i * 11 + 7, none⟩ (.int .u64 (u y.ak.a))).setCell ⟨b, i * 11 + 8, none⟩ (.int .u64 (u y.ak.b))).setCell ⟨b, i * 11 + 9, none⟩ (.int .u64 (u y.ak.c))).setCell ⟨b, i * 11 + 10, none⟩ (.int .u64 (u y.ak.d))) b (prow (rows.set i y)) 70 := by
  rw [← set_id hx] at h
  have h0 := blk_one hx h (y := ⟨y.k, x.sub, x.tk, x.st, x.ak⟩) 0 (.int .i64 y.k) rfl (by omega)
  have h1 := blk_one hx h0 (y := ⟨y.k, y.sub, x.tk, x.st, x.ak⟩) 1 (.slice y.sub.a y.sub.n y.sub.c) rfl (by omega)
  have h2 := blk_one hx h1 (y := ⟨y.k, y.sub, ⟨y.tk.a, x.tk.b, x.tk.c, x.tk.d⟩, x.st, x.ak⟩) 2 (.int .u64 (u y.tk.a)) rfl (by omega)
  have h3 := blk_one hx h2 (y := ⟨y.k, y.sub, ⟨y.tk.a, y.tk.b, x.tk.c, x.tk.d⟩, x.st, x.ak⟩) 3 (.int .u64 (u y.tk.b)) rfl (by omega)
  have h4 := blk_one hx h3 (y := ⟨y.k, y.sub, ⟨y.tk.a, y.tk.b, y.tk.c, x.tk.d⟩, x.st, x.ak⟩) 4 (.int .u64 (u y.tk.c)) rfl (by omega)
  have h5 := blk_one hx h4 (y := ⟨y.k, y.sub, ⟨y.tk.a, y.tk.b, y.tk.c, y.tk.d⟩, x.st, x.ak⟩) 5 (.int .u64 (u y.tk.d)) rfl (by omega)
  have h6 := blk_one hx h5 (y := ⟨y.k, y.sub, y.tk, y.st, x.ak⟩) 6 (.slice y.st.a y.st.n y.st.c) rfl (by omega)
  have h7 := blk_one hx h6 (y := ⟨y.k, y.sub, y.tk, y.st, ⟨y.ak.a, x.ak.b, x.ak.c, x.ak.d⟩⟩) 7 (.int .u64 (u y.ak.a)) rfl (by omega)
  have h8 := blk_one hx h7 (y := ⟨y.k, y.sub, y.tk, y.st, ⟨y.ak.a, y.ak.b, x.ak.c, x.ak.d⟩⟩) 8 (.int .u64 (u y.ak.b)) rfl (by omega)
  have h9 := blk_one hx h8 (y := ⟨y.k, y.sub, y.tk, y.st, ⟨y.ak.a, y.ak.b, y.ak.c, x.ak.d⟩⟩) 9 (.int .u64 (u y.ak.c)) rfl (by omega)
  have h10 := blk_one hx h9 (y := y) 10 (.int .u64 (u y.ak.d)) rfl (by omega)
  exact h10
theorem blk_put0 {w : World} {b : Nat} {x : PV} (h : Blk w b (prow [x]) 70) (y : PV) :
    Blk (((((((((((w.setCell ⟨b, 0, none⟩ (.int .i64 y.k)).setCell ⟨b, 1, none⟩ (.slice y.sub.a y.sub.n y.sub.c)).setCell ⟨b, 2, none⟩ (.int .u64 (u y.tk.a))).setCell ⟨b, 3, none⟩ (.int .u64 (u y.tk.b))).setCell ⟨b, 4, none⟩ (.int .u64 (u y.tk.c))).setCell ⟨b, 5, none⟩ (.int .u64 (u y.tk.d))).setCell ⟨b, 6, none⟩ (.slice y.st.a y.st.n y.st.c)).setCell ⟨b, 7, none⟩ (.int .u64 (u y.ak.a))).setCell ⟨b, 8, none⟩ (.int .u64 (u y.ak.b))).setCell ⟨b, 9, none⟩ (.int .u64 (u y.ak.c))).setCell ⟨b, 10, none⟩ (.int .u64 (u y.ak.d))) b (prow [y]) 70 :=
  blk_put (i := 0) h rfl y
/-- A part stored in its places. -/
theorem blk_takes {w : World} {b : Nat} {x : PV} (h : Blk w b (prow [x]) 70) (q : Pl) :
    Blk ((((w.setCell ⟨b, 2, none⟩ (.int .u64 (u q.a))).setCell ⟨b, 3, none⟩ (.int .u64 (u q.b))).setCell ⟨b, 4, none⟩ (.int .u64 (u q.c))).setCell ⟨b, 5, none⟩ (.int .u64 (u q.d))) b (prow [⟨x.k, x.sub, q, x.st, x.ak⟩]) 70 := by
  have hx : ([x] : List PV)[0]? = some x := rfl
  rw [← set_id hx] at h
  have h2 := blk_one hx h (y := ⟨x.k, x.sub, ⟨q.a, x.tk.b, x.tk.c, x.tk.d⟩, x.st, x.ak⟩) 2 (.int .u64 (u q.a)) rfl (by omega)
  have h3 := blk_one hx h2 (y := ⟨x.k, x.sub, ⟨q.a, q.b, x.tk.c, x.tk.d⟩, x.st, x.ak⟩) 3 (.int .u64 (u q.b)) rfl (by omega)
  have h4 := blk_one hx h3 (y := ⟨x.k, x.sub, ⟨q.a, q.b, q.c, x.tk.d⟩, x.st, x.ak⟩) 4 (.int .u64 (u q.c)) rfl (by omega)
  have h5 := blk_one hx h4 (y := ⟨x.k, x.sub, q, x.st, x.ak⟩) 5 (.int .u64 (u q.d)) rfl (by omega)
  exact h5
/-- Eleven stores. -/
theorem gr_put {a w : World} (h : Gr a w) {b : Nat} (hb : a.heap.size ≤ b) (o0 o1 o2 o3 o4 o5 o6 o7 o8 o9 o10 : Nat) (v0 v1 v2 v3 v4 v5 v6 v7 v8 v9 v10 : Value) :
    Gr a (((((((((((w.setCell ⟨b, o0, none⟩ v0).setCell ⟨b, o1, none⟩ v1).setCell ⟨b, o2, none⟩ v2).setCell ⟨b, o3, none⟩ v3).setCell ⟨b, o4, none⟩ v4).setCell ⟨b, o5, none⟩ v5).setCell ⟨b, o6, none⟩ v6).setCell ⟨b, o7, none⟩ v7).setCell ⟨b, o8, none⟩ v8).setCell ⟨b, o9, none⟩ v9).setCell ⟨b, o10, none⟩ v10) :=
  ((((((((((h.setCell hb v0).setCell hb v1).setCell hb v2).setCell hb v3).setCell hb v4).setCell hb v5).setCell hb v6).setCell hb v7).setCell hb v8).setCell hb v9).setCell hb v10
theorem put_block (w : World) {b g : Nat} (hg : g ≠ b) (o0 o1 o2 o3 o4 o5 o6 o7 o8 o9 o10 : Nat) (v0 v1 v2 v3 v4 v5 v6 v7 v8 v9 v10 : Value) :
    ((((((((((((w.setCell ⟨b, o0, none⟩ v0).setCell ⟨b, o1, none⟩ v1).setCell ⟨b, o2, none⟩ v2).setCell ⟨b, o3, none⟩ v3).setCell ⟨b, o4, none⟩ v4).setCell ⟨b, o5, none⟩ v5).setCell ⟨b, o6, none⟩ v6).setCell ⟨b, o7, none⟩ v7).setCell ⟨b, o8, none⟩ v8).setCell ⟨b, o9, none⟩ v9).setCell ⟨b, o10, none⟩ v10)).heap[g]? = w.heap[g]? := by
  rw [Below.heap_setCell _ _ _ _ hg, Below.heap_setCell _ _ _ _ hg, Below.heap_setCell _ _ _ _ hg, Below.heap_setCell _ _ _ _ hg, Below.heap_setCell _ _ _ _ hg, Below.heap_setCell _ _ _ _ hg, Below.heap_setCell _ _ _ _ hg, Below.heap_setCell _ _ _ _ hg, Below.heap_setCell _ _ _ _ hg, Below.heap_setCell _ _ _ _ hg, Below.heap_setCell _ _ _ _ hg]
theorem set_size (w : World) (p : Addr) (v : Value) : (w.setCell p v).heap.size = w.heap.size := by simp
theorem put_size (w : World) {b : Nat} (o0 o1 o2 o3 o4 o5 o6 o7 o8 o9 o10 : Nat) (v0 v1 v2 v3 v4 v5 v6 v7 v8 v9 v10 : Value) :
    ((((((((((((w.setCell ⟨b, o0, none⟩ v0).setCell ⟨b, o1, none⟩ v1).setCell ⟨b, o2, none⟩ v2).setCell ⟨b, o3, none⟩ v3).setCell ⟨b, o4, none⟩ v4).setCell ⟨b, o5, none⟩ v5).setCell ⟨b, o6, none⟩ v6).setCell ⟨b, o7, none⟩ v7).setCell ⟨b, o8, none⟩ v8).setCell ⟨b, o9, none⟩ v9).setCell ⟨b, o10, none⟩ v10)).heap.size = w.heap.size := by
  simp only [set_size]

theorem PT.low {w : World} {l : List Int} : ∀ {t : Tree} {lo lo0 hi : Nat} {x : PV}, PT w l t lo hi x → lo0 ≤ lo → PT w l t lo0 hi x
  | .mk k set subs, lo, lo0, hi, x, h, hl => by
    obtain ⟨h1, h2, sb, lo', hi', rows, h3, h4, h5⟩ := (PT_mk _ _ _ _ _ _ _ _).1 h
    exact (PT_mk _ _ _ _ _ _ _ _).2 ⟨h1, h2, sb, lo', hi', rows, h3, by omega, h5⟩
theorem PTs.raise {w : World} {l : List Int} : ∀ {ts : List Tree} {lo hi hi' : Nat} {rs : List PV}, PTs w l ts lo hi rs → hi ≤ hi' → PTs w l ts lo hi' rs
  | [], lo, hi, hi', rs, h, hh => by
    obtain ⟨rfl, h2⟩ := (PTs_nil _ _ _ _ _).1 h
    exact (PTs_nil _ _ _ _ _).2 ⟨rfl, by omega⟩
  | t0 :: ts, lo, hi, hi', rs, h, hh => by
    obtain ⟨r0, rest, m, rfl, k1, k2, k3, k4⟩ := (PTs_cons _ _ _ _ _ _ _).1 h
    exact (PTs_cons _ _ _ _ _ _ _).2 ⟨r0, rest, m, rfl, k1, by omega, k3, PTs.raise k4 hh⟩

theorem LIL.len {l : List Int} {w : World} {x : PC} {subs : List Tree} {N sb b5 j : Nat} {done : List PV} {W : World} (h : LIL l w x subs N sb b5 j done W) (hj : j ≤ subs.length) : done.length = j := by
  have := h.pts.len
  simp at this
  omega
theorem LIL.at_ {l : List Int} {w : World} {x : PC} {subs : List Tree} {N sb b5 j : Nat} {done : List PV} {W : World} (h : LIL l w x subs N sb b5 j done W) (hj : j < N) (hN : N = subs.length) : (done ++ List.replicate (N - j) PV.zero)[j]? = some PV.zero := by
  have := h.len (by omega)
  rw [List.getElem?_append_right (by omega), this, Nat.sub_self, List.getElem?_replicate]
  simp
  omega

theorem LIL.put {l : List Int} {w : World} {x : PC} {subs : List Tree} {N sb b5 j : Nat} {done : List PV} {W W4 : World} (h : LIL l w x subs N sb b5 j done W) (hj : j < N) (hN : N = subs.length) {s : Tree} (hs : subs[j]? = some s) {lo4 : Nat} {y : PV} (hlo : W.heap.size ≤ lo4) (pt : PT W4 l s lo4 W4.heap.size y) (g : Gr W W4) :
    LIL l w x subs N sb b5 (j + 1) (done ++ [y]) (((((((((((W4.setCell ⟨sb, j * 11, none⟩ (.int .i64 y.k)).setCell ⟨sb, j * 11 + 1, none⟩ (.slice y.sub.a y.sub.n y.sub.c)).setCell ⟨sb, j * 11 + 2, none⟩ (.int .u64 (u y.tk.a))).setCell ⟨sb, j * 11 + 3, none⟩ (.int .u64 (u y.tk.b))).setCell ⟨sb, j * 11 + 4, none⟩ (.int .u64 (u y.tk.c))).setCell ⟨sb, j * 11 + 5, none⟩ (.int .u64 (u y.tk.d))).setCell ⟨sb, j * 11 + 6, none⟩ (.slice y.st.a y.st.n y.st.c)).setCell ⟨sb, j * 11 + 7, none⟩ (.int .u64 (u y.ak.a))).setCell ⟨sb, j * 11 + 8, none⟩ (.int .u64 (u y.ak.b))).setCell ⟨sb, j * 11 + 9, none⟩ (.int .u64 (u y.ak.c))).setCell ⟨sb, j * 11 + 10, none⟩ (.int .u64 (u y.ak.d))) := by
  have hsb : w.heap.size + 2 ≤ sb ∧ sb < w.heap.size + 4 := by have := h.p1; omega
  have hb5 : w.heap.size + 2 ≤ b5 ∧ b5 < w.heap.size + 4 := by have := h.p2; omega
  have h3 := h.p3
  have hsz := h.sz
  have hg := g.below.size
  have hdl := h.len (by omega)
  refine ⟨gr_put (h.gr.trans g) (by omega) _ _ _ _ _ _ _ _ _ _ _ _ _ _ _ _ _ _ _ _ _ _, (put_block _ (by omega) _ _ _ _ _ _ _ _ _ _ _ _ _ _ _ _ _ _ _ _ _ _).trans (h.box.gr g), (put_block _ (by omega) _ _ _ _ _ _ _ _ _ _ _ _ _ _ _ _ _ _ _ _ _ _).trans (h.res.gr g), (put_block _ (by omega) _ _ _ _ _ _ _ _ _ _ _ _ _ _ _ _ _ _ _ _ _ _).trans (h.me.gr g), ?_, ?_, h.p1, h.p2, h.p3, by rw [put_size]; omega⟩
  · have := blk_put (h.row.gr g) (h.at_ hj hN) y
    have e : (done ++ List.replicate (N - j) PV.zero).set j y = (done ++ [y]) ++ List.replicate (N - (j + 1)) PV.zero := by
      rw [List.set_append_right _ _ (by omega), hdl, Nat.sub_self]
      have e2 : N - j = (N - (j + 1)) + 1 := by omega
      rw [e2, List.replicate_succ]
      simp
    rw [e] at this
    exact this
  · have hj' : j < subs.length := by omega
    have e : subs.take (j + 1) = subs.take j ++ [s] := by
      rw [List.take_succ_eq_append_getElem hj']
      rw [List.getElem?_eq_getElem hj'] at hs
      injection hs with hs
      rw [hs]
    rw [e, put_size]
    have hp1 : PTs W4 l (subs.take j) (w.heap.size + 4) W.heap.size done := h.pts.same fun g1 _ h2 => g.below.block g1 h2
    have hp2 := PTs.snoc hp1 (by omega) (PT.low pt hlo)
    exact hp2.same fun g1 k1 _ => put_block _ (by omega) _ _ _ _ _ _ _ _ _ _ _ _ _ _ _ _ _ _ _ _ _ _

/-- Behind the rounds over the parts. -/
structure LJ (l : List Int) (w : World) (x : PC) (subs : List Tree) (N sb b5 hi : Nat) (done : List PV) (tk : Pl) (st : Sl) (W : World) : Prop where
  gr : Gr w W
  box : Blk W w.heap.size (encT x).toArray 25
  res : Blk W (w.heap.size + 1) (prow [PV.zero]) 70
  me : Blk W b5 (prow [⟨x.k, ⟨some ⟨sb, 0, none⟩, N, N⟩, tk, st, .zero⟩]) 70
  row : Blk W sb (prow done) 70
  pts : PTs W l subs (w.heap.size + 4) hi done
  p1 : sb = w.heap.size + 2 ∨ sb = w.heap.size + 3
  p2 : b5 = w.heap.size + 2 ∨ b5 = w.heap.size + 3
  p3 : sb ≠ b5
  p4 : w.heap.size + 4 ≤ hi
  p5 : hi ≤ W.heap.size
theorem LIL.out_ {l : List Int} {w : World} {x : PC} {subs : List Tree} {N sb b5 : Nat} {done : List PV} {W : World} (h : LIL l w x subs N sb b5 N done W) (hN : N = subs.length) : LJ l w x subs N sb b5 W.heap.size done .zero ⟨none, 0, 0⟩ W := by
  have h1 := h.row
  rw [Nat.sub_self, List.replicate_zero, List.append_nil] at h1
  have h2 := h.pts
  rw [hN, List.take_length] at h2
  exact ⟨h.gr, h.box, h.res, h.me, h1, h2, h.p1, h.p2, h.p3, h.sz, Nat.le_refl _⟩
theorem LJ.go {l : List Int} {w : World} {x : PC} {subs : List Tree} {N sb b5 hi : Nat} {done : List PV} {tk : Pl} {st : Sl} {W W' : World} (h : LJ l w x subs N sb b5 hi done tk st W) (g : Gr W W') : LJ l w x subs N sb b5 hi done tk st W' :=
  ⟨h.gr.trans g, h.box.gr g, h.res.gr g, h.me.gr g, h.row.gr g, h.pts.same fun g1 _ h2 => g.below.block g1 (Nat.lt_of_lt_of_le h2 h.p5), h.p1, h.p2, h.p3, h.p4, Nat.le_trans h.p5 g.below.size⟩
theorem LJ.takes {l : List Int} {w : World} {x : PC} {subs : List Tree} {N sb b5 hi : Nat} {done : List PV} {tk : Pl} {st : Sl} {W : World} (h : LJ l w x subs N sb b5 hi done tk st W) (q : Pl) : LJ l w x subs N sb b5 hi done q st ((((W.setCell ⟨b5, 2, none⟩ (.int .u64 (u q.a))).setCell ⟨b5, 3, none⟩ (.int .u64 (u q.b))).setCell ⟨b5, 4, none⟩ (.int .u64 (u q.c))).setCell ⟨b5, 5, none⟩ (.int .u64 (u q.d))) := by
  have hb : w.heap.size ≤ b5 := by have := h.p2; omega
  have e1 : ∀ g, g ≠ b5 → ((((W.setCell ⟨b5, 2, none⟩ (.int .u64 (u q.a))).setCell ⟨b5, 3, none⟩ (.int .u64 (u q.b))).setCell ⟨b5, 4, none⟩ (.int .u64 (u q.c))).setCell ⟨b5, 5, none⟩ (.int .u64 (u q.d))).heap[g]? = W.heap[g]? := fun g hg => by
    rw [Below.heap_setCell _ _ _ _ hg, Below.heap_setCell _ _ _ _ hg, Below.heap_setCell _ _ _ _ hg, Below.heap_setCell _ _ _ _ hg]
  have := h.p1; have := h.p2; have := h.p3; have := h.p4; have := h.p5
  exact ⟨(((h.gr.setCell hb _).setCell hb _).setCell hb _).setCell hb _, (e1 _ (by omega)).trans h.box, (e1 _ (by omega)).trans h.res, blk_takes h.me q, (e1 _ (by omega)).trans h.row, h.pts.same fun g1 k1 _ => e1 _ (by omega), h.p1, h.p2, h.p3, h.p4, by simp only [set_size]; omega⟩
theorem LJ.steps {l : List Int} {w : World} {x : PC} {subs : List Tree} {N sb b5 hi : Nat} {done : List PV} {tk : Pl} {st : Sl} {W : World} (h : LJ l w x subs N sb b5 hi done tk st W) (q : Sl) : LJ l w x subs N sb b5 hi done tk q (W.setCell ⟨b5, 6, none⟩ (.slice q.a q.n q.c)) := by
  have hb : w.heap.size ≤ b5 := by have := h.p2; omega
  have := h.p1; have := h.p2; have := h.p3; have := h.p4; have := h.p5
  have e1 : ∀ g, g ≠ b5 → (W.setCell ⟨b5, 6, none⟩ (.slice q.a q.n q.c)).heap[g]? = W.heap[g]? := fun g hg => Below.heap_setCell _ _ _ _ hg
  have hx : ([⟨x.k, ⟨some ⟨sb, 0, none⟩, N, N⟩, tk, st, .zero⟩] : List PV)[0]? = some ⟨x.k, ⟨some ⟨sb, 0, none⟩, N, N⟩, tk, st, .zero⟩ := rfl
  have h1 := h.me
  rw [← set_id hx] at h1
  exact ⟨h.gr.setCell hb _, (e1 _ (by omega)).trans h.box, (e1 _ (by omega)).trans h.res, blk_one hx h1 (y := ⟨x.k, ⟨some ⟨sb, 0, none⟩, N, N⟩, tk, q, .zero⟩) 6 (.slice q.a q.n q.c) rfl (by omega), (e1 _ (by omega)).trans h.row, h.pts.same fun g1 k1 _ => e1 _ (by omega), h.p1, h.p2, h.p3, h.p4, by simp only [set_size]; omega⟩
/-- The part, returned. -/
theorem LJ.fin {l : List Int} {w : World} {x : PC} {set : List (Int × Int)} {subs : List Tree} {N sb b5 hi : Nat} {done : List PV} {tk : Pl} {st : Sl} {W : World} (h : LJ l w x subs N sb b5 hi done tk st W) (hN : N = subs.length)
    (h1 : x.k = 1 → ∀ i, tk.has i = true ↔ ∃ n, l[i]? = some n ∧ inSet set n = true) (h4 : x.k = 4 → ∃ qb qs, st = ⟨some ⟨qb, 0, none⟩, l.length + 1, l.length + 1⟩ ∧ hi ≤ qb ∧ qs.length = l.length + 1 ∧ Blk W qb (lrow qs) 67)
    (o0 o1 o2 o3 o4 o5 o6 o7 o8 o9 o10 : Nat) (v0 v1 v2 v3 v4 v5 v6 v7 v8 v9 v10 : Value) :
    PostD l (.mk x.k set subs) w (.returned (pvv ⟨x.k, ⟨some ⟨sb, 0, none⟩, N, N⟩, tk, st, .zero⟩)) (((((((((((W.setCell ⟨w.heap.size + 1, o0, none⟩ v0).setCell ⟨w.heap.size + 1, o1, none⟩ v1).setCell ⟨w.heap.size + 1, o2, none⟩ v2).setCell ⟨w.heap.size + 1, o3, none⟩ v3).setCell ⟨w.heap.size + 1, o4, none⟩ v4).setCell ⟨w.heap.size + 1, o5, none⟩ v5).setCell ⟨w.heap.size + 1, o6, none⟩ v6).setCell ⟨w.heap.size + 1, o7, none⟩ v7).setCell ⟨w.heap.size + 1, o8, none⟩ v8).setCell ⟨w.heap.size + 1, o9, none⟩ v9).setCell ⟨w.heap.size + 1, o10, none⟩ v10) := by
  have := h.p1; have := h.p2; have := h.p3; have := h.p4; have := h.p5
  refine ⟨_, rfl, ?_, gr_put h.gr (by omega) _ _ _ _ _ _ _ _ _ _ _ _ _ _ _ _ _ _ _ _ _ _⟩
  refine (PT_mk _ _ _ _ _ _ _ _).2 ⟨rfl, h1, sb, w.heap.size + 4, hi, done, by rw [hN], by omega, by omega, by omega, by rw [put_size]; omega, (put_block _ (by omega) _ _ _ _ _ _ _ _ _ _ _ _ _ _ _ _ _ _ _ _ _ _).trans h.row, h.pts.same fun g1 k1 _ => put_block _ (by omega) _ _ _ _ _ _ _ _ _ _ _ _ _ _ _ _ _ _ _ _ _ _, fun hk => ?_⟩
  obtain ⟨qb, qs, e1, e2, e3, e4⟩ := h4 hk
  refine ⟨qb, qs, e1, e2, by rw [put_size]; exact e4.lt, e3, (put_block _ (by omega) _ _ _ _ _ _ _ _ _ _ _ _ _ _ _ _ _ _ _ _ _ _).trans e4, fun n hn => ?_⟩
  rw [Pl.has_zero] at hn
  cases hn
theorem run_pvv {w : World} {b : Nat} {x : PV} (h : Blk w b (prow [x]) 70) : (loadVar 70 ⟨b, 0, none⟩).run Tryd.prog w = .ok (pvv x) w := run_loadVar_row w b 70 70 (prow [x]) (0, 0) _ h Tryd.underlying70 rfl (by kernel_rfl)

theorem part_cells {w : World} {b : Nat} {x : PV} (h : Blk w b (prow [x]) 70) :
    w.cell? ⟨b, 0, none⟩ = some (.int .i64 x.k) ∧ w.cell? ⟨b, 1, none⟩ = some (.slice x.sub.a x.sub.n x.sub.c) ∧
    w.cell? ⟨b, 2, none⟩ = some (.int .u64 (u x.tk.a)) ∧ w.cell? ⟨b, 3, none⟩ = some (.int .u64 (u x.tk.b)) ∧ w.cell? ⟨b, 4, none⟩ = some (.int .u64 (u x.tk.c)) ∧ w.cell? ⟨b, 5, none⟩ = some (.int .u64 (u x.tk.d)) ∧
    w.cell? ⟨b, 6, none⟩ = some (.slice x.st.a x.st.n x.st.c) ∧
    w.cell? ⟨b, 7, none⟩ = some (.int .u64 (u x.ak.a)) ∧ w.cell? ⟨b, 8, none⟩ = some (.int .u64 (u x.ak.b)) ∧ w.cell? ⟨b, 9, none⟩ = some (.int .u64 (u x.ak.c)) ∧ w.cell? ⟨b, 10, none⟩ = some (.int .u64 (u x.ak.d)) :=
  ⟨h.c 0, h.c 1, h.c 2, h.c 3, h.c 4, h.c 5, h.c 6, h.c 7, h.c 8, h.c 9, h.c 10⟩

set_option maxRecDepth 100000 in
set_option maxHeartbeats 4000000 in
theorem laid_any {l : List Int} {pv : Value} (hl : l.length ≤ 255) (m : Nat) : ∀ (t : Tree) (x : PC) (w : World), size t ≤ m → size t ≤ 200 → kindsT t = true → HT w t x → RowN w pv l → Calls Tryd.prog 42 #[x.v, pv] w fun e w' => PostD l t w e w' := by
  induction m with
  | zero => intro t x w h; have := size_pos t; omega
  | succ m ih =>
  intro t x w hm hz hk hx hp
  have HX : Hid (HT w t x) := hx
  obtain ⟨k, set, subs, rows, sa, sc, ba, bc, rfl, rfl, hS, hB, hT⟩ := hx.parts
  obtain ⟨pa, pc, rfl⟩ := hp.form
  rw [size_mk] at hm hz
  rw [kindsT_mk] at hk
  simp only [Bool.and_eq_true] at hk
  have hlen := length_le_sizeL subs
  have HE : Hid (∀ (j : Nat) (s : Tree) (r : PC) (W : World), subs[j]? = some s → HT W s r → RowN W (.slice pa l.length pc) l → Calls Tryd.prog 42 #[r.v, .slice pa l.length pc] W fun e w' => PostD l s W e w') := fun j s r W hs h1 h2 => ih s r W (by have := size_le_of_at hs; omega) (by have := size_le_of_at hs; omega) (kindsT_of_at hk.2 hs) h1 h2
  obtain ⟨N, hN⟩ : ∃ N, N = subs.length := ⟨_, rfl⟩
  obtain ⟨L, hL⟩ : ∃ L, L = l.length := ⟨_, rfl⟩
  obtain ⟨S, hSn⟩ : ∃ S, S = set.length := ⟨_, rfl⟩
  have HN : Hid (N = subs.length) := hN
  have HL : Hid (L = l.length) := hL
  have HSn : Hid (S = set.length) := hSn
  have HK : Hid (okAlone k set.length subs.length = true) := hk.1
  have HS : Hid (RowS w (.slice sa set.length sc) set) := hS
  have HB : Hid (RowT w (.slice ba subs.length bc) rows) := hB
  have HT' : Hid (HTs w subs rows) := hT
  have HP : Hid (RowN w (.slice pa l.length pc) l) := hp
  rw [← hN] at hlen ⊢
  have hN2 : N ≤ 200 := by omega
  rw [← hL] at hl ⊢
  rw [← hSn] at HX ⊢
  clear hS hB hT hp hx hk hm hz ih hN hL hSn hlen
  have mk := make53 N hN2
  go_enter Tryd.func42, Tryd.ntmps42
  go_upto_region 1 with fail
  go_cut [5] (fun v5 wx => ∃ sb b5, v5 = .pointer (some ⟨b5, 0, none⟩) ∧ Hid (LIL l w ⟨k, ⟨sa, S, sc⟩, ⟨ba, N, bc⟩⟩ subs N sb b5 0 [] wx))
  case first =>
    go_region
    all_goals go_wp2_with fail
    all_goals go_meet
    · exact ⟨w.heap.size + 1 + 1, w.heap.size + 1 + 1 + 1, rfl, ⟨((((Gr.refl w).alloc _).alloc _).alloc _).alloc _ |>.drewN 1, (((Blk.new _ _ _).alloc _).alloc _).alloc _, ((Blk.new' _ _ _ _ (by simp)).alloc _).alloc _, Blk.new' _ _ _ _ (by simp), (Blk.new' _ _ _ _ (by simp)).alloc _, (PTs_nil _ _ _ _ _).2 ⟨rfl, by simp⟩, by omega, by omega, by omega, by simp⟩⟩
    · exact ⟨w.heap.size + 1 + 1 + 1, w.heap.size + 1 + 1, rfl, ⟨((((Gr.refl w).alloc _).alloc _).alloc _).alloc _ |>.drewN 1, (((Blk.new _ _ _).alloc _).alloc _).alloc _, ((Blk.new' _ _ _ _ (by simp)).alloc _).alloc _, (Blk.new' _ _ _ _ (by simp)).alloc _, Blk.new' _ _ _ _ (by simp), (PTs_nil _ _ _ _ _).2 ⟨rfl, by simp⟩, by omega, by omega, by omega, by simp⟩⟩
  case rest =>
    obtain ⟨sb, b5, rfl, HI⟩ := hcut
    obtain ⟨x0, x1, x2⟩ := BlkT.cs HI.out.box
    simp only at x0 x1 x2
    go_wp2_with fail
    clear x0 x1 x2
    go_loopw [20] (fun vi wr => ∃ (j : Nat) (done : List PV), j ≤ N ∧ vi = .int .i64 j ∧ Hid (LIL l w ⟨k, ⟨sa, S, sc⟩, ⟨ba, N, bc⟩⟩ subs N sb b5 j done wr)) (fun vi _ => N - (intOf vi).toNat)
    case atStart => exact ⟨0, [], Nat.zero_le _, rfl, HI⟩
    case round =>
      clear HI
      obtain ⟨j, done, hj, rfl, HI⟩ := hrel
      by_cases hlt : j < N
      case pos =>
        obtain ⟨s, hs⟩ : ∃ s, subs[j]? = some s := ⟨_, List.getElem?_eq_getElem (by have := HN.out; omega)⟩
        obtain ⟨r, hr, hr2⟩ := HTs.at HT'.out hs
        obtain ⟨rb, ro, rfl, hrb, q0, q1, q2⟩ := RowX.cs3 HB.out hr
        have q0' := (HI.out.gr.below.cell (by exact hrb)).trans q0
        have q1' := (HI.out.gr.below.cell (by exact hrb)).trans q1
        have q2' := (HI.out.gr.below.cell (by exact hrb)).trans q2
        have kE : ∀ W, Gr w W → Calls Tryd.prog 42 #[r.v, .slice pa L pc] W fun e w' => PostD l s W e w' := fun W g => by rw [HL.out]; exact HE.out j s r W hs (hr2.gr g) (HP.out.gr g)
        have HSj : Hid (subs[j]? = some s) := hs
        have HAt : Hid ((done ++ List.replicate (N - j) PV.zero)[j]? = some PV.zero) := HI.out.at_ hlt HN.out
        have hlt2 : (j : Int) < N := by omega
        obtain ⟨_, d1, _, _, _, _, _, _, _, _, _⟩ := part_cs (i := 0) HI.out.me rfl
        simp only at d1
        obtain ⟨rk, ⟨rsa, rsn, rsc⟩, rba, rbn, rbc⟩ := r
        simp only at q0' q1' q2'
        have rl : rb < wr.heap.size := by have := HI.out.sz; omega
        have bl5 : b5 < wr.heap.size := HI.out.me.lt
        clear q0 q1 q2 hr hr2 hs HB
        go_wp2_with fail
        go_region_with
          (first
            | (go_at_call 42; refine (kE _ ((HI.out.gr.alloc _).drewN 1)).mono ?_; rintro _ w4 ⟨r4, rfl, pt4, g4⟩; have P4 : Hid _ := pt4; have G4 : Hid (Gr wr w4) := (((Gr.refl _).alloc _).drewN 1).trans g4; clear pt4 g4; have yf := (HI.out.row.gr G4.out).frozen; obtain ⟨k0, k1, k2, k3, k4, k5, k6, k7, k8, k9, k10⟩ := part_cs (HI.out.row.gr G4.out) HAt.out; obtain ⟨_, e1, _, _, _, _, _, _, _, _, _⟩ := part_cs (i := 0) (HI.out.me.gr G4.out) rfl))
        all_goals
          have I6 := HI.out.put hlt HN.out HSj.out (by show wr.heap.size ≤ (wr.alloc _).heap.size; simp) P4.out G4.out
          generalize hW6 : World.setCell _ _ _ = W6 at I6 ⊢
          have H6 : Hid (LIL l w ⟨k, ⟨sa, S, sc⟩, ⟨some ⟨rb, ro, none⟩, N, bc⟩⟩ subs N sb b5 (j + 1) (done ++ [r4]) W6) := I6
          clear I6 hW6 P4 G4 yf k0 k1 k2 k3 k4 k5 k6 k7 k8 k9 k10 HI HAt q0' q1' q2' d1 kE e1
          go_wp2_with fail
          go_roundw
          case rel => exact ⟨j + 1, done ++ [r4], by omega, by go_num, H6⟩
          case measure => simp [intOf]; omega
      case neg =>
        have hkN : N ≤ j := by omega
        have hjN : j = N := by omega
        rw [hjN] at HI
        have HJ : Hid (LJ l w ⟨k, ⟨sa, S, sc⟩, ⟨ba, N, bc⟩⟩ subs N sb b5 wr.heap.size done .zero ⟨none, 0, 0⟩ wr) := HI.out.out_ HN.out
        clear hjN HI HE HB HT' mk HX
        obtain ⟨x0, x1, x2⟩ := BlkT.cs HJ.out.box
        simp only at x0 x1 x2
        rcases okAlone_cases HK.out with ⟨rfl, _, hset⟩ | ⟨rfl, _⟩ | ⟨rfl, _⟩ | ⟨rfl, _, h4⟩
        · have kin : ∀ W n, Gr w W → Calls Tryd.prog 65 #[.slice sa S sc, .int .u32 n] W fun e w' => e = .returned (.bool (inSet set n)) ∧ Gr W w' := fun W n g => by rw [HSn.out]; exact in_any _ set n W (by omega) (HS.out.gr g)
          have kat := fun (n : Nat) (hn : n < 256) W => at_any n hn W
          have kw := fun o q W => with_any o q W
          clear hset
          go_wp2_with fail
          clear x0 x1 x2
          generalize wr.heap.size = hi0 at HJ
          go_loopw [39] (fun vi wq => ∃ (n : Nat) (tk : Pl), n ≤ L ∧ vi = .int .i64 n ∧ Hid (LJ l w ⟨1, ⟨sa, S, sc⟩, ⟨ba, N, bc⟩⟩ subs N sb b5 hi0 done tk ⟨none, 0, 0⟩ wq) ∧ Hid (∀ i, tk.has i = true ↔ i < n ∧ ∃ m, l[i]? = some m ∧ inSet set m = true)) (fun vi _ => L - (intOf vi).toNat)
          case atStart => exact ⟨0, .zero, Nat.zero_le _, rfl, HJ, fun i => by rw [Pl.has_zero]; simp⟩
          case round =>
            clear HJ
            obtain ⟨n, tk, hn, rfl, HJ, HT1⟩ := hrel
            by_cases hlt : n < L
            case neg =>
              have hnL : L ≤ n := by omega
              obtain ⟨m0, m1, m2, m3, m4, m5, m6, m7, m8, m9, m10⟩ := part_cells HJ.out.me
              obtain ⟨z0, z1, z2, z3, z4, z5, z6, z7, z8, z9, z10⟩ := part_cells HJ.out.res
              have zf := HJ.out.res.frozen
              simp only at m0 m1 m2 m3 m4 m5 m6 m7 m8 m9 m10
              go_wp2_with fail
              refine bodyPost_ret (v := pvv ⟨1, ⟨some ⟨sb, 0, none⟩, N, N⟩, tk, ⟨none, 0, 0⟩, .zero⟩) ?_ rfl (HJ.out.fin HN.out (fun _ i => (HT1.out i).trans ⟨fun h => h.2, fun h => ⟨by obtain ⟨q, h1, _⟩ := h; have := (List.getElem?_eq_some_iff.1 h1).1; have := HL.out; omega, h⟩⟩) (fun h => by simp at h) _ _ _ _ _ _ _ _ _ _ _ _ _ _ _ _ _ _ _ _ _ _)
              simp [results, Tryd.results42]
              have B := blk_put0 HJ.out.res (⟨1, ⟨some ⟨sb, 0, none⟩, N, N⟩, tk, ⟨none, 0, 0⟩, .zero⟩ : PV)
              simp only at B
              generalize hW7 : World.setCell _ _ _ = W7 at B ⊢
              exact run_pvv B
            case pos =>
              obtain ⟨v, hv⟩ : ∃ v, l[n]? = some v := ⟨_, List.getElem?_eq_getElem (by have := HL.out; omega)⟩
              have HV : Hid (l[n]? = some v) := hv
              obtain ⟨pb, po, rfl, hpb, q0⟩ := RowX.cs1 HP.out hv
              have q0' := (HJ.out.gr.below.cell (by exact hpb)).trans q0
              obtain ⟨x0, x1, x2⟩ := BlkT.cs HJ.out.box
              simp only at x0 x1 x2
              have hlt2 : (n : Int) < L := by omega
              clear q0 hv
              go_wp2_with fail
              refine (kin _ v HJ.out.gr).mono ?_
              rintro _ w1 ⟨rfl, g1⟩
              have J1 : Hid (LJ l w ⟨1, ⟨sa, S, sc⟩, ⟨ba, N, bc⟩⟩ subs N sb b5 hi0 done tk ⟨none, 0, 0⟩ w1) := HJ.out.go g1
              clear HJ g1 x0 x1 x2 q0'
              cases hin : inSet set v with
              | false =>
                have HIN : Hid (inSet set v = false) := hin
                clear hin
                go_wp2_with fail
                go_roundw
                case rel =>
                  refine ⟨n + 1, tk, by omega, by go_num, J1, fun i => (HT1.out i).trans ⟨fun h => ⟨by omega, h.2⟩, fun h => ⟨?_, h.2⟩⟩⟩
                  obtain ⟨h1, q, h2, h3⟩ := h
                  by_cases c : i = n
                  · subst c
                    rw [HV.out] at h2
                    injection h2 with h2
                    rw [← h2, HIN.out] at h3
                    cases h3
                  · omega
                case measure => simp [intOf]; omega
              | true =>
                have HIN : Hid (inSet set v = true) := hin
                clear hin
                obtain ⟨_, _, m2, m3, m4, m5, _⟩ := part_cells J1.out.me
                simp only at m2 m3 m4 m5
                go_wp2_with fail
                go_region_with
                  (first
                    | (go_at_call 44; refine (kat n (by omega) _).mono ?_; rintro _ w2 ⟨rfl, g2⟩; have J2 : Hid (LJ l w ⟨1, ⟨sa, S, sc⟩, ⟨ba, N, bc⟩⟩ subs N sb b5 hi0 done tk ⟨none, 0, 0⟩ w2) := (J1.out.go ((Gr.refl _).drewN 1)).go g2; clear g2; obtain ⟨_, _, n2, n3, n4, n5, _⟩ := part_cells J2.out.me)
                    | (go_at_call 62; refine (kw tk (Pl.at n) _).mono ?_; rintro _ w3 ⟨rfl, g3⟩; have J3 : Hid (LJ l w ⟨1, ⟨sa, S, sc⟩, ⟨ba, N, bc⟩⟩ subs N sb b5 hi0 done tk ⟨none, 0, 0⟩ w3) := J2.out.go g3; clear g3; obtain ⟨_, _, y2, y3, y4, y5, _⟩ := part_cells J3.out.me; have yf := J3.out.me.frozen))
                all_goals
                  have I6 := J3.out.takes (tk.or (Pl.at n))
                  generalize hW6 : World.setCell _ _ _ = W6 at I6 ⊢
                  have H6 : Hid (LJ l w ⟨1, ⟨sa, S, sc⟩, ⟨ba, N, bc⟩⟩ subs N sb b5 hi0 done (tk.or (Pl.at n)) ⟨none, 0, 0⟩ W6) := I6
                  clear I6 hW6 J1 J2 J3 m2 m3 m4 m5 n2 n3 n4 n5 y2 y3 y4 y5 yf
                  go_wp2_with fail
                  go_roundw
                  case rel =>
                    refine ⟨n + 1, tk.or (Pl.at n), by omega, by go_num, H6, fun i => ?_⟩
                    rw [Pl.has_or]
                    simp only [Bool.or_eq_true]
                    rw [HT1.out i, Pl.has_at (by omega)]
                    constructor
                    · rintro (⟨h1, h2⟩ | h)
                      · exact ⟨by omega, h2⟩
                      · simp at h
                        subst h
                        exact ⟨by omega, v, HV.out, HIN.out⟩
                    · rintro ⟨h1, h2⟩
                      by_cases c : i = n
                      · exact Or.inr (by simp [c])
                      · exact Or.inl ⟨by omega, h2⟩
                  case measure => simp [intOf]; omega
        · clear x1 x2
          obtain ⟨m0, m1, m2, m3, m4, m5, m6, m7, m8, m9, m10⟩ := part_cells HJ.out.me
          obtain ⟨z0, z1, z2, z3, z4, z5, z6, z7, z8, z9, z10⟩ := part_cells HJ.out.res
          have zf := HJ.out.res.frozen
          simp only at m0 m1 m2 m3 m4 m5 m6 m7 m8 m9 m10
          go_wp2_with fail
          refine bodyPost_ret (v := pvv ⟨2, ⟨some ⟨sb, 0, none⟩, N, N⟩, .zero, ⟨none, 0, 0⟩, .zero⟩) ?_ rfl (HJ.out.fin HN.out (fun h => by simp at h) (fun h => by simp at h) _ _ _ _ _ _ _ _ _ _ _ _ _ _ _ _ _ _ _ _ _ _)
          simp [results, Tryd.results42]
          have B := blk_put0 HJ.out.res (⟨2, ⟨some ⟨sb, 0, none⟩, N, N⟩, .zero, ⟨none, 0, 0⟩, .zero⟩ : PV)
          simp only at B
          generalize hW7 : World.setCell _ _ _ = W7 at B ⊢
          exact run_pvv B
        · clear x1 x2
          obtain ⟨m0, m1, m2, m3, m4, m5, m6, m7, m8, m9, m10⟩ := part_cells HJ.out.me
          obtain ⟨z0, z1, z2, z3, z4, z5, z6, z7, z8, z9, z10⟩ := part_cells HJ.out.res
          have zf := HJ.out.res.frozen
          simp only at m0 m1 m2 m3 m4 m5 m6 m7 m8 m9 m10
          go_wp2_with fail
          refine bodyPost_ret (v := pvv ⟨3, ⟨some ⟨sb, 0, none⟩, N, N⟩, .zero, ⟨none, 0, 0⟩, .zero⟩) ?_ rfl (HJ.out.fin HN.out (fun h => by simp at h) (fun h => by simp at h) _ _ _ _ _ _ _ _ _ _ _ _ _ _ _ _ _ _ _ _ _ _)
          simp [results, Tryd.results42]
          have B := blk_put0 HJ.out.res (⟨3, ⟨some ⟨sb, 0, none⟩, N, N⟩, .zero, ⟨none, 0, 0⟩, .zero⟩ : PV)
          simp only at B
          generalize hW7 : World.setCell _ _ _ = W7 at B ⊢
          exact run_pvv B
        · have mk : ∀ W : World, (Instr.makeSlice 68 (.int .i64 ((L : Int) + 1)) (.int .i64 ((L : Int) + 1))).run Tryd.prog W = .ok (.slice (some ⟨W.heap.size, 0, none⟩) (L + 1) (L + 1)) (W.alloc (.cells (lrow (List.replicate (L + 1) Pl.zero)) 67)) := fun W => make50 (L + 1) (by omega) W
          obtain ⟨_, _, _, _, _, _, m6, _⟩ := part_cells HJ.out.me
          have mf := HJ.out.me.frozen
          have bl5 : b5 < wr.heap.size := HJ.out.me.lt
          simp only at m6
          clear h4 x1 x2
          go_upto_region 17 with fail
          have J2 := (HJ.out.steps ⟨some ⟨wr.heap.size, 0, none⟩, L + 1, L + 1⟩).go ((Gr.refl _).alloc (.cells (lrow (List.replicate (L + 1) Pl.zero)) 67))
          have Q2 : Blk ((wr.setCell ⟨b5, 6, none⟩ (.slice (some ⟨wr.heap.size, 0, none⟩) (L + 1) (L + 1))).alloc (.cells (lrow (List.replicate (L + 1) Pl.zero)) 67)) wr.heap.size (lrow (List.replicate (L + 1) Pl.zero)) 67 := Blk.new' _ _ _ _ (by simp)
          clear HJ mf m6 x0
          simp only at J2
          generalize hW6 : World.alloc _ _ = W6 at J2 Q2 ⊢
          have HJ : Hid (LJ l w ⟨4, ⟨sa, S, sc⟩, ⟨ba, N, bc⟩⟩ subs N sb b5 wr.heap.size done .zero ⟨some ⟨wr.heap.size, 0, none⟩, L + 1, L + 1⟩ W6) := J2
          have HQ : Hid (Blk W6 wr.heap.size (lrow (List.replicate (L + 1) Pl.zero)) 67) := Q2
          clear J2 Q2 hW6 mk
          obtain ⟨m0, m1, m2, m3, m4, m5, m6, m7, m8, m9, m10⟩ := part_cells HJ.out.me
          obtain ⟨z0, z1, z2, z3, z4, z5, z6, z7, z8, z9, z10⟩ := part_cells HJ.out.res
          have zf := HJ.out.res.frozen
          simp only at m0 m1 m2 m3 m4 m5 m6 m7 m8 m9 m10
          go_wp2_with fail
          refine bodyPost_ret (v := pvv ⟨4, ⟨some ⟨sb, 0, none⟩, N, N⟩, .zero, ⟨some ⟨wr.heap.size, 0, none⟩, L + 1, L + 1⟩, .zero⟩) ?_ rfl (HJ.out.fin HN.out (fun h => by simp at h) (fun _ => ⟨wr.heap.size, _, by rw [HL.out], Nat.le_refl _, by rw [HL.out]; simp, HQ.out⟩) _ _ _ _ _ _ _ _ _ _ _ _ _ _ _ _ _ _ _ _ _ _)
          simp [results, Tryd.results42]
          have B := blk_put0 HJ.out.res (⟨4, ⟨some ⟨sb, 0, none⟩, N, N⟩, .zero, ⟨some ⟨wr.heap.size, 0, none⟩, L + 1, L + 1⟩, .zero⟩ : PV)
          simp only at B
          generalize hW7 : World.setCell _ _ _ = W7 at B ⊢
          exact run_pvv B

end Go.Proofs.YtjjlkjfhhpogaaaDoor

namespace Go.Proofs.YtjjlkjfhhpogaaaDoor
open Go.RowKit

/-- A right pattern takes a path that may be. -/
def matchP (t : Tree) (l : List Int) : Prop := rightT t = true ∧ l.length ≤ 255 ∧ takes t l

theorem Fr.toGr {lo hi b : Nat} {w a w' : World} (h : Fr lo hi b a w') (g : Gr w a) (h1 : w.heap.size ≤ lo) (h2 : w.heap.size ≤ b) : Gr w w' :=
  Gr.of ⟨h.os.trans g.below.os, h.tape.trans g.below.tape, h.output.trans g.below.output, Nat.le_trans g.below.size h.size, fun k hk => (h.block k (Nat.lt_of_lt_of_le hk g.below.size) (by omega) (by omega)).trans (g.below.block k hk)⟩ (Nat.le_trans g.drawn h.drawn)

theorem bel_al (w : World) (o : Obj) : Below w.heap.size w (w.alloc o) := (Below.refl _ _).alloc (Nat.le_refl _) o
theorem Tab.gr {w w' : World} (h : Tab w) (g : Gr w w') : Tab w' := h.same (g.below.block 0 h.lt)

set_option maxRecDepth 100000 in
set_option maxHeartbeats 4000000 in
theorem match_any (t : Tree) (x : PC) (pv : Value) (l : List Int) (w : World) (hok : okT t) (hx : HT w t x) (hp : RowN w pv l) (hT : Tab w) (hl : l.length ≤ 4611686018427387903) :
    Calls Tryd.prog 19 #[x.v, pv] w fun e w' => (∃ q : Bool, e = .returned (.bool q) ∧ (q = true ↔ matchP t l)) ∧ Gr w w' := by
  have kr := fun W h => right_any t x W hok h
  have HX : Hid (HT w t x) := hx
  have HP : Hid (RowN w pv l) := hp
  have HTb : Hid (Tab w) := hT
  have HMp : Hid (matchP t l ↔ (rightT t = true ∧ l.length ≤ 255 ∧ takes t l)) := Iff.rfl
  have hw0 : 0 < w.heap.size := hT.lt
  obtain ⟨pa, pc, rfl⟩ := hp.form
  obtain ⟨L, hL⟩ : ∃ L, L = l.length := ⟨_, rfl⟩
  have HL : Hid (L = l.length) := hL
  by_cases c1 : rightT t = true
  · by_cases c2 : l.length ≤ 255
    · obtain ⟨hz, _, hk⟩ := right_parts c1
      have kl := fun W h1 h2 => laid_any (pv := .slice pa l.length pc) c2 _ t x W (Nat.le_refl _) hz hk h1 h2
      have kE := ends_all c2 _ t (Nat.le_refl _) hz hk
      have HMq : Hid (matchP t l ↔ takes t l) := ⟨fun h => h.2.2, fun h => ⟨c1, c2, h⟩⟩
      rw [← hL] at c2 kl HP ⊢
      rw [c1] at kr
      obtain ⟨xk, ⟨x1, x2, x3⟩, x4, x5, x6⟩ := x
      have HBx : Hid (Blk (w.alloc (.cells #[.int .i64 xk, .slice x1 x2 x3, .slice x4 x5 x6] 25)) w.heap.size #[.int .i64 xk, .slice x1 x2 x3, .slice x4 x5 x6] 25) := Blk.new _ _ _
      clear hx hp hT hL c1 hz hk HMp hok hl
      have kE2 := fun W b r lo hi h => kE W b 0 [r] r lo hi (Pl.at 0) h (fun n hn => by rw [Pl.has_at (by omega)] at hn; simp at hn; omega)
      simp only [Nat.zero_mul] at kE2
      clear kE
      have kat := fun W => at_any 0 (by omega) W
      have kh := fun p W => has_any p L (by omega) W
      go_enter Tryd.func19, Tryd.ntmps19
      go_wp2_with (first
        | (go_at_call 17; refine (kr _ (HX.out.gr ((Gr.refl _).alloc _))).mono ?_; rintro _ w2 ⟨rfl, gw⟩; have G2 : Hid (Gr w w2) := ((Gr.refl _).alloc _).trans gw; have B2 : Hid (Blk w2 w.heap.size #[.int .i64 xk, .slice x1 x2 x3, .slice x4 x5 x6] 25) := HBx.out.gr gw; obtain ⟨e0, e1, e2⟩ : w2.cell? ⟨w.heap.size, 0, none⟩ = some (.int .i64 xk) ∧ w2.cell? ⟨w.heap.size, 1, none⟩ = some (.slice x1 x2 x3) ∧ w2.cell? ⟨w.heap.size, 2, none⟩ = some (.slice x4 x5 x6) := ⟨B2.out.c 0, B2.out.c 1, B2.out.c 2⟩; clear gw)
        | (go_at_call 42; refine (kl _ (HX.out.gr G2.out) (HP.out.gr G2.out)).mono ?_; rintro _ w3 ⟨r, rfl, pt, gw⟩; have P3 : Hid (PT w3 l t w2.heap.size w3.heap.size r) := pt; have G3 : Hid (Gr w2 w3) := gw; have St3 : Hid (St l t (w3.alloc (.cells (prow [r]) 70)) w3.heap.size 0 [r] r w2.heap.size w3.heap.size) := ⟨Blk.new _ _ _, rfl, pt.same (fun g _ h2 => (bel_al w3 _).block g h2), gw.below.size, (bel_al w3 _).size, Or.inr (Nat.le_refl _), (HTb.out.gr (G2.out.trans gw)).gr ((Gr.refl _).alloc _), Nat.lt_of_lt_of_le hw0 G2.out.below.size, Nat.lt_of_lt_of_le hw0 (G2.out.trans gw).below.size⟩; clear gw pt)
        | (go_at_call 44; refine (kat _).mono ?_; rintro _ w5 ⟨rfl, g5⟩; have St5 : Hid (St l t w5 w3.heap.size 0 [r] r w2.heap.size w3.heap.size) := St3.out.gr g5; have G5 : Hid (Gr w w5) := ((G2.out.trans G3.out).alloc _).trans g5; clear g5)
        | (go_at_call 43; refine (kE2 _ _ _ _ _ St5.out).mono ?_; rintro _ w6 ⟨r6, x6, rfl, hr6, s6, f6⟩; have HR6 : Hid (∀ j, r6.has j = true ↔ ∃ i, (Pl.at 0).has i = true ∧ Goes l t i j) := hr6; have G6 : Hid (Gr w w6) := f6.toGr G5.out G2.out.below.size (G2.out.trans G3.out).below.size; clear hr6 s6 f6)
        | (go_at_call 45; refine (kh r6 _).mono ?_; rintro _ w7 ⟨rfl, g7⟩; have G7 : Hid (Gr w w7) := G6.out.trans g7; clear g7))
      go_ret
      refine ⟨⟨_, rfl, ?_⟩, G7.out⟩
      rw [HMq.out, HR6.out L, ← goes_whole, ← HL.out]
      constructor
      · rintro ⟨i, h1, h2⟩
        rw [Pl.has_at (by omega)] at h1
        simp at h1
        subst h1
        exact h2
      · intro h
        exact ⟨0, by rw [Pl.has_at (by omega)]; simp, h⟩
    · have hq : ¬ matchP t l := fun h => c2 h.2.1
      have HQ : Hid (¬ matchP t l) := hq
      rw [← hL] at c2 hl ⊢
      rw [c1] at kr
      obtain ⟨xk, ⟨x1, x2, x3⟩, x4, x5, x6⟩ := x
      have c3 : (255 : Int) < L := by omega
      clear hx hp hT hL c1 HMp hok hq
      go_enter Tryd.func19, Tryd.ntmps19
      go_wp2_with (first
        | (go_at_call 17; refine (kr _ (HX.out.gr ((Gr.refl _).alloc _))).mono ?_; rintro _ w2 ⟨rfl, gw⟩; have G2 : Hid (Gr w w2) := ((Gr.refl _).alloc _).trans gw; clear gw))
      go_ret
      exact ⟨⟨false, rfl, by simp; exact HQ.out⟩, G2.out⟩
  · have HQ : Hid (¬ matchP t l) := fun h => c1 h.1
    have c4 : rightT t = false := by simpa using c1
    rw [c4] at kr
    obtain ⟨xk, ⟨x1, x2, x3⟩, x4, x5, x6⟩ := x
    clear hx hp hT hL c1 HMp hok c4
    go_enter Tryd.func19, Tryd.ntmps19
    go_wp2_with (first
      | (go_at_call 17; refine (kr _ (HX.out.gr ((Gr.refl _).alloc _))).mono ?_; rintro _ w2 ⟨rfl, gw⟩; have G2 : Hid (Gr w w2) := ((Gr.refl _).alloc _).trans gw; clear gw))
    go_ret
    exact ⟨⟨false, rfl, by simp; exact HQ.out⟩, G2.out⟩

end Go.Proofs.YtjjlkjfhhpogaaaDoor
