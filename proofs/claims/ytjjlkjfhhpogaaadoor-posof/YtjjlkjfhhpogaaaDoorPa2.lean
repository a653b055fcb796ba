/-
  The parts of a pattern laid at a path, in memory: what stands where, and what turns when a part is asked.
  What turns when a part is asked: the worlds ahead of it and behind it.
-/
import Derived.Test.YtjjlkjfhhpogaaaDoorW7
import Derived.Laws.MakeOwn
namespace Go.Proofs.YtjjlkjfhhpogaaaDoor
open Go.RowKit

/-- A part's value. -/
structure PV where
  k : Int
  sub : Sl
  tk : Pl
  st : Sl
  ak : Pl
def encP (x : PV) : List Value := [.int .i64 x.k, .slice x.sub.a x.sub.n x.sub.c, .int .u64 (u x.tk.a), .int .u64 (u x.tk.b), .int .u64 (u x.tk.c), .int .u64 (u x.tk.d), .slice x.st.a x.st.n x.st.c, .int .u64 (u x.ak.a), .int .u64 (u x.ak.b), .int .u64 (u x.ak.c), .int .u64 (u x.ak.d)]
def encL (p : Pl) : List Value := [.int .u64 (u p.a), .int .u64 (u p.b), .int .u64 (u p.c), .int .u64 (u p.d)]
theorem encP_len (x : PV) : (encP x).length = 11 := rfl
theorem encL_len (x : Pl) : (encL x).length = 4 := rfl
def PV.zero : PV := ⟨0, ⟨none, 0, 0⟩, .zero, ⟨none, 0, 0⟩, .zero⟩

def prow (rows : List PV) : Array Value := (cellsOf encP rows).toArray
def lrow (qs : List Pl) : Array Value := (cellsOf encL qs).toArray

theorem prow_at {rows : List PV} {i : Nat} {x : PV} (h : rows[i]? = some x) (j : Nat) (v : Value) (hv : (encP x)[j]? = some v) : (prow rows)[i * 11 + j]? = some v := by
  unfold prow
  rw [List.getElem?_toArray]
  exact cellsOf_at encP_len rows i x h j v hv
theorem lrow_at {qs : List Pl} {i : Nat} {x : Pl} (h : qs[i]? = some x) (j : Nat) (v : Value) (hv : (encL x)[j]? = some v) : (lrow qs)[i * 4 + j]? = some v := by
  unfold lrow
  rw [List.getElem?_toArray]
  exact cellsOf_at encL_len qs i x h j v hv

theorem cellsOf_set {α : Type} {f : α → List Value} {n : Nat} (h : ∀ x, (f x).length = n) : ∀ (l : List α) (i : Nat) (x y : α), l[i]? = some x → ∀ (j : Nat) (v : Value), f y = (f x).set j v → j < n → (cellsOf f l).set (i * n + j) v = cellsOf f (l.set i y)
  | [], i, x, y, hx, _, _, _, _ => by simp at hx
  | a :: l, 0, x, y, hx, j, v, hv, hj => by
    simp at hx
    subst hx
    show (f a ++ cellsOf f l).set (0 * n + j) v = f y ++ cellsOf f l
    rw [Nat.zero_mul, Nat.zero_add, List.set_append_left _ _ (by rw [h]; exact hj), hv]
  | a :: l, i + 1, x, y, hx, j, v, hv, hj => by
    show (f a ++ cellsOf f l).set ((i + 1) * n + j) v = f a ++ cellsOf f (l.set i y)
    have hk : (i + 1) * n + j = (f a).length + (i * n + j) := by rw [h, Nat.add_mul]; omega
    rw [hk, List.set_append_right _ _ (by omega)]
    rw [Nat.add_sub_cancel_left, cellsOf_set h l i x y (by simpa using hx) j v hv hj]

theorem prow_set {rows : List PV} {i : Nat} {x y : PV} (hx : rows[i]? = some x) (j : Nat) (v : Value) (hv : encP y = (encP x).set j v) (hj : j < 11) : (prow rows).setIfInBounds (i * 11 + j) v = prow (rows.set i y) := by
  unfold prow
  rw [List.setIfInBounds_toArray, cellsOf_set encP_len rows i x y hx j v hv hj]
theorem lrow_set {qs : List Pl} {i : Nat} {x y : Pl} (hx : qs[i]? = some x) (j : Nat) (v : Value) (hv : encL y = (encL x).set j v) (hj : j < 4) : (lrow qs).setIfInBounds (i * 4 + j) v = lrow (qs.set i y) := by
  unfold lrow
  rw [List.setIfInBounds_toArray, cellsOf_set encL_len qs i x y hx j v hv hj]

theorem set_same {α : Type} {l : List α} {i : Nat} {x y : α} (h : l[i]? = some x) : (l.set i y)[i]? = some y := by
  have := (List.getElem?_eq_some_iff.1 h).1
  simp [this]

/-- The block's row, one part's asked places turned. -/
theorem blk_asked {w : World} {b i : Nat} {rows : List PV} {x : PV} (h : Blk w b (prow rows) 70) (hx : rows[i]? = some x) (q : Pl) :
    Blk ((((w.setCell ⟨b, i * 11 + 7, none⟩ (.int .u64 (u q.a))).setCell ⟨b, i * 11 + 7 + 1, none⟩ (.int .u64 (u q.b))).setCell ⟨b, i * 11 + 7 + 2, none⟩ (.int .u64 (u q.c))).setCell ⟨b, i * 11 + 7 + 3, none⟩ (.int .u64 (u q.d))) b (prow (rows.set i ⟨x.k, x.sub, x.tk, x.st, q⟩)) 70 := by
  have h1 := h.set (i * 11 + 7) (.int .u64 (u q.a))
  rw [prow_set hx (y := ⟨x.k, x.sub, x.tk, x.st, ⟨q.a, x.ak.b, x.ak.c, x.ak.d⟩⟩) 7 _ rfl (by omega)] at h1
  have h2 := h1.set (i * 11 + 8) (.int .u64 (u q.b))
  rw [prow_set (set_same (y := ⟨x.k, x.sub, x.tk, x.st, ⟨q.a, x.ak.b, x.ak.c, x.ak.d⟩⟩) hx) (y := ⟨x.k, x.sub, x.tk, x.st, ⟨q.a, q.b, x.ak.c, x.ak.d⟩⟩) 8 _ rfl (by omega), List.set_set] at h2
  have h3 := h2.set (i * 11 + 9) (.int .u64 (u q.c))
  rw [prow_set (set_same (y := ⟨x.k, x.sub, x.tk, x.st, ⟨q.a, q.b, x.ak.c, x.ak.d⟩⟩) hx) (y := ⟨x.k, x.sub, x.tk, x.st, ⟨q.a, q.b, q.c, x.ak.d⟩⟩) 9 _ rfl (by omega), List.set_set] at h3
  have h4 := h3.set (i * 11 + 10) (.int .u64 (u q.d))
  rw [prow_set (set_same (y := ⟨x.k, x.sub, x.tk, x.st, ⟨q.a, q.b, q.c, x.ak.d⟩⟩) hx) (y := ⟨x.k, x.sub, x.tk, x.st, q⟩) 10 _ rfl (by omega), List.set_set] at h4
  exact h4
/-- The block's row of places, one turned. -/
theorem blk_step {w : World} {b i : Nat} {qs : List Pl} {x : Pl} (h : Blk w b (lrow qs) 67) (hx : qs[i]? = some x) (q : Pl) :
    Blk ((((w.setCell ⟨b, i * 4, none⟩ (.int .u64 (u q.a))).setCell ⟨b, i * 4 + 1, none⟩ (.int .u64 (u q.b))).setCell ⟨b, i * 4 + 2, none⟩ (.int .u64 (u q.c))).setCell ⟨b, i * 4 + 3, none⟩ (.int .u64 (u q.d))) b (lrow (qs.set i q)) 67 := by
  have h1 := h.set (i * 4) (.int .u64 (u q.a))
  rw [show i * 4 = i * 4 + 0 from rfl, lrow_set hx (y := ⟨q.a, x.b, x.c, x.d⟩) 0 _ rfl (by omega)] at h1
  have h2 := h1.set (i * 4 + 1) (.int .u64 (u q.b))
  rw [lrow_set (set_same (y := ⟨q.a, x.b, x.c, x.d⟩) hx) (y := ⟨q.a, q.b, x.c, x.d⟩) 1 _ rfl (by omega), List.set_set] at h2
  have h3 := h2.set (i * 4 + 2) (.int .u64 (u q.c))
  rw [lrow_set (set_same (y := ⟨q.a, q.b, x.c, x.d⟩) hx) (y := ⟨q.a, q.b, q.c, x.d⟩) 2 _ rfl (by omega), List.set_set] at h3
  have h4 := h3.set (i * 4 + 3) (.int .u64 (u q.d))
  rw [lrow_set (set_same (y := ⟨q.a, q.b, q.c, x.d⟩) hx) (y := q) 3 _ rfl (by omega), List.set_set] at h4
  exact h4

mutual
/-- This value is a part laid at a path, its memory between two blocks. -/
def PT (w : World) (l : List Int) : Tree → Nat → Nat → PV → Prop
  | .mk k set subs, lo, hi, x => x.k = k ∧ (k = 1 → ∀ i, x.tk.has i = true ↔ ∃ n, l[i]? = some n ∧ inSet set n = true) ∧
      ∃ sb lo' hi' rows, x.sub = ⟨some ⟨sb, 0, none⟩, subs.length, subs.length⟩ ∧ lo ≤ sb ∧ sb < lo' ∧ lo' ≤ hi' ∧ hi' ≤ hi ∧ Blk w sb (prow rows) 70 ∧ PTs w l subs lo' hi' rows ∧
        (k = 4 → ∃ qb qs, x.st = ⟨some ⟨qb, 0, none⟩, l.length + 1, l.length + 1⟩ ∧ hi' ≤ qb ∧ qb < hi ∧ qs.length = l.length + 1 ∧ Blk w qb (lrow qs) 67 ∧
          ∀ n, x.ak.has n = true → ∃ q : Pl, qs[n]? = some q ∧ ∀ j, q.has j = true ↔ ∃ s, subs = [s] ∧ Goes l s n j)
def PTs (w : World) (l : List Int) : List Tree → Nat → Nat → List PV → Prop
  | [], lo, hi, rs => rs = [] ∧ lo ≤ hi
  | t :: ts, lo, hi, rs => ∃ r rest mid, rs = r :: rest ∧ lo ≤ mid ∧ mid ≤ hi ∧ PT w l t lo mid r ∧ PTs w l ts mid hi rest
end
theorem PT_mk (w : World) (l : List Int) (k : Int) (set : List (Int × Int)) (subs : List Tree) (lo hi : Nat) (x : PV) : PT w l (.mk k set subs) lo hi x ↔ (x.k = k ∧ (k = 1 → ∀ i, x.tk.has i = true ↔ ∃ n, l[i]? = some n ∧ inSet set n = true) ∧
      ∃ sb lo' hi' rows, x.sub = ⟨some ⟨sb, 0, none⟩, subs.length, subs.length⟩ ∧ lo ≤ sb ∧ sb < lo' ∧ lo' ≤ hi' ∧ hi' ≤ hi ∧ Blk w sb (prow rows) 70 ∧ PTs w l subs lo' hi' rows ∧
        (k = 4 → ∃ qb qs, x.st = ⟨some ⟨qb, 0, none⟩, l.length + 1, l.length + 1⟩ ∧ hi' ≤ qb ∧ qb < hi ∧ qs.length = l.length + 1 ∧ Blk w qb (lrow qs) 67 ∧
          ∀ n, x.ak.has n = true → ∃ q : Pl, qs[n]? = some q ∧ ∀ j, q.has j = true ↔ ∃ s, subs = [s] ∧ Goes l s n j)) := by rw [PT]
theorem PTs_nil (w : World) (l : List Int) (lo hi : Nat) (rs : List PV) : PTs w l [] lo hi rs ↔ (rs = [] ∧ lo ≤ hi) := by rw [PTs]
theorem PTs_cons (w : World) (l : List Int) (t : Tree) (ts : List Tree) (lo hi : Nat) (rs : List PV) : PTs w l (t :: ts) lo hi rs ↔ ∃ r rest mid, rs = r :: rest ∧ lo ≤ mid ∧ mid ≤ hi ∧ PT w l t lo mid r ∧ PTs w l ts mid hi rest := by rw [PTs]

mutual
theorem PT.same {w w' : World} {l : List Int} : ∀ {t : Tree} {lo hi : Nat} {x : PV}, PT w l t lo hi x → (∀ g, lo ≤ g → g < hi → w'.heap[g]? = w.heap[g]?) → PT w' l t lo hi x
  | .mk k set subs, lo, hi, x, h, hs => by
    obtain ⟨h1, h2, sb, lo', hi', rows, h3, h4, h5, h6, h7, h8, h9, h10⟩ := (PT_mk _ _ _ _ _ _ _ _).1 h
    refine (PT_mk _ _ _ _ _ _ _ _).2 ⟨h1, h2, sb, lo', hi', rows, h3, h4, h5, h6, h7, (hs sb (by omega) (by omega)).trans h8, PTs.same h9 (fun g a b => hs g (by omega) (by omega)), fun hk => ?_⟩
    obtain ⟨qb, qs, a1, a2, a3, a4, a5, a6⟩ := h10 hk
    exact ⟨qb, qs, a1, a2, a3, a4, (hs qb (by omega) (by omega)).trans a5, a6⟩
theorem PTs.same {w w' : World} {l : List Int} : ∀ {ts : List Tree} {lo hi : Nat} {rs : List PV}, PTs w l ts lo hi rs → (∀ g, lo ≤ g → g < hi → w'.heap[g]? = w.heap[g]?) → PTs w' l ts lo hi rs
  | [], lo, hi, rs, h, _ => (PTs_nil _ _ _ _ _).2 ((PTs_nil _ _ _ _ _).1 h)
  | t :: ts, lo, hi, rs, h, hs => by
    obtain ⟨r, rest, mid, rfl, h1, h2, h3, h4⟩ := (PTs_cons _ _ _ _ _ _ _).1 h
    exact (PTs_cons _ _ _ _ _ _ _).2 ⟨r, rest, mid, rfl, h1, h2, PT.same h3 (fun g a b => hs g a (by omega)), PTs.same h4 (fun g a b => hs g (by omega) b)⟩
end
theorem PTs.len {w : World} {l : List Int} : ∀ {ts : List Tree} {lo hi : Nat} {rs : List PV}, PTs w l ts lo hi rs → rs.length = ts.length
  | [], lo, hi, rs, h => by rw [PTs_nil] at h; rw [h.1]; rfl
  | t :: ts, lo, hi, rs, h => by
    obtain ⟨r, rest, mid, rfl, h1, h2, h3, h4⟩ := (PTs_cons _ _ _ _ _ _ _).1 h
    simp [PTs.len h4]

/-- One of the parts, where it lies; and what comes of the others when it turns. -/
theorem PTs.at {w : World} {l : List Int} : ∀ {ts : List Tree} {lo hi : Nat} {rs : List PV}, PTs w l ts lo hi rs → ∀ {i : Nat} {t : Tree}, ts[i]? = some t →
    ∃ r a b, rs[i]? = some r ∧ lo ≤ a ∧ a ≤ b ∧ b ≤ hi ∧ PT w l t a b r ∧ ∀ w' r', PT w' l t a b r' → (∀ g, lo ≤ g → g < hi → ¬ (a ≤ g ∧ g < b) → w'.heap[g]? = w.heap[g]?) → PTs w' l ts lo hi (rs.set i r')
  | [], lo, hi, rs, h, i, t, hi' => by simp at hi'
  | t0 :: ts, lo, hi, rs, h, i, t, ht => by
    obtain ⟨r, rest, mid, rfl, h1, h2, h3, h4⟩ := (PTs_cons _ _ _ _ _ _ _).1 h
    cases i with
    | zero =>
      simp at ht
      subst ht
      refine ⟨r, lo, mid, rfl, Nat.le_refl _, h1, h2, h3, fun w' r' k hs => ?_⟩
      exact (PTs_cons _ _ _ _ _ _ _).2 ⟨r', rest, mid, rfl, h1, h2, k, PTs.same h4 (fun g a b => hs g (by omega) b (by omega))⟩
    | succ i =>
      obtain ⟨r1, a, b, k1, k2, k3, k4, k5, k6⟩ := PTs.at h4 (i := i) (t := t) (by simpa using ht)
      refine ⟨r1, a, b, by simpa using k1, by omega, k3, k4, k5, fun w' r' k hs => ?_⟩
      exact (PTs_cons _ _ _ _ _ _ _).2 ⟨r, rest.set i r', mid, rfl, h1, h2, PT.same h3 (fun g a' b' => hs g a' (by omega) (by omega)), k6 w' r' k (fun g a' b' c' => hs g (by omega) b' c')⟩

theorem PTs.snoc {w : World} {l : List Int} : ∀ {ts : List Tree} {lo mid hi : Nat} {rs : List PV} {t : Tree} {r : PV}, PTs w l ts lo mid rs → mid ≤ hi → PT w l t mid hi r → PTs w l (ts ++ [t]) lo hi (rs ++ [r])
  | [], lo, mid, hi, rs, t, r, h, h1, k => by
    obtain ⟨rfl, h2⟩ := (PTs_nil _ _ _ _ _).1 h
    exact (PTs_cons _ _ _ _ _ _ _).2 ⟨r, [], hi, rfl, by omega, Nat.le_refl _, PT.lower k h2, (PTs_nil _ _ _ _ _).2 ⟨rfl, Nat.le_refl _⟩⟩
  | t0 :: ts, lo, mid, hi, rs, t, r, h, h1, k => by
    obtain ⟨r0, rest, m, rfl, k1, k2, k3, k4⟩ := (PTs_cons _ _ _ _ _ _ _).1 h
    exact (PTs_cons _ _ _ _ _ _ _).2 ⟨r0, rest ++ [r], m, rfl, k1, by omega, k3, PTs.snoc k4 h1 k⟩
where PT.lower {w : World} {l : List Int} : ∀ {t : Tree} {lo lo0 hi : Nat} {x : PV}, PT w l t lo hi x → lo0 ≤ lo → PT w l t lo0 hi x
  | .mk k set subs, lo, lo0, hi, x, h, hl => by
    obtain ⟨h1, h2, sb, lo', hi', rows, h3, h4, h5⟩ := (PT_mk _ _ _ _ _ _ _ _).1 h
    exact (PT_mk _ _ _ _ _ _ _ _).2 ⟨h1, h2, sb, lo', hi', rows, h3, by omega, h5⟩

end Go.Proofs.YtjjlkjfhhpogaaaDoor

namespace Go.Proofs.YtjjlkjfhhpogaaaDoor
open Go.RowKit

/-- Nothing old turns but the blocks lo .. hi, and block b. -/
structure Fr (lo hi b : Nat) (w w' : World) : Prop where
  os : w'.os = w.os
  tape : w'.tape = w.tape
  output : w'.output = w.output
  size : w.heap.size ≤ w'.heap.size
  drawn : w.drawn ≤ w'.drawn
  block : ∀ g, g < w.heap.size → ¬ (lo ≤ g ∧ g < hi) → g ≠ b → w'.heap[g]? = w.heap[g]?

theorem Fr.refl (lo hi b : Nat) (w : World) : Fr lo hi b w w := ⟨rfl, rfl, rfl, Nat.le_refl _, Nat.le_refl _, fun _ _ _ _ => rfl⟩
theorem Fr.trans {lo hi b : Nat} {w w' w'' : World} (h : Fr lo hi b w w') (k : Fr lo hi b w' w'') : Fr lo hi b w w'' :=
  ⟨k.os.trans h.os, k.tape.trans h.tape, k.output.trans h.output, Nat.le_trans h.size k.size, Nat.le_trans h.drawn k.drawn, fun g h1 h2 h3 => (k.block g (Nat.lt_of_lt_of_le h1 h.size) h2 h3).trans (h.block g h1 h2 h3)⟩
theorem Fr.of_gr {lo hi b : Nat} {w w' : World} (h : Gr w w') : Fr lo hi b w w' :=
  ⟨h.below.os, h.below.tape, h.below.output, h.below.size, h.drawn, fun g h1 _ _ => h.below.block g h1⟩
theorem Fr.gr {lo hi b : Nat} {w w' w'' : World} (h : Fr lo hi b w w') (k : Gr w' w'') : Fr lo hi b w w'' := h.trans (.of_gr k)
theorem Fr.wide {lo hi b lo' hi' b' : Nat} {w w' : World} (h : Fr lo hi b w w') (h1 : lo' ≤ lo) (h2 : hi ≤ hi') (h3 : b = b' ∨ (lo' ≤ b ∧ b < hi')) : Fr lo' hi' b' w w' :=
  ⟨h.os, h.tape, h.output, h.size, h.drawn, fun g k1 k2 k3 => h.block g k1 (by omega) (by omega)⟩
theorem Fr.setCell {lo hi b : Nat} {w w' : World} (h : Fr lo hi b w w') {p : Addr} (hp : w.heap.size ≤ p.block ∨ (lo ≤ p.block ∧ p.block < hi) ∨ p.block = b) (v : Value) : Fr lo hi b w (w'.setCell p v) := by
  have e := (Below.refl 0 w').setCell (p := p) (Nat.zero_le _) v
  refine ⟨e.os.trans h.os, e.tape.trans h.tape, e.output.trans h.output, Nat.le_trans h.size e.size, ?_, fun g k1 k2 k3 => ?_⟩
  · exact h.drawn
  · rw [← h.block g k1 k2 k3]
    exact Below.heap_setCell _ _ _ _ (by rintro rfl; omega)
theorem Blk.fr {lo hi b : Nat} {w w' : World} (h : Fr lo hi b w w') {g : Nat} {cs : Array Value} {t : TypeId} (hb : Blk w g cs t) (h1 : ¬ (lo ≤ g ∧ g < hi)) (h2 : g ≠ b) : Blk w' g cs t := (h.block g hb.lt h1 h2).trans hb
theorem Tab.same {w w' : World} (h : Tab w) (hs : w'.heap[0]? = w.heap[0]?) : Tab w' := fun i x hx => by
  have := h i x hx
  unfold World.cell? at this ⊢
  simp only at this ⊢
  rw [hs]
  exact this
theorem Tab.lt {w : World} (h : Tab w) : 0 < w.heap.size := World.block_lt_of_cell? w _ (h 0 0 rfl)
theorem Tab.fr {lo hi b : Nat} {w w' : World} (h : Tab w) (hf : Fr lo hi b w w') (h1 : 0 < lo) (h2 : 0 < b) : Tab w' := h.same (hf.block 0 h.lt (by omega) (by omega))

/-- A part laid at a path lies in this block, the i-th of its row; its memory is the blocks lo .. hi. -/
structure St (l : List Int) (t : Tree) (w : World) (b i : Nat) (rows : List PV) (x : PV) (lo hi : Nat) : Prop where
  blk : Blk w b (prow rows) 70
  at_ : rows[i]? = some x
  pt : PT w l t lo hi x
  le : lo ≤ hi
  top : hi ≤ w.heap.size
  out : b < lo ∨ hi ≤ b
  tab : Tab w
  pos : 0 < lo
  bpos : 0 < b

theorem St.gr {l : List Int} {t : Tree} {w w' : World} {b i : Nat} {rows : List PV} {x : PV} {lo hi : Nat} (h : St l t w b i rows x lo hi) (k : Gr w w') : St l t w' b i rows x lo hi :=
  ⟨h.blk.gr k, h.at_, h.pt.same fun g _ h2 => k.below.block g (Nat.lt_of_lt_of_le h2 h.top), h.le, Nat.le_trans h.top k.below.size, h.out, h.tab.same (k.below.block 0 h.tab.lt), h.pos, h.bpos⟩
/-- A store elsewhere. -/
theorem St.setCell {l : List Int} {t : Tree} {w : World} {b i : Nat} {rows : List PV} {x : PV} {lo hi : Nat} (h : St l t w b i rows x lo hi) {p : Addr} (h1 : p.block ≠ b) (h2 : ¬ (lo ≤ p.block ∧ p.block < hi)) (h3 : 0 < p.block) (v : Value) : St l t (w.setCell p v) b i rows x lo hi :=
  ⟨h.blk.other (fun e => h1 e.symm) v, h.at_, h.pt.same fun g _ h3 => Below.heap_setCell _ _ _ _ (by rintro rfl; omega), h.le, by
    have e := (Below.refl 0 w).setCell (p := p) (Nat.zero_le _) v
    exact Nat.le_trans h.top e.size, h.out, h.tab.same (Below.heap_setCell _ _ _ _ (by rintro e; omega)), h.pos, h.bpos⟩
theorem St.drewN {l : List Int} {t : Tree} {w : World} {b i : Nat} {rows : List PV} {x : PV} {lo hi : Nat} (h : St l t w b i rows x lo hi) (n : Nat) : St l t (w.drewN n) b i rows x lo hi := h.gr ((Gr.refl _).drewN n)
theorem St.alloc {l : List Int} {t : Tree} {w : World} {b i : Nat} {rows : List PV} {x : PV} {lo hi : Nat} (h : St l t w b i rows x lo hi) (o : Obj) : St l t (w.alloc o) b i rows x lo hi := h.gr ((Gr.refl _).alloc o)
theorem St.lt {l : List Int} {t : Tree} {w : World} {b i : Nat} {rows : List PV} {x : PV} {lo hi : Nat} (h : St l t w b i rows x lo hi) : b < w.heap.size := h.blk.lt

theorem set_id {α : Type} {l : List α} {i : Nat} {x : α} (h : l[i]? = some x) : l.set i x = l := by
  obtain ⟨hi, rfl⟩ := List.getElem?_eq_some_iff.1 h
  simp

/-- The eleven cells of a part. -/
theorem part_cs {w : World} {b i : Nat} {rows : List PV} {x : PV} (h : Blk w b (prow rows) 70) (hx : rows[i]? = some x) :
    w.cell? ⟨b, i * 11, none⟩ = some (.int .i64 x.k) ∧ w.cell? ⟨b, i * 11 + 1, none⟩ = some (.slice x.sub.a x.sub.n x.sub.c) ∧
    w.cell? ⟨b, i * 11 + 2, none⟩ = some (.int .u64 (u x.tk.a)) ∧ w.cell? ⟨b, i * 11 + 2 + 1, none⟩ = some (.int .u64 (u x.tk.b)) ∧ w.cell? ⟨b, i * 11 + 2 + 2, none⟩ = some (.int .u64 (u x.tk.c)) ∧ w.cell? ⟨b, i * 11 + 2 + 3, none⟩ = some (.int .u64 (u x.tk.d)) ∧
    w.cell? ⟨b, i * 11 + 6, none⟩ = some (.slice x.st.a x.st.n x.st.c) ∧
    w.cell? ⟨b, i * 11 + 7, none⟩ = some (.int .u64 (u x.ak.a)) ∧ w.cell? ⟨b, i * 11 + 7 + 1, none⟩ = some (.int .u64 (u x.ak.b)) ∧ w.cell? ⟨b, i * 11 + 7 + 2, none⟩ = some (.int .u64 (u x.ak.c)) ∧ w.cell? ⟨b, i * 11 + 7 + 3, none⟩ = some (.int .u64 (u x.ak.d)) := by
  have c : ∀ j v, (encP x)[j]? = some v → w.cell? ⟨b, i * 11 + j, none⟩ = some v := fun j v hv => (h.c _).trans (prow_at hx j v hv)
  exact ⟨c 0 _ rfl, c 1 _ rfl, c 2 _ rfl, c 3 _ rfl, c 4 _ rfl, c 5 _ rfl, c 6 _ rfl, c 7 _ rfl, c 8 _ rfl, c 9 _ rfl, c 10 _ rfl⟩
theorem step_cs {w : World} {b i : Nat} {qs : List Pl} {x : Pl} (h : Blk w b (lrow qs) 67) (hx : qs[i]? = some x) :
    w.cell? ⟨b, i * 4, none⟩ = some (.int .u64 (u x.a)) ∧ w.cell? ⟨b, i * 4 + 1, none⟩ = some (.int .u64 (u x.b)) ∧ w.cell? ⟨b, i * 4 + 2, none⟩ = some (.int .u64 (u x.c)) ∧ w.cell? ⟨b, i * 4 + 3, none⟩ = some (.int .u64 (u x.d)) := by
  have c : ∀ j v, (encL x)[j]? = some v → w.cell? ⟨b, i * 4 + j, none⟩ = some v := fun j v hv => (h.c _).trans (lrow_at hx j v hv)
  exact ⟨c 0 _ rfl, c 1 _ rfl, c 2 _ rfl, c 3 _ rfl⟩

/-- What comes of asking a part: the places of which R says so; the part stays what it was. -/
def PostG (l : List Int) (t : Tree) (R : Nat → Prop) (b i : Nat) (rows : List PV) (lo hi : Nat) (w : World) (e : Ending) (w' : World) : Prop :=
  ∃ (r : Pl) (x' : PV), e = .returned (plv r) ∧ (∀ j, r.has j = true ↔ R j) ∧ St l t w' b i (rows.set i x') x' lo hi ∧ Fr lo hi b w w'

/-- What 'ends' does with a part. -/
def CE (l : List Int) (t : Tree) : Prop := ∀ (w : World) (b i : Nat) (rows : List PV) (x : PV) (lo hi : Nat) (N : Pl), St l t w b i rows x lo hi → (∀ n, N.has n = true → n ≤ l.length) →
  Calls Tryd.prog 43 #[.pointer (some ⟨b, i * 11, none⟩), plv N] w fun e w' => PostG l t (fun j => ∃ i, N.has i = true ∧ Goes l t i j) b i rows lo hi w e w'

end Go.Proofs.YtjjlkjfhhpogaaaDoor
