/-
  Patterns in memory: held, and owned.
-/
import Derived.Test.YtihnmamejfoeeaaDoorBase
namespace Go.Proofs.YtihnmamejfoeeaaDoor
open Go.RowKit

/-- A slice's value. -/
structure Sl where
  a : Option Addr
  n : Nat
  c : Nat
abbrev Sl.v (s : Sl) : Value := .slice s.a s.n s.c

/-- A pattern's value: its kind and two slices. -/
structure PC where
  k : Int
  s : Sl
  b : Sl
abbrev PC.v (x : PC) : Value := .agg #[.int .i64 x.k, .slice x.s.a x.s.n x.s.c, .slice x.b.a x.b.n x.b.c]

def encS (x : Int × Int) : List Value := [.int .u32 x.1, .int .u32 x.2]
def encT (x : PC) : List Value := [.int .i64 x.k, .slice x.s.a x.s.n x.s.c, .slice x.b.a x.b.n x.b.c]
def encN (x : Int) : List Value := [.int .u32 x]
def encB (x : Bool) : List Value := [.bool x]
theorem encS_len (x : Int × Int) : (encS x).length = 2 := rfl
theorem encT_len (x : PC) : (encT x).length = 3 := rfl
theorem encN_len (x : Int) : (encN x).length = 1 := rfl
theorem encB_len (x : Bool) : (encB x).length = 1 := rfl
theorem oneS (x : Int × Int) : ∀ u ∈ encS x, u.oneCell' = true := by
  intro u hu; simp [encS] at hu; rcases hu with rfl | rfl <;> rfl
theorem oneT (x : PC) : ∀ u ∈ encT x, u.oneCell' = true := by
  intro u hu; simp [encT] at hu; rcases hu with rfl | rfl | rfl <;> rfl
theorem oneN (x : Int) : ∀ u ∈ encN x, u.oneCell' = true := by
  intro u hu; simp [encN] at hu; subst hu; rfl
theorem oneB (x : Bool) : ∀ u ∈ encB x, u.oneCell' = true := by
  intro u hu; simp [encB] at hu; subst hu; rfl

abbrev RowS := RowX encS 2
abbrev RowT := RowX encT 3
abbrev RowN := RowX encN 1
abbrev RowB := RowX encB 1
abbrev OwnS := OwnX encS 2 39
abbrev OwnT := OwnX encT 3 25
abbrev OwnN := OwnX encN 1 37
abbrev OwnB := OwnX encB 1 4

theorem info39 : (Tryd.prog.info? 39).map (fun i => (i.zero, i.size, i.bytes)) = some (some (.agg #[.int .u32 0, .int .u32 0]), 2, 8) := by kernel_rfl
theorem info25 : (Tryd.prog.info? 25).map (fun i => (i.zero, i.size, i.bytes)) = some (some (.agg #[.int .i64 0, .slice none 0 0, .slice none 0 0]), 3, 56) := by kernel_rfl
theorem info37 : (Tryd.prog.info? 37).map (fun i => (i.zero, i.size, i.bytes)) = some (some (.int .u32 0), 1, 4) := by kernel_rfl

mutual
/-- This value holds this pattern. -/
def HT (w : World) : Tree → PC → Prop
  | .mk k set subs, x => x.k = k ∧ RowS w x.s.v set ∧ ∃ rows : List PC, RowT w x.b.v rows ∧ HTs w subs rows
def HTs (w : World) : List Tree → List PC → Prop
  | [], rs => rs = []
  | t :: ts, rs => ∃ r rest, rs = r :: rest ∧ HT w t r ∧ HTs w ts rest
end
theorem HT_mk (w : World) (k : Int) (set : List (Int × Int)) (subs : List Tree) (x : PC) : HT w (.mk k set subs) x ↔ (x.k = k ∧ RowS w x.s.v set ∧ ∃ rows : List PC, RowT w x.b.v rows ∧ HTs w subs rows) := by rw [HT]
theorem HTs_nil (w : World) (rs : List PC) : HTs w [] rs ↔ rs = [] := by rw [HTs]
theorem HTs_cons (w : World) (t : Tree) (ts : List Tree) (rs : List PC) : HTs w (t :: ts) rs ↔ ∃ r rest, rs = r :: rest ∧ HT w t r ∧ HTs w ts rest := by rw [HTs]

theorem HTs.len {w : World} : ∀ {ts : List Tree} {rs : List PC}, HTs w ts rs → rs.length = ts.length
  | [], rs, h => by rw [HTs_nil] at h; subst h; rfl
  | t :: ts, rs, h => by
    obtain ⟨r, rest, rfl, _, h2⟩ := (HTs_cons _ _ _ _).1 h
    simp [HTs.len h2]
theorem HTs.at {w : World} : ∀ {ts : List Tree} {rs : List PC}, HTs w ts rs → ∀ {i : Nat} {t : Tree}, ts[i]? = some t → ∃ r, rs[i]? = some r ∧ HT w t r
  | [], rs, h, i, t, hi => by simp at hi
  | t0 :: ts, rs, h, i, t, hi => by
    obtain ⟨r, rest, rfl, h1, h2⟩ := (HTs_cons _ _ _ _).1 h
    cases i with
    | zero => simp at hi; subst hi; exact ⟨r, rfl, h1⟩
    | succ i =>
      obtain ⟨r', h3, h4⟩ := HTs.at h2 (i := i) (t := t) (by simpa using hi)
      exact ⟨r', by simpa using h3, h4⟩
mutual
theorem HT.bel {w w' : World} (hB : Below w.heap.size w w') : ∀ {t : Tree} {x : PC}, HT w t x → HT w' t x
  | .mk k set subs, x, h => by
    obtain ⟨h1, h2, rows, h3, h4⟩ := (HT_mk _ _ _ _ _).1 h
    exact (HT_mk _ _ _ _ _).2 ⟨h1, h2.bel hB, rows, h3.bel hB, HTs.bel hB h4⟩
theorem HTs.bel {w w' : World} (hB : Below w.heap.size w w') : ∀ {ts : List Tree} {rs : List PC}, HTs w ts rs → HTs w' ts rs
  | [], rs, h => (HTs_nil _ _).2 ((HTs_nil _ _).1 h)
  | t :: ts, rs, h => by
    obtain ⟨r, rest, rfl, h1, h2⟩ := (HTs_cons _ _ _ _).1 h
    exact (HTs_cons _ _ _ _).2 ⟨r, rest, rfl, HT.bel hB h1, HTs.bel hB h2⟩
end
theorem HT.gr {w w' : World} {t : Tree} {x : PC} (h : HT w t x) (k : Gr w w') : HT w' t x := HT.bel k.below h

mutual
/-- Its memory is the call's own, in blocks of which P holds. -/
def HO (P : Nat → Prop) (w : World) : Tree → PC → Prop
  | .mk k set subs, x => x.k = k ∧ (OwnS 0 w x.s.v set ∧ ∀ g, x.s.v.ownBlock = some g → P g) ∧ ∃ rows : List PC, (OwnT 0 w x.b.v rows ∧ ∀ g, x.b.v.ownBlock = some g → P g) ∧ HOs P w subs rows
def HOs (P : Nat → Prop) (w : World) : List Tree → List PC → Prop
  | [], rs => rs = []
  | t :: ts, rs => ∃ r rest, rs = r :: rest ∧ HO P w t r ∧ HOs P w ts rest
end
theorem HO_mk (P : Nat → Prop) (w : World) (k : Int) (set : List (Int × Int)) (subs : List Tree) (x : PC) : HO P w (.mk k set subs) x ↔ (x.k = k ∧ (OwnS 0 w x.s.v set ∧ ∀ g, x.s.v.ownBlock = some g → P g) ∧ ∃ rows : List PC, (OwnT 0 w x.b.v rows ∧ ∀ g, x.b.v.ownBlock = some g → P g) ∧ HOs P w subs rows) := by rw [HO]
theorem HOs_nil (P : Nat → Prop) (w : World) (rs : List PC) : HOs P w [] rs ↔ rs = [] := by rw [HOs]
theorem HOs_cons (P : Nat → Prop) (w : World) (t : Tree) (ts : List Tree) (rs : List PC) : HOs P w (t :: ts) rs ↔ ∃ r rest, rs = r :: rest ∧ HO P w t r ∧ HOs P w ts rest := by rw [HOs]
mutual
theorem HO.same {P Q : Nat → Prop} {w w' : World} (hPQ : ∀ g, P g → Q g) (hs : ∀ g, P g → w'.heap[g]? = w.heap[g]?) : ∀ {t : Tree} {x : PC}, HO P w t x → HO Q w' t x
  | .mk k set subs, x, h => by
    obtain ⟨h1, ⟨h2, h3⟩, rows, ⟨h4, h5⟩, h6⟩ := (HO_mk _ _ _ _ _ _).1 h
    exact (HO_mk _ _ _ _ _ _).2 ⟨h1, ⟨h2.same fun g hg => hs g (h3 g hg), fun g hg => hPQ g (h3 g hg)⟩, rows, ⟨h4.same fun g hg => hs g (h5 g hg), fun g hg => hPQ g (h5 g hg)⟩, HOs.same hPQ hs h6⟩
theorem HOs.same {P Q : Nat → Prop} {w w' : World} (hPQ : ∀ g, P g → Q g) (hs : ∀ g, P g → w'.heap[g]? = w.heap[g]?) : ∀ {ts : List Tree} {rs : List PC}, HOs P w ts rs → HOs Q w' ts rs
  | [], rs, h => (HOs_nil _ _ _).2 ((HOs_nil _ _ _).1 h)
  | t :: ts, rs, h => by
    obtain ⟨r, rest, rfl, h1, h2⟩ := (HOs_cons _ _ _ _ _).1 h
    exact (HOs_cons _ _ _ _ _).2 ⟨r, rest, rfl, HO.same hPQ hs h1, HOs.same hPQ hs h2⟩
end
mutual
theorem HO.held {P : Nat → Prop} {w : World} : ∀ {t : Tree} {x : PC}, HO P w t x → HT w t x
  | .mk k set subs, x, h => by
    obtain ⟨h1, ⟨h2, _⟩, rows, ⟨h4, _⟩, h6⟩ := (HO_mk _ _ _ _ _ _).1 h
    exact (HT_mk _ _ _ _ _).2 ⟨h1, h2.row encS_len, rows, h4.row encT_len, HOs.held h6⟩
theorem HOs.held {P : Nat → Prop} {w : World} : ∀ {ts : List Tree} {rs : List PC}, HOs P w ts rs → HTs w ts rs
  | [], rs, h => (HTs_nil _ _).2 ((HOs_nil _ _ _).1 h)
  | t :: ts, rs, h => by
    obtain ⟨r, rest, rfl, h1, h2⟩ := (HOs_cons _ _ _ _ _).1 h
    exact (HTs_cons _ _ _ _).2 ⟨r, rest, rfl, HO.held h1, HOs.held h2⟩
end
theorem HOs.snoc {P : Nat → Prop} {w : World} : ∀ {ts : List Tree} {rs : List PC} {t : Tree} {r : PC}, HOs P w ts rs → HO P w t r → HOs P w (ts ++ [t]) (rs ++ [r])
  | [], rs, t, r, h, k => by
    rw [HOs_nil] at h; subst h
    exact (HOs_cons _ _ _ _ _).2 ⟨r, [], rfl, k, (HOs_nil _ _ _).2 rfl⟩
  | t0 :: ts, rs, t, r, h, k => by
    obtain ⟨r0, rest, rfl, h1, h2⟩ := (HOs_cons _ _ _ _ _).1 h
    exact (HOs_cons _ _ _ _ _).2 ⟨r0, rest ++ [r], rfl, h1, HOs.snoc h2 k⟩
theorem HOs.len {P : Nat → Prop} {w : World} {ts : List Tree} {rs : List PC} (h : HOs P w ts rs) : rs.length = ts.length := HTs.len h.held

mutual
/-- How long its lists may be. -/
def okT : Tree → Prop
  | .mk _ set subs => set.length ≤ 17592186043904 ∧ subs.length ≤ 4611686018427387903 ∧ okL subs
def okL : List Tree → Prop
  | [] => True
  | t :: ts => okT t ∧ okL ts
end
theorem okT_mk (k : Int) (set : List (Int × Int)) (subs : List Tree) : okT (.mk k set subs) ↔ (set.length ≤ 17592186043904 ∧ subs.length ≤ 4611686018427387903 ∧ okL subs) := by rw [okT]
theorem okL_nil : okL [] ↔ True := by rw [okL]
theorem okL_cons (t : Tree) (ts : List Tree) : okL (t :: ts) ↔ (okT t ∧ okL ts) := by rw [okL]
theorem okL.at : ∀ {ts : List Tree} {i : Nat} {t : Tree}, okL ts → ts[i]? = some t → okT t
  | [], i, t, _, h => by simp at h
  | a :: ts, 0, t, hk, h => by simp at h; subst h; exact ((okL_cons _ _).1 hk).1
  | a :: ts, i + 1, t, hk, h => okL.at (ts := ts) (i := i) ((okL_cons _ _).1 hk).2 (by simpa using h)

/-- The value of a pattern, taken apart. -/
theorem HT.parts {w : World} {t : Tree} {x : PC} (h : HT w t x) : ∃ k set subs rows sa sc ba bc, t = .mk k set subs ∧ x = ⟨k, ⟨sa, set.length, sc⟩, ⟨ba, subs.length, bc⟩⟩ ∧ RowS w (.slice sa set.length sc) set ∧ RowT w (.slice ba subs.length bc) rows ∧ HTs w subs rows := by
  obtain ⟨k, set, subs⟩ := t
  obtain ⟨xk, ⟨sa, sn, sc⟩, ⟨ba, bn, bc⟩⟩ := x
  obtain ⟨h1, h2, rows, h3, h4⟩ := (HT_mk _ _ _ _ _).1 h
  simp only at h1 h2 h3
  subst h1
  obtain ⟨a1, c1, e1⟩ := h2.form
  obtain ⟨a2, c2, e2⟩ := h3.form
  injection e1 with _ e1 _
  injection e2 with _ e2 _
  rw [h4.len] at e2
  have e1' : sn = set.length := e1
  have e2' : bn = subs.length := e2
  subst e1' e2'
  exact ⟨xk, set, subs, rows, sa, sc, ba, bc, rfl, rfl, h2, h3, h4⟩

/-- The cells of one of a row of patterns. -/
theorem RowX.cs3 {w : World} {ao : Option Addr} {n cap : Nat} {l : List PC} (h : RowT w (.slice ao n cap) l) {k : Nat} {x : PC} (hx : l[k]? = some x) :
    ∃ b off, ao = some ⟨b, off, none⟩ ∧ b < w.heap.size ∧ w.cell? ⟨b, off + k * 3, none⟩ = some (.int .i64 x.k) ∧ w.cell? ⟨b, off + k * 3 + 1, none⟩ = some (.slice x.s.a x.s.n x.s.c) ∧ w.cell? ⟨b, off + k * 3 + 2, none⟩ = some (.slice x.b.a x.b.n x.b.c) := by
  obtain ⟨b, off, e, hb, hc⟩ := h.at hx
  exact ⟨b, off, e, hb, hc 0 _ rfl, hc 1 _ rfl, hc 2 _ rfl⟩
theorem RowX.cs2 {w : World} {ao : Option Addr} {n cap : Nat} {l : List (Int × Int)} (h : RowS w (.slice ao n cap) l) {k : Nat} {x : Int × Int} (hx : l[k]? = some x) :
    ∃ b off, ao = some ⟨b, off, none⟩ ∧ b < w.heap.size ∧ w.cell? ⟨b, off + k * 2, none⟩ = some (.int .u32 x.1) ∧ w.cell? ⟨b, off + k * 2 + 1, none⟩ = some (.int .u32 x.2) := by
  obtain ⟨b, off, e, hb, hc⟩ := h.at hx
  exact ⟨b, off, e, hb, hc 0 _ rfl, hc 1 _ rfl⟩
theorem RowX.cs1 {w : World} {ao : Option Addr} {n cap : Nat} {l : List Int} (h : RowN w (.slice ao n cap) l) {k : Nat} {x : Int} (hx : l[k]? = some x) :
    ∃ b off, ao = some ⟨b, off, none⟩ ∧ b < w.heap.size ∧ w.cell? ⟨b, off + k, none⟩ = some (.int .u32 x) := by
  obtain ⟨b, off, e, hb, hc⟩ := h.at hx
  have := hc 0 _ rfl
  rw [Nat.mul_one] at this
  exact ⟨b, off, e, hb, this⟩

end Go.Proofs.YtihnmamejfoeeaaDoor
