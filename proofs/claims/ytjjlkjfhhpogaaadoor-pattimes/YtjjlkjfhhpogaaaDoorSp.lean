/-
  Patterns in memory by their shape alone: what stores into their blocks leave; the walk of spoil.
-/
import Derived.Test.YtjjlkjfhhpogaaaDoorTm
import Derived.Test.YtjjlkjfhhpogaaaDoorPa2
namespace Go.Proofs.YtjjlkjfhhpogaaaDoor
open Go.RowKit

mutual
/-- Its memory is the call's own, in blocks of which P holds; whatever numbers stand in it. -/
def HS (P : Nat → Prop) (w : World) : Tree → PC → Prop
  | .mk _ set subs, x => (∃ set' : List (Int × Int), set'.length = set.length ∧ OwnS 0 w x.s.v set') ∧ (∀ g, x.s.v.ownBlock = some g → P g) ∧ ∃ rows : List PC, (OwnT 0 w x.b.v rows ∧ ∀ g, x.b.v.ownBlock = some g → P g) ∧ HSs P w subs rows
def HSs (P : Nat → Prop) (w : World) : List Tree → List PC → Prop
  | [], rs => rs = []
  | t :: ts, rs => ∃ r rest, rs = r :: rest ∧ HS P w t r ∧ HSs P w ts rest
end
theorem HS_mk (P : Nat → Prop) (w : World) (k : Int) (set : List (Int × Int)) (subs : List Tree) (x : PC) : HS P w (.mk k set subs) x ↔ ((∃ set' : List (Int × Int), set'.length = set.length ∧ OwnS 0 w x.s.v set') ∧ (∀ g, x.s.v.ownBlock = some g → P g) ∧ ∃ rows : List PC, (OwnT 0 w x.b.v rows ∧ ∀ g, x.b.v.ownBlock = some g → P g) ∧ HSs P w subs rows) := by rw [HS]
theorem HSs_nil (P : Nat → Prop) (w : World) (rs : List PC) : HSs P w [] rs ↔ rs = [] := by rw [HSs]
theorem HSs_cons (P : Nat → Prop) (w : World) (t : Tree) (ts : List Tree) (rs : List PC) : HSs P w (t :: ts) rs ↔ ∃ r rest, rs = r :: rest ∧ HS P w t r ∧ HSs P w ts rest := by rw [HSs]
mutual
theorem HO.shape {P : Nat → Prop} {w : World} : ∀ {t : Tree} {x : PC}, HO P w t x → HS P w t x
  | .mk k set subs, x, h => by
    obtain ⟨h1, ⟨h2, h3⟩, rows, ⟨h4, h5⟩, h6⟩ := (HO_mk _ _ _ _ _ _).1 h
    exact (HS_mk _ _ _ _ _ _).2 ⟨⟨set, rfl, h2⟩, h3, rows, ⟨h4, h5⟩, HOs.shape h6⟩
theorem HOs.shape {P : Nat → Prop} {w : World} : ∀ {ts : List Tree} {rs : List PC}, HOs P w ts rs → HSs P w ts rs
  | [], rs, h => (HSs_nil _ _ _).2 ((HOs_nil _ _ _).1 h)
  | t :: ts, rs, h => by
    obtain ⟨r, rest, rfl, h1, h2⟩ := (HOs_cons _ _ _ _ _).1 h
    exact (HSs_cons _ _ _ _ _).2 ⟨r, rest, rfl, HO.shape h1, HOs.shape h2⟩
end
mutual
theorem HS.same {P : Nat → Prop} {w w' : World} (hs : ∀ g, P g → w'.heap[g]? = w.heap[g]?) : ∀ {t : Tree} {x : PC}, HS P w t x → HS P w' t x
  | .mk k set subs, x, h => by
    obtain ⟨⟨set', h1, h2⟩, h3, rows, ⟨h4, h5⟩, h6⟩ := (HS_mk _ _ _ _ _ _).1 h
    exact (HS_mk _ _ _ _ _ _).2 ⟨⟨set', h1, h2.same fun g hg => hs g (h3 g hg)⟩, h3, rows, ⟨h4.same fun g hg => hs g (h5 g hg), h5⟩, HSs.same hs h6⟩
theorem HSs.same {P : Nat → Prop} {w w' : World} (hs : ∀ g, P g → w'.heap[g]? = w.heap[g]?) : ∀ {ts : List Tree} {rs : List PC}, HSs P w ts rs → HSs P w' ts rs
  | [], rs, h => (HSs_nil _ _ _).2 ((HSs_nil _ _ _).1 h)
  | t :: ts, rs, h => by
    obtain ⟨r, rest, rfl, h1, h2⟩ := (HSs_cons _ _ _ _ _).1 h
    exact (HSs_cons _ _ _ _ _).2 ⟨r, rest, rfl, HS.same hs h1, HSs.same hs h2⟩
end
theorem HSs.len {P : Nat → Prop} {w : World} : ∀ {ts : List Tree} {rs : List PC}, HSs P w ts rs → rs.length = ts.length
  | [], rs, h => by rw [HSs_nil] at h; subst h; rfl
  | t :: ts, rs, h => by
    obtain ⟨r, rest, rfl, _, h2⟩ := (HSs_cons _ _ _ _ _).1 h
    simp [HSs.len h2]
theorem HSs.at {P : Nat → Prop} {w : World} : ∀ {ts : List Tree} {rs : List PC}, HSs P w ts rs → ∀ {i : Nat} {t : Tree}, ts[i]? = some t → ∃ r, rs[i]? = some r ∧ HS P w t r
  | [], rs, h, i, t, hi => by simp at hi
  | t0 :: ts, rs, h, i, t, hi => by
    obtain ⟨r, rest, rfl, h1, h2⟩ := (HSs_cons _ _ _ _ _).1 h
    cases i with
    | zero => simp at hi; subst hi; exact ⟨r, rfl, h1⟩
    | succ i =>
      obtain ⟨r', h3, h4⟩ := HSs.at h2 (i := i) (t := t) (by simpa using hi)
      exact ⟨r', by simpa using h3, h4⟩
theorem HS.kind {P : Nat → Prop} {w : World} {t : Tree} {x : PC} (h : HS P w t x) (k : Int) : HS P w t ⟨k, x.s, x.b⟩ := by
  obtain ⟨k0, set, subs⟩ := t
  rw [HS_mk] at h ⊢
  exact h
theorem HSs.kind {P : Nat → Prop} {w : World} (k : Int) : ∀ {ts : List Tree} {rs : List PC}, HSs P w ts rs → ∀ {i : Nat} {r : PC}, rs[i]? = some r → HSs P w ts (rs.set i ⟨k, r.s, r.b⟩)
  | [], rs, h, i, r, hi => by rw [HSs_nil] at h; subst h; simp at hi
  | t0 :: ts, rs, h, i, r, hi => by
    obtain ⟨r0, rest, rfl, h1, h2⟩ := (HSs_cons _ _ _ _ _).1 h
    cases i with
    | zero => simp at hi; subst hi; exact (HSs_cons _ _ _ _ _).2 ⟨_, rest, rfl, h1.kind k, h2⟩
    | succ i => exact (HSs_cons _ _ _ _ _).2 ⟨r0, _, rfl, h1, HSs.kind k h2 (by simpa using hi)⟩

theorem own_lit {α : Type} {f : α → List Value} {n : Nat} {t : TypeId} {base : Nat} {w : World} {v : Value} {l : List α} (h : OwnX f n t base w v l) {g : Nat} (hg : v.ownBlock = some g) : ∃ cap cs, v = .slice (some ⟨g, 0, none⟩) l.length cap ∧ Blk w g cs t := by
  rcases h.2 with ⟨rfl, _⟩ | ⟨g', cap, cur, rfl, hb, hg', hn, hm, hs, ht⟩
  · cases hg
  · injection hg with e
    have e : g' = g := e
    subst e
    exact ⟨cap, cur, rfl, hg'⟩
/-- A number stored in a block of spans. -/
theorem own_set61 {w : World} {v : Value} {l : List (Int × Int)} (h : OwnS 0 w v l) (g i : Nat) (z : Int) : ∃ l', l'.length = l.length ∧ OwnS 0 (w.setCell ⟨g, i * 2, none⟩ (.int .u32 z)) v l' := by
  by_cases e : v.ownBlock = some g
  · obtain ⟨cap, cs, rfl, _⟩ := own_lit h e
    have h1 := owns_set h (i * 2) (.int .u32 z)
    by_cases hi : i < l.length
    · obtain ⟨y, hy⟩ : ∃ y, l[i]? = some y := ⟨_, List.getElem?_eq_getElem hi⟩
      refine ⟨l.set i (z, y.2), by simp, ?_⟩
      show World.ownsRow _ 0 78 2 _ _ _
      rw [List.length_set]
      have h2 := cellsOf_set encS_len l i y (z, y.2) hy 0 (.int .u32 z) rfl (by omega)
      rw [Nat.add_zero] at h2
      rw [← h2]
      exact h1
    · refine ⟨l, rfl, ?_⟩
      have h2 : (cellsOf encS l).set (i * 2) (.int .u32 z) = cellsOf encS l := List.set_eq_of_length_le (by rw [cellsOf_length encS_len]; omega)
      rw [h2] at h1
      exact h1
  · exact ⟨l, rfl, h.setOther e _⟩
/-- A kind stored in a block of patterns. -/
theorem own_set25 {w : World} {v : Value} {l : List PC} (h : OwnT 0 w v l) (g i : Nat) (k : Int) : (∃ r, l[i]? = some r ∧ OwnT 0 (w.setCell ⟨g, i * 3, none⟩ (.int .i64 k)) v (l.set i ⟨k, r.s, r.b⟩)) ∨ OwnT 0 (w.setCell ⟨g, i * 3, none⟩ (.int .i64 k)) v l := by
  by_cases e : v.ownBlock = some g
  · obtain ⟨cap, cs, rfl, _⟩ := own_lit h e
    have h1 := owns_set h (i * 3) (.int .i64 k)
    by_cases hi : i < l.length
    · obtain ⟨y, hy⟩ : ∃ y, l[i]? = some y := ⟨_, List.getElem?_eq_getElem hi⟩
      refine Or.inl ⟨y, hy, ?_⟩
      show World.ownsRow _ 0 25 3 _ _ _
      rw [List.length_set]
      have h2 := cellsOf_set encT_len l i y ⟨k, y.s, y.b⟩ hy 0 (.int .i64 k) rfl (by omega)
      rw [Nat.add_zero] at h2
      rw [← h2]
      exact h1
    · refine Or.inr ?_
      have h2 : (cellsOf encT l).set (i * 3) (.int .i64 k) = cellsOf encT l := List.set_eq_of_length_le (by rw [cellsOf_length encT_len]; omega)
      rw [h2] at h1
      exact h1
  · exact Or.inr (h.setOther e _)
mutual
theorem HS.set61 {P : Nat → Prop} {w : World} {g : Nat} {cs : Array Value} (hg : Blk w g cs 78) (i : Nat) (z : Int) : ∀ {t : Tree} {x : PC}, HS P w t x → HS P (w.setCell ⟨g, i * 2, none⟩ (.int .u32 z)) t x
  | .mk k set subs, x, h => by
    obtain ⟨⟨set', h1, h2⟩, h3, rows, ⟨h4, h5⟩, h6⟩ := (HS_mk _ _ _ _ _ _).1 h
    obtain ⟨l', h7, h8⟩ := own_set61 h2 g i z
    exact (HS_mk _ _ _ _ _ _).2 ⟨⟨l', h7.trans h1, h8⟩, h3, rows, ⟨h4.setOther (h4.neBlk hg (by decide)) _, h5⟩, HSs.set61 hg i z h6⟩
theorem HSs.set61 {P : Nat → Prop} {w : World} {g : Nat} {cs : Array Value} (hg : Blk w g cs 78) (i : Nat) (z : Int) : ∀ {ts : List Tree} {rs : List PC}, HSs P w ts rs → HSs P (w.setCell ⟨g, i * 2, none⟩ (.int .u32 z)) ts rs
  | [], rs, h => (HSs_nil _ _ _).2 ((HSs_nil _ _ _).1 h)
  | t :: ts, rs, h => by
    obtain ⟨r, rest, rfl, h1, h2⟩ := (HSs_cons _ _ _ _ _).1 h
    exact (HSs_cons _ _ _ _ _).2 ⟨r, rest, rfl, HS.set61 hg i z h1, HSs.set61 hg i z h2⟩
end
mutual
theorem HS.set25 {P : Nat → Prop} {w : World} {g : Nat} {cs : Array Value} (hg : Blk w g cs 25) (i : Nat) (z : Int) : ∀ {t : Tree} {x : PC}, HS P w t x → HS P (w.setCell ⟨g, i * 3, none⟩ (.int .i64 z)) t x
  | .mk k set subs, x, h => by
    obtain ⟨⟨set', h1, h2⟩, h3, rows, ⟨h4, h5⟩, h6⟩ := (HS_mk _ _ _ _ _ _).1 h
    have h6' := HSs.set25 hg i z h6
    rcases own_set25 h4 g i z with ⟨r, hr, h7⟩ | h7
    · exact (HS_mk _ _ _ _ _ _).2 ⟨⟨set', h1, h2.setOther (h2.neBlk hg (by decide)) _⟩, h3, _, ⟨h7, h5⟩, HSs.kind z h6' hr⟩
    · exact (HS_mk _ _ _ _ _ _).2 ⟨⟨set', h1, h2.setOther (h2.neBlk hg (by decide)) _⟩, h3, rows, ⟨h7, h5⟩, h6'⟩
theorem HSs.set25 {P : Nat → Prop} {w : World} {g : Nat} {cs : Array Value} (hg : Blk w g cs 25) (i : Nat) (z : Int) : ∀ {ts : List Tree} {rs : List PC}, HSs P w ts rs → HSs P (w.setCell ⟨g, i * 3, none⟩ (.int .i64 z)) ts rs
  | [], rs, h => (HSs_nil _ _ _).2 ((HSs_nil _ _ _).1 h)
  | t :: ts, rs, h => by
    obtain ⟨r, rest, rfl, h1, h2⟩ := (HSs_cons _ _ _ _ _).1 h
    exact (HSs_cons _ _ _ _ _).2 ⟨r, rest, rfl, HS.set25 hg i z h1, HSs.set25 hg i z h2⟩
end

/-- What stays while blocks of which P holds are written over. -/
structure SF (P : Nat → Prop) (w w' : World) : Prop where
  os : w'.os = w.os
  tape : w'.tape = w.tape
  output : w'.output = w.output
  size : w.heap.size ≤ w'.heap.size
  block : ∀ g, g < w.heap.size → ¬ P g → w'.heap[g]? = w.heap[g]?
  stay : ∀ t x, HS P w t x → HS P w' t x
theorem SF.refl (P : Nat → Prop) (w : World) : SF P w w := ⟨rfl, rfl, rfl, Nat.le_refl _, fun _ _ _ => rfl, fun _ _ h => h⟩
theorem SF.trans {P : Nat → Prop} {a b c : World} (h : SF P a b) (k : SF P b c) : SF P a c :=
  ⟨k.os.trans h.os, k.tape.trans h.tape, k.output.trans h.output, Nat.le_trans h.size k.size, fun g h1 h2 => (k.block g (Nat.lt_of_lt_of_le h1 h.size) h2).trans (h.block g h1 h2), fun t x hx => k.stay t x (h.stay t x hx)⟩
theorem SF.of {P : Nat → Prop} {w w' : World} (h : Below w.heap.size w w') (hP : ∀ g, P g → g < w.heap.size) : SF P w w' :=
  ⟨h.os, h.tape, h.output, h.size, fun g h1 _ => h.block g h1, fun _ _ hx => HS.same (fun g hg => h.block g (hP g hg)) hx⟩
theorem SF.set61 {P : Nat → Prop} {w w' : World} (h : SF P w w') {g : Nat} {cs : Array Value} (hg : Blk w' g cs 78) (hP : P g) (i : Nat) (z : Int) : SF P w (w'.setCell ⟨g, i * 2, none⟩ (.int .u32 z)) := by
  have e := (Below.refl 0 w').setCell (p := ⟨g, i * 2, none⟩) (Nat.zero_le _) (.int .u32 z)
  exact ⟨e.os.trans h.os, e.tape.trans h.tape, e.output.trans h.output, Nat.le_trans h.size e.size, fun q h1 h2 => (Below.heap_setCell _ _ _ _ (by rintro rfl; exact h2 hP)).trans (h.block q h1 h2), fun t x hx => HS.set61 hg i z (h.stay t x hx)⟩
theorem SF.set25 {P : Nat → Prop} {w w' : World} (h : SF P w w') {g : Nat} {cs : Array Value} (hg : Blk w' g cs 25) (hP : P g) (i : Nat) (z : Int) : SF P w (w'.setCell ⟨g, i * 3, none⟩ (.int .i64 z)) := by
  have e := (Below.refl 0 w').setCell (p := ⟨g, i * 3, none⟩) (Nat.zero_le _) (.int .i64 z)
  exact ⟨e.os.trans h.os, e.tape.trans h.tape, e.output.trans h.output, Nat.le_trans h.size e.size, fun q h1 h2 => (Below.heap_setCell _ _ _ _ (by rintro rfl; exact h2 hP)).trans (h.block q h1 h2), fun t x hx => HS.set25 hg i z (h.stay t x hx)⟩
theorem SF.blk {P : Nat → Prop} {w w' : World} (h : SF P w w') {b : Nat} {cs : Array Value} {t : TypeId} (hb : Blk w b cs t) (hP : ¬ P b) : Blk w' b cs t := (h.block b hb.lt hP).trans hb
theorem SF.below {P : Nat → Prop} {w w' : World} {B : Nat} (h : SF P w w') (hP : ∀ g, P g → B ≤ g) (hB : B ≤ w.heap.size) : Below B w w' :=
  ⟨h.os, h.tape, h.output, h.size, fun k hk => h.block k (by omega) (fun hp => by have := hP k hp; omega)⟩

end Go.Proofs.YtjjlkjfhhpogaaaDoor
