/-
  Patterns made of literals: Any, five; rows of literals that a call owns; a pattern so many times, as a tree.
-/
import Derived.Test.YtihnmamejfoeeaaDoorCp
namespace Go.Proofs.YtihnmamejfoeeaaDoor
open Go.RowKit

def anyT : Tree := .mk 1 [(0, 4294967295)] []
def fiveT : Tree := .mk 1 [(5, 5)] []
def zeroT : Tree := .mk 0 [] []
def catT : Tree := .mk 2 [] []
def mayT (t : Tree) : Tree := .mk 3 [] [t, catT]
def starT (t : Tree) : Tree := .mk 4 [] [t]
def rowL (t : Tree) (a m : Nat) (e : Bool) : List Tree := List.replicate a t ++ (List.replicate m (mayT t) ++ (if e then [starT t] else []))
def rowT (t : Tree) (a m : Nat) (e : Bool) : Tree := .mk 2 [] (rowL t a m e)
/-- A pattern so many times, and the error. -/
def timesT (t : Tree) (a b : Int) : Tree × Int :=
  if a < 0 then (zeroT, 2) else if rightT t = false then (zeroT, 4) else if 0 ≤ b ∧ b < a then (zeroT, 2)
  else if rightT (rowT t a.toNat (if b < 0 then 0 else b - a).toNat (decide (b < 0))) = true then (rowT t a.toNat (if b < 0 then 0 else b - a).toNat (decide (b < 0)), 0) else (zeroT, 6)

/-- A literal's row. -/
theorem OwnX.lit {α : Type} {f : α → List Value} {n : Nat} {t : TypeId} {base : Nat} {w : World} {b : Nat} {l : List α} (hf : ∀ x, (f x).length = n) {cs : Array Value} (hb : Blk w b cs t) (hcs : cs.toList = cellsOf f l) (h : base ≤ b) (hl : l.length ≤ 1000) : OwnX f n t base w (.slice (some ⟨b, 0, none⟩) l.length l.length) l := by
  have hs : cs.size = l.length * n := by rw [← Array.length_toList, hcs, cellsOf_length hf]
  exact ⟨cellsOf_length hf l, .inr ⟨b, l.length, cs, rfl, h, hb, Nat.le_refl _, by unfold maxLen; omega, hs, by rw [hcs, ← cellsOf_length hf l, List.take_length]⟩⟩

theorem HO_one {P : Nat → Prop} {w : World} {s : Int × Int} {b : Nat} {cs : Array Value} (hb : Blk w b cs 39) (hcs : cs.toList = cellsOf encS [s]) (hP : P b) : HO P w (.mk 1 [s] []) ⟨1, ⟨some ⟨b, 0, none⟩, 1, 1⟩, ⟨none, 0, 0⟩⟩ :=
  (HO_mk _ _ _ _ _ _).2 ⟨rfl, ⟨OwnX.lit (l := [s]) encS_len hb hcs (Nat.zero_le _) (by simp), fun g hg => by injection hg with hg; have hg : b = g := hg; subst hg; exact hP⟩, [], ⟨OwnX.nil _ _ _ _ _, fun g hg => by cases hg⟩, (HOs_nil _ _ _).2 rfl⟩
theorem HO_none {P : Nat → Prop} {w : World} (k : Int) : HO P w (.mk k [] []) ⟨k, ⟨none, 0, 0⟩, ⟨none, 0, 0⟩⟩ :=
  (HO_mk _ _ _ _ _ _).2 ⟨rfl, ⟨OwnX.nil _ _ _ _ _, fun g hg => by cases hg⟩, [], ⟨OwnX.nil _ _ _ _ _, fun g hg => by cases hg⟩, (HOs_nil _ _ _).2 rfl⟩
theorem HO_sub1 {P : Nat → Prop} {w : World} {k : Int} {t : Tree} {r : PC} {b : Nat} {cs : Array Value} (hr : HO P w t r) (hb : Blk w b cs 25) (hcs : cs.toList = cellsOf encT [r]) (hP : P b) : HO P w (.mk k [] [t]) ⟨k, ⟨none, 0, 0⟩, ⟨some ⟨b, 0, none⟩, 1, 1⟩⟩ :=
  (HO_mk _ _ _ _ _ _).2 ⟨rfl, ⟨OwnX.nil _ _ _ _ _, fun g hg => by cases hg⟩, [r], ⟨OwnX.lit (l := [r]) encT_len hb hcs (Nat.zero_le _) (by simp), fun g hg => by injection hg with hg; have hg : b = g := hg; subst hg; exact hP⟩, (HOs_cons _ _ _ _ _).2 ⟨r, [], rfl, hr, (HOs_nil _ _ _).2 rfl⟩⟩
theorem HO_sub2 {P : Nat → Prop} {w : World} {k : Int} {t t' : Tree} {r r' : PC} {b : Nat} {cs : Array Value} (hr : HO P w t r) (hr' : HO P w t' r') (hb : Blk w b cs 25) (hcs : cs.toList = cellsOf encT [r, r']) (hP : P b) : HO P w (.mk k [] [t, t']) ⟨k, ⟨none, 0, 0⟩, ⟨some ⟨b, 0, none⟩, 2, 2⟩⟩ :=
  (HO_mk _ _ _ _ _ _).2 ⟨rfl, ⟨OwnX.nil _ _ _ _ _, fun g hg => by cases hg⟩, [r, r'], ⟨OwnX.lit (l := [r, r']) encT_len hb hcs (Nat.zero_le _) (by simp), fun g hg => by injection hg with hg; have hg : b = g := hg; subst hg; exact hP⟩, (HOs_cons _ _ _ _ _).2 ⟨r, [r'], rfl, hr, (HOs_cons _ _ _ _ _).2 ⟨r', [], rfl, hr', (HOs_nil _ _ _).2 rfl⟩⟩⟩

set_option maxRecDepth 100000 in
set_option maxHeartbeats 1000000 in
theorem any_any (w : World) : Calls Tryd.prog 31 #[] w fun e w' => PostC anyT w e w' := by
  go_enter Tryd.func31, Tryd.ntmps31
  go_wp2_with fail
  refine bodyPost_ret (v := PC.v ⟨1, ⟨some ⟨w.heap.size + 1, 0, none⟩, 1, 1⟩, ⟨none, 0, 0⟩⟩) ?_ rfl ⟨_, rfl, HO_one (Blk.new' _ _ _ _ (by simp)) rfl ⟨by omega, by simp⟩, ((Below.refl _ _).alloc (Nat.le_refl _) _).alloc (by simp) _⟩
  simp [results, Tryd.results31]
  exact run_ptv (x := ⟨1, ⟨some ⟨w.heap.size + 1, 0, none⟩, 1, 1⟩, ⟨none, 0, 0⟩⟩) ((Blk.new _ _ _).alloc _)
theorem CI.start0 {w W2 : World} {x : PC} {subs : List Tree} (hB : Below w.heap.size w W2) (hX : Blk W2 w.heap.size (encT x).toArray 25) (hR : Blk W2 (w.heap.size + 1) (encT ⟨0, ⟨none, 0, 0⟩, ⟨none, 0, 0⟩⟩).toArray 25) (hz : w.heap.size + 2 ≤ W2.heap.size) :
    CI w x 2 [] subs W2.heap.size 0 ⟨none, 0, 0⟩ ⟨none, 0, 0⟩ [] (W2.alloc (.cells #[.int .i64 2, .slice none 0 0, .slice none 0 0] 25)) :=
  CI.start1 (B := W2.heap.size) (ao := none) (cap := 0) (set := []) hB hX hR (OwnX.nil _ _ _ _ _) hz (Nat.le_refl _)

theorem CI.start0' {w W2 : World} {x : PC} {subs : List Tree} {b3 : Nat} (hB : Below w.heap.size w W2) (hX : Blk W2 w.heap.size (encT x).toArray 25) (hR : Blk W2 (w.heap.size + 1) (encT ⟨0, ⟨none, 0, 0⟩, ⟨none, 0, 0⟩⟩).toArray 25) (hz : w.heap.size + 2 ≤ W2.heap.size) (hb : b3 = W2.heap.size) :
    CI w x 2 [] subs b3 0 ⟨none, 0, 0⟩ ⟨none, 0, 0⟩ [] (W2.alloc (.cells #[.int .i64 2, .slice none 0 0, .slice none 0 0] 25)) := by
  subst hb
  exact CI.start0 hB hX hR hz

theorem rowL_len (t : Tree) (a m : Nat) (e : Bool) : (rowL t a m e).length = a + m + (if e then 1 else 0) := by
  unfold rowL
  cases e <;> simp <;> omega
theorem rowL_at1 {t : Tree} {a m : Nat} {e : Bool} {j : Nat} (h : j < a) : (rowL t a m e)[j]? = some t := by
  unfold rowL
  rw [List.getElem?_append_left (by simpa using h), List.getElem?_replicate, if_pos h]
theorem rowL_at2 {t : Tree} {a m : Nat} {e : Bool} {j : Nat} (h : j < m) : (rowL t a m e)[a + j]? = some (mayT t) := by
  unfold rowL
  rw [List.getElem?_append_right (by simp), List.length_replicate, Nat.add_sub_cancel_left, List.getElem?_append_left (by simpa using h), List.getElem?_replicate, if_pos h]
theorem rowL_at3 {t : Tree} {a m : Nat} : (rowL t a m true)[a + m]? = some (starT t) := by
  unfold rowL
  rw [List.getElem?_append_right (by simp), List.length_replicate, Nat.add_sub_cancel_left, List.getElem?_append_right (by simp), List.length_replicate, Nat.sub_self]
  rfl

end Go.Proofs.YtihnmamejfoeeaaDoor
