/-
  slices.SortFunc at this program's spans: a row that a call owns comes out a permutation of what it held, rising by where the spans begin.
-/
import Derived.Test.YtihnmamejfoeeaaDoorS1Lay
import Derived.Test.YtihnmamejfoeeaaDoorS1App
namespace Go.Proofs.YtihnmamejfoeeaaDoorS1
open Go.RowKit
open Go.Sort (grow alloc_eq_grow grow_grow cell?_grow HoldsK flatK putRowK holdsK_putRowK holdsK_ahead size_putRowK)

/-- The order of the closure. -/
def cfS (x y : Sp) : Int := cmpV x.1 y.1

theorem ltS (x y : Sp) : ltOf cfS x y = decide (x.1 < y.1) := by
  unfold ltOf cfS cmpV
  by_cases h1 : x.1 < y.1
  · simp [h1]
  · by_cases h2 : y.1 < x.1 <;> simp [h1, h2]

theorem swoS : Go.Sort.SWO (ltOf cfS) where
  irrefl x := by rw [ltS]; simp
  trans x y z h1 h2 := by rw [ltS] at *; simp at *; omega
  ntrans x y z h1 h2 := by rw [ltS] at *; simp at *; omega

theorem cmpLays (blk off size : Nat) (w : World) : CmpLays Tryd.prog 53 #[] enc2 2 cfS blk off size w :=
  fun _ _ _ _ x y => (closure_any x y _).mono fun _ _ ⟨he, c1, c2, hw⟩ => ⟨he, 0, #[.cells c1 39, .cells c2 39], by rw [hw, alloc_eq_grow, alloc_eq_grow, grow_grow]; rfl⟩

theorem holdsOwn {base : Nat} {w : World} {g n cap : Nat} {l : List Sp} (h : Own2 base w (.slice (some ⟨g, 0, none⟩) n cap) l) (hne : l ≠ []) : HoldsK enc2 2 w g 0 l.toArray := by
  obtain ⟨g', cap', hv, _, _, _, hfr, hcl⟩ := h.shape hne
  simp at hv
  obtain ⟨rfl, _⟩ := hv
  intro j hj
  rw [flatK] at hj ⊢
  simp at hj
  refine ⟨?_, hfr _⟩
  have hi : j / 2 < l.length := by omega
  obtain ⟨x, hx⟩ : ∃ x, l[j / 2]? = some x := ⟨_, List.getElem?_eq_getElem hi⟩
  have hd : l.toArray[j / 2]! = x := by
    obtain ⟨hi', rfl⟩ := List.getElem?_eq_some_iff.1 hx
    simp [hi]
  obtain ⟨c1, c2⟩ := hcl (j / 2) x hx
  rw [getElem!_pos _ j (by simpa using hj)]
  simp only [Array.getElem_map, Array.getElem_range, id_eq]
  rw [hd]
  rcases Nat.mod_two_eq_zero_or_one j with h0 | h1
  · rw [h0]
    have : 0 + j = j / 2 * 2 := by omega
    rw [this]; exact c1
  · rw [h1]
    have : 0 + j = j / 2 * 2 + 1 := by omega
    rw [this]; exact c2

theorem heap_mapBlock_other (w : World) (blk k : Nat) (f : Array Value → Array Value) (h : k ≠ blk) : (Go.Sort.mapBlock w blk f).heap[k]? = w.heap[k]? := by
  simp [Go.Sort.mapBlock, Array.getElem?_modify, Ne.symm h]

/-- A world of the sort's: nothing below the row's block has turned; the row holds what the sort says. -/
theorem sorted_world {base : Nat} {w : World} {g cap n m : Nat} {l : List Sp} {d' : Array Sp} {os : Array Obj} (h : Own2 base w (.slice (some ⟨g, 0, none⟩) n cap) l) (hne : l ≠ []) (hs : d'.size = l.length) :
    Below base w (sortWorldK enc2 2 w g 0 m d' os) ∧ Row2 (sortWorldK enc2 2 w g 0 m d' os) (.slice (some ⟨g, 0, none⟩) n cap) d'.toList := by
  obtain ⟨g', cap', hv, hb, hlt, _, hfr, hcl⟩ := h.shape hne
  have hH := holdsOwn h hne
  simp at hv
  obtain ⟨rfl, rfl, rfl⟩ := hv
  have hsz : (putRowK enc2 2 (Go.Sort.ahead w m) g 0 d').heap.size = w.heap.size := size_putRowK ..
  refine ⟨⟨rfl, rfl, rfl, by simp [sortWorldK, hsz], fun k hk => ?_⟩, ⟨_, cap, by simp [hs], fun _ => ⟨g, 0, rfl, by simp [sortWorldK, hsz]; omega, fun i x hx => ?_⟩, fun h => by cases h⟩⟩
  · show ((putRowK enc2 2 (Go.Sort.ahead w m) g 0 d').heap ++ os)[k]? = _
    rw [Array.getElem?_append_left (by rw [hsz]; omega)]
    exact heap_mapBlock_other (Go.Sort.ahead w m) g k _ (by omega)
  · have hp := holdsK_putRowK enc2 2 (Go.Sort.ahead w m) g 0 l.toArray d' (holdsK_ahead _ _ _ _ _ _ _ hH) (by simpa using hs)
    obtain ⟨hi, rfl⟩ := List.getElem?_eq_some_iff.1 hx
    have hi' : i < d'.size := by simpa using hi
    have e : ∀ o, (sortWorldK enc2 2 w g 0 m d' os).cell? ⟨g, o, none⟩ = (putRowK enc2 2 (Go.Sort.ahead w m) g 0 d').cell? ⟨g, o, none⟩ := fun o => cell?_grow _ _ _ (by show g < _; rw [hsz]; exact hlt)
    have a1 := (hp.cell (i := i) (c := 0) hi' (by decide)).1
    have a2 := (hp.cell (i := i) (c := 1) hi' (by decide)).1
    have hd : d'[i]! = d'.toList[i] := by rw [getElem!_pos d' i hi']; simp
    rw [hd] at a1 a2
    rw [e, e]
    exact ⟨by simpa [enc2] using a1, by simpa [enc2, Nat.add_assoc] using a2⟩

end Go.Proofs.YtihnmamejfoeeaaDoorS1
