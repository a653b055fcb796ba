/-
  The walk of the document's own 'begins'.
-/
import Derived.Test.YtepioggejacfjaaWith
import Derived.Test.YtepioggejacfjaaW2
namespace Go.Proofs.Ytepioggejacfjaa
open Go.RowKit

theorem Own1.one (w : World) (x : Int) : Own1 w.heap.size (w.alloc (.cells #[.int .u32 x] 23)) (.slice (some ⟨w.heap.size, 0, none⟩) 1 1) [x] :=
  ⟨rfl, .inr ⟨w.heap.size, 1, #[.int .u32 x], rfl, Nat.le_refl _, heap_alloc_new w _, Nat.le_refl _, by decide, rfl, rfl⟩⟩

theorem Begs.start (f : Int → Int) : Begs f [] [0] := ⟨by simp [Rising], fun x => by simp⟩

theorem Begs.ne {f : Int → Int} {l : List Sp} {b : List Int} (h : Begs f l b) : b ≠ [] := fun e => by
  have := (h.mem 0).2 (Or.inl rfl)
  rw [e] at this
  simp at this

theorem Begs.step1 {f : Int → Int} {l : List Sp} {b m : List Int} {x : Sp} (h : Begs f l b) (hm : Withed b (f x.1) m) (hx : ¬ f x.2 < 65535) : Begs f (l ++ [x]) m :=
  ⟨hm.1, fun y => by
    rw [hm.2.1 y, h.mem y]
    constructor
    · rintro ((h | ⟨s, hs, h⟩) | h)
      · exact Or.inl h
      · exact Or.inr ⟨s, by simp [hs], h⟩
      · exact Or.inr ⟨x, by simp, Or.inl h⟩
    · rintro (h | ⟨s, hs, h⟩)
      · exact Or.inl (Or.inl h)
      · rcases List.mem_append.1 hs with hs | hs
        · exact Or.inl (Or.inr ⟨s, hs, h⟩)
        · simp at hs
          subst hs
          rcases h with h | h
          · exact Or.inr h
          · exact absurd h.1 hx⟩

theorem Begs.step2 {f : Int → Int} {l : List Sp} {b m n : List Int} {x : Sp} (h : Begs f l b) (hm : Withed b (f x.1) m) (hn : Withed m (f x.2 + 1) n) (hx : f x.2 < 65535) : Begs f (l ++ [x]) n :=
  ⟨hn.1, fun y => by
    rw [hn.2.1 y, hm.2.1 y, h.mem y]
    constructor
    · rintro (((h | ⟨s, hs, h⟩) | h) | h)
      · exact Or.inl h
      · exact Or.inr ⟨s, by simp [hs], h⟩
      · exact Or.inr ⟨x, by simp, Or.inl h⟩
      · exact Or.inr ⟨x, by simp, Or.inr ⟨hx, h⟩⟩
    · rintro (h | ⟨s, hs, h⟩)
      · exact Or.inl (Or.inl (Or.inl h))
      · rcases List.mem_append.1 hs with hs | hs
        · exact Or.inl (Or.inl (Or.inr ⟨s, hs, h⟩))
        · simp at hs
          subst hs
          rcases h with h | h
          · exact Or.inl (Or.inr h)
          · exact Or.inr h.2⟩

theorem Begs.congr {f g : Int → Int} {l : List Sp} {b : List Int} (h : Begs f l b) (e : ∀ s ∈ l, f s.1 = g s.1 ∧ f s.2 = g s.2) : Begs g l b :=
  ⟨h.rising, fun x => by
    rw [h.mem x]
    constructor
    · rintro (h | ⟨s, hs, h⟩)
      · exact Or.inl h
      · exact Or.inr ⟨s, hs, by rw [← (e s hs).1, ← (e s hs).2]; exact h⟩
    · rintro (h | ⟨s, hs, h⟩)
      · exact Or.inl h
      · exact Or.inr ⟨s, hs, by rw [(e s hs).1, (e s hs).2]; exact h⟩⟩

/-- The part of a number that 'by' names. -/
def byP (q n : Int) : Int := n / q % 65536

set_option maxHeartbeats 2000000 in
theorem rbegins_any (q : Int) (hq : q = 65536 ∨ q = 1) (v : Value) (l : List Sp) (w : World) (hl : l.length ≤ 64) (hg : Good l) (hv : Row2 w v l) :
    Calls Try.prog 28 #[v, .int .u32 q] w fun e w' => ∃ u b, e = .returned u ∧ Begs (byP q) l b ∧ b.length ≤ 1 + 2 * l.length ∧ Own1 w.heap.size w' u b ∧ Below w.heap.size w w' := by
  obtain ⟨ao, cap, rfl, hc, _⟩ := hv
  have HG : Hid (Good l) := hg
  clear hg
  have hq1 : 1 ≤ q := by omega
  have hq2 : q ≤ 65536 := by omega
  have HQ : Hid (q = 65536 ∨ q = 1) := hq
  have hqn : (q == 0) = false := by simp; omega
  clear hq
  go_enter Try.func28, Try.ntmps28
  go_wp2_with fail
  go_loopw [5, 12] (fun out i wr => ∃ (k : Nat) (b : List Int), k ≤ l.length ∧ i = .int .i64 k ∧ Own1 w.heap.size wr out b ∧ Begs (byP q) (l.take k) b ∧ b.length ≤ 1 + 2 * k ∧ Below w.heap.size w wr) (fun _ i _ => l.length - (intOf i).toNat)
  case atStart => exact ⟨0, [0], Nat.zero_le _, rfl, Own1.one w 0, Begs.start _, by simp, (Below.refl _ _).alloc (Nat.le_refl _) _⟩
  case round =>
    obtain ⟨k, b, hk, rfl, hown, hbeg, hblen, hB⟩ := hrel
    have hB' := hB.size
    by_cases hlt : k < l.length
    · obtain ⟨ba, offa, rfl, hba, hcella⟩ := hc (ne_nil_of_lt hlt)
      obtain ⟨x, hx⟩ : ∃ x, l[k]? = some x := ⟨_, List.getElem?_eq_getElem hlt⟩
      obtain ⟨c1, c2⟩ := hcella k x hx
      have c1' : wr.cell? ⟨ba, offa + k * 2, none⟩ = some (.int .u32 x.1) := (hB.cell (by exact hba)).trans c1
      have c2' : wr.cell? ⟨ba, offa + k * 2 + 1, none⟩ = some (.int .u32 x.2) := (hB.cell (by exact hba)).trans c2
      obtain ⟨x10, x11, x20, x21⟩ := HG.out x (List.mem_of_getElem? hx)
      have HT : Hid (l.take (k + 1) = l.take k ++ [x]) := take_succ_of hx
      have hd1 : 0 ≤ x.1 / q := Int.ediv_nonneg x10 (by omega)
      have hd2 : 0 ≤ x.2 / q := Int.ediv_nonneg x20 (by omega)
      clear hc hcella c1 c2 hx
      go_wp2_with fail
      have hown1 := hown.alloc (.cells #[.int .u32 x.1, .int .u32 x.2] 26)
      refine (with_any w.heap.size _ b (byP q x.1) _ (by omega) hbeg.ne hbeg.rising hown1 (by simp; omega)).mono ?_
      rintro e w3 ⟨u3, b3, rfl, hw3, hown3, hB3, hoth3⟩
      have d1 : w3.cell? ⟨wr.heap.size, 1, none⟩ = some (.int .u32 x.2) :=
        (World.cell?_of_block (w := wr.alloc (.cells #[.int .u32 x.1, .int .u32 x.2] 26)) (a := ⟨wr.heap.size, 1, none⟩) (hoth3 wr.heap.size (by simp) (hown.notAt (Nat.le_refl _)))).trans (by simp [go_sem])
      have hl3 := hw3.2.2
      have BB := (hB.alloc hB' (.cells #[.int .u32 x.1, .int .u32 x.2] 26)).trans hB3
      have HW3 : Hid (Withed b (byP q x.1) b3) := hw3
      have hne3 : b3 ≠ [] := fun e => by
        have := (hw3.2.1 0).2 (Or.inl ((hbeg.mem 0).2 (Or.inl rfl)))
        rw [e] at this
        simp at this
      have hr3 := hw3.1
      have HBG : Hid (Begs (byP q) (l.take k) b) := hbeg
      clear hoth3 hown1 hw3 hown hB3 hbeg
      obtain ⟨z, hz⟩ : ∃ z, z = byP q x.2 := ⟨_, rfl⟩
      have HZ : Hid (z = byP q x.2) := hz
      have hz0 : 0 ≤ z := by rw [hz]; unfold byP; omega
      have hz1 : z ≤ 65535 := by rw [hz]; unfold byP; omega
      by_cases hM : z < 65535
      · have hM' : x.2 / q % 65536 < 65535 := by rw [hz] at hM; exact hM
        clear hz
        go_wp2_with fail
        refine (with_any w.heap.size _ b3 (byP q x.2 + 1) _ (by omega) hne3 hr3 hown3 (by have := BB.size; omega)).mono ?_
        rintro e w4 ⟨u4, b4, rfl, hw4, hown4, hB4, hoth4⟩
        have hl4 := hw4.2.2
        have HW4 : Hid (Withed b3 (byP q x.2 + 1) b4) := hw4
        clear hoth4 hw4
        go_wp2_with fail
        go_roundw
        case rel => exact ⟨k + 1, b4, by omega, by go_num, hown4, by rw [HT.out]; exact HBG.out.step2 HW3.out HW4.out hM', by omega, BB.trans hB4⟩
        case measure => simp [intOf]; omega
      · have hM' : ¬ x.2 / q % 65536 < 65535 := by rw [hz] at hM; exact hM
        clear hz
        go_wp2_with fail
        go_roundw
        case rel => exact ⟨k + 1, b3, by omega, by go_num, hown3, by rw [HT.out]; exact HBG.out.step1 HW3.out (by unfold byP; omega), by omega, BB⟩
        case measure => simp [intOf]; omega
    · have hke : k = l.length := by omega
      subst hke
      rw [List.take_length] at hbeg
      clear hc
      go_wp2_with fail
      go_ret
      exact ⟨_, b, rfl, hbeg, hblen, hown, hB⟩

theorem byP_hi {l : List Sp} (h : Good l) : ∀ s ∈ l, byP 65536 s.1 = hiP s.1 ∧ byP 65536 s.2 = hiP s.2 := fun s hs => by
  have := h s hs; unfold byP hiP; omega
theorem byP_lo {l : List Sp} (h : Good l) : ∀ s ∈ l, byP 1 s.1 = loP s.1 ∧ byP 1 s.2 = loP s.2 := fun s hs => by
  have := h s hs; unfold byP loP; omega

/-- The AS numbers at which kinds may begin. -/
theorem rbegins_hi (v : Value) (l : List Sp) (w : World) (hl : l.length ≤ 64) (hg : Good l) (hv : Row2 w v l) :
    Calls Try.prog 28 #[v, .int .u32 65536] w fun e w' => ∃ u b, e = .returned u ∧ Begs hiP l b ∧ b.length ≤ 1 + 2 * l.length ∧ Own1 w.heap.size w' u b ∧ Below w.heap.size w w' :=
  (rbegins_any 65536 (Or.inl rfl) v l w hl hg hv).mono fun _ _ ⟨u, b, h1, h2, h3⟩ => ⟨u, b, h1, h2.congr (byP_hi hg), h3⟩

/-- The values at which kinds may begin. -/
theorem rbegins_lo (v : Value) (l : List Sp) (w : World) (hl : l.length ≤ 64) (hg : Good l) (hv : Row2 w v l) :
    Calls Try.prog 28 #[v, .int .u32 1] w fun e w' => ∃ u b, e = .returned u ∧ Begs loP l b ∧ b.length ≤ 1 + 2 * l.length ∧ Own1 w.heap.size w' u b ∧ Below w.heap.size w w' :=
  (rbegins_any 1 (Or.inr rfl) v l w hl hg hv).mono fun _ _ ⟨u, b, h1, h2, h3⟩ => ⟨u, b, h1, h2.congr (byP_lo hg), h3⟩
end Go.Proofs.Ytepioggejacfjaa
