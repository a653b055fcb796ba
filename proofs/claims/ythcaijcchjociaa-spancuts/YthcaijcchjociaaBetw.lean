/-
  The walk of span.between: all numbers as spans that begin at these.
-/
import Derived.Test.YthcaijcchjociaaMath3
namespace Go.Proofs.Ythcaijcchjociaa
open Go.RowKit

theorem cells2_set : ∀ (l : List Sp) (k : Nat) (z : Sp), k < l.length → ((cells2 l).set (k * 2) (.int .u32 z.1)).set (k * 2 + 1) (.int .u32 z.2) = cells2 (l.set k z)
  | [], k, z, h => by simp at h
  | a :: l, 0, z, _ => rfl
  | a :: l, k + 1, z, h => by
      have ih := cells2_set l k z (by simpa using h)
      have e : cells2 (a :: l) = .int .u32 a.1 :: .int .u32 a.2 :: cells2 l := rfl
      have e2 : cells2 ((a :: l).set (k + 1) z) = .int .u32 a.1 :: .int .u32 a.2 :: cells2 (l.set k z) := rfl
      rw [e, e2, ← ih, show (k + 1) * 2 = k * 2 + 1 + 1 from by omega]
      rfl

theorem cells2_setHi : ∀ (l : List Sp) (k : Nat) (x : Sp) (y : Int), l[k]? = some x → (cells2 l).set (k * 2 + 1) (.int .u32 y) = cells2 (l.set k (x.1, y))
  | [], k, x, y, h => by simp at h
  | a :: l, 0, x, y, h => by simp at h; subst h; rfl
  | a :: l, k + 1, x, y, h => by
      have ih := cells2_setHi l k x y (by simpa using h)
      have e : cells2 (a :: l) = .int .u32 a.1 :: .int .u32 a.2 :: cells2 l := rfl
      have e2 : cells2 ((a :: l).set (k + 1) (x.1, y)) = .int .u32 a.1 :: .int .u32 a.2 :: cells2 (l.set k (x.1, y)) := rfl
      rw [e, e2, ← ih, show (k + 1) * 2 + 1 = k * 2 + 1 + 1 + 1 from by omega]
      rfl

theorem Own2.setAt {base : Nat} {w : World} {g n cap : Nat} {l : List Sp} (h : Own2 base w (.slice (some ⟨g, 0, none⟩) n cap) l) (k : Nat) (z : Sp) (hk : k < l.length) :
    Own2 base ((w.setCell ⟨g, k * 2, none⟩ (.int .u32 z.1)).setCell ⟨g, k * 2 + 1, none⟩ (.int .u32 z.2)) (.slice (some ⟨g, 0, none⟩) n cap) (l.set k z) := by
  have hn : n = l.length := by
    rcases h.2 with ⟨hv, _⟩ | ⟨g', cap', cur, hv, _⟩
    · simp at hv
    · simp at hv; omega
  subst hn
  have := owns_set (n := l.length) (owns_set (n := l.length) h (k * 2) (.int .u32 z.1)) (k * 2 + 1) (.int .u32 z.2)
  rw [cells2_set l k z hk] at this
  simpa [Own2] using this

theorem Own2.setHiAt {base : Nat} {w : World} {g n cap : Nat} {l : List Sp} (h : Own2 base w (.slice (some ⟨g, 0, none⟩) n cap) l) (k : Nat) (x : Sp) (y : Int) (hk : l[k]? = some x) :
    Own2 base (w.setCell ⟨g, k * 2 + 1, none⟩ (.int .u32 y)) (.slice (some ⟨g, 0, none⟩) n cap) (l.set k (x.1, y)) := by
  have hn : n = l.length := by
    rcases h.2 with ⟨hv, _⟩ | ⟨g', cap', cur, hv, _⟩
    · simp at hv
    · simp at hv; omega
  subst hn
  have := owns_set (n := l.length) h (k * 2 + 1) (.int .u32 y)
  rw [cells2_setHi l k x y hk] at this
  simpa [Own2] using this

/-- What stands in the row behind k rounds. -/
def btw (b : List Int) (k : Nat) : List Sp := (List.range b.length).map fun i => if i + 1 < k then (st b i, st b (i + 1) - 1) else if i + 1 = k then (st b i, 4294967295) else (0, 0)

theorem btw_length (b : List Int) (k : Nat) : (btw b k).length = b.length := by simp [btw]
theorem btw_get {b : List Int} {k i : Nat} (h : i < b.length) : (btw b k)[i]? = some (if i + 1 < k then (st b i, st b (i + 1) - 1) else if i + 1 = k then (st b i, 4294967295) else (0, 0)) := by
  unfold btw
  rw [List.getElem?_map, List.getElem?_range h]
  rfl

theorem btw_first {b : List Int} (h : 0 < b.length) : (btw b 0).set 0 (st b 0, 4294967295) = btw b 1 := by
  apply List.ext_getElem?
  intro i
  by_cases hi : i < b.length
  · rw [List.getElem?_set, btw_get hi, btw_get hi]
    by_cases e : 0 = i
    · subst e; simp [btw_length, h]
    · rw [if_neg e, if_neg (by omega), if_neg (by omega), if_neg (by omega), if_neg (by omega)]
  · rw [List.getElem?_eq_none (by simp [btw_length]; omega), List.getElem?_eq_none (by simp [btw_length]; omega)]

theorem btw_step {b : List Int} {k : Nat} (h : k + 1 < b.length) : ((btw b (k + 1)).set (k + 1) (st b (k + 1), 4294967295)).set k (st b k, st b (k + 1) - 1) = btw b (k + 2) := by
  apply List.ext_getElem?
  intro i
  by_cases hi : i < b.length
  · rw [List.getElem?_set, List.getElem?_set, btw_get hi, btw_get hi]
    by_cases e : k = i
    · subst e; simp [btw_length, hi]
    · rw [if_neg e]
      by_cases e2 : k + 1 = i
      · subst e2; simp [btw_length, h]
      · rw [if_neg e2]
        by_cases e3 : i + 1 < k + 1
        · rw [if_pos e3, if_pos (by omega)]
        · rw [if_neg e3, if_neg (by omega), if_neg (by omega), if_neg (by omega)]
  · rw [List.getElem?_eq_none (by simp [btw_length]; omega), List.getElem?_eq_none (by simp [btw_length]; omega)]

theorem btw_last (b : List Int) : btw b b.length = spansOf b := by
  apply List.ext_getElem?
  intro i
  by_cases hi : i < b.length
  · rw [btw_get hi]
    unfold spansOf
    rw [List.getElem?_map, List.getElem?_range hi]
    simp only [Option.map_some]
    by_cases e : i + 1 < b.length
    · rw [if_pos e]
    · rw [if_neg e, if_pos (by omega), st_none (k := i + 1) (by omega)]
      rfl
  · rw [List.getElem?_eq_none (by simp [btw_length]; omega), List.getElem?_eq_none (by simp [spansOf]; omega)]

theorem made_zero : ∀ n : Nat, (madeCells #[Value.int .u32 0, Value.int .u32 0] (n * 2)).toList = cells2 (List.replicate n (0, 0))
  | 0 => by simp [madeCells, cells2]
  | n + 1 => by
      have ih := made_zero n
      rw [List.replicate_succ', cells2_append, ← ih]
      unfold madeCells
      rw [show (n + 1) * 2 = n * 2 + 1 + 1 from by omega]
      simp only [Array.toList_map, Array.toList_range, List.range_succ, List.map_append]
      rw [List.append_assoc]
      congr 1
      have e1 : n * 2 % 2 = 0 := by omega
      have e2 : (n * 2 + 1) % 2 = 1 := by omega
      simp [e1, e2, cells2, enc2]

theorem btw_zero (b : List Int) : btw b 0 = List.replicate b.length (0, 0) := by
  unfold btw
  apply List.ext_getElem?
  intro i
  by_cases hi : i < b.length
  · simp [hi]
  · rw [List.getElem?_eq_none (by simp; omega), List.getElem?_eq_none (by simp; omega)]

/-- A slice without spare room. -/
def Full (u : Value) : Prop := ∃ a n, u = .slice a n n

set_option maxHeartbeats 1000000 in
theorem between_full (v : Value) (b : List Int) (w : World) (hb : Beg b) (hl : b.length ≤ 100000) (hv : Row1 w v b) :
    Calls Try.prog 29 #[v] w fun e w' => ∃ u, e = .returned u ∧ Row2 w' u (spansOf b) ∧ Below w.heap.size w w' ∧ Full u := by
  obtain ⟨i, hi, hz, hz1, hz2⟩ := info_parts info35
  obtain ⟨ao, cap, rfl, hc⟩ := hv
  have HB : Hid (Beg b) := hb
  clear hb
  go_enter Try.func29, Try.ntmps29
  go_wp2_with (at_make; refine wpList_make_full _ rfl _ _ 22 rfl w.heap.size 35 i _ 2 Try.underlying22 hi hz hz1 _ _ _ _ b.length rfl rfl rfl rfl (by rw [hz2]; omega) (by unfold maxLen; omega) (Nat.le_refl _) ?_; intro w1 hown1 hgr1)
  have own1 : Own2 w.heap.size w1 (.slice (some ⟨w.heap.size, 0, none⟩) b.length b.length) (btw b 0) := by
    show w1.ownsRow w.heap.size 35 2 _ (btw b 0).length (cells2 (btw b 0))
    rw [btw_length, btw_zero, ← made_zero]
    exact hown1
  have B1 : Below w.heap.size w w1 := (Below.refl _ _).grown hgr1 (Nat.le_refl _) (fun k hk => by cases hk)
  clear hown1 hgr1 hi hz hz1 hz2
  go_loopw [11] (fun i wr => ∃ k : Nat, k ≤ b.length ∧ i = .int .i64 k ∧ Own2 w.heap.size wr (.slice (some ⟨w.heap.size, 0, none⟩) b.length b.length) (btw b k) ∧ Below w.heap.size w wr) (fun i _ => b.length - (intOf i).toNat)
  case atStart => exact ⟨0, Nat.zero_le _, rfl, own1, B1⟩
  case round =>
    clear own1 B1
    obtain ⟨k, hk, rfl, hown, hB⟩ := hrel
    have hB' := hB.size
    by_cases hlt : k < b.length
    · obtain ⟨ba, off, rfl, hba, hcell⟩ := hc (ne_nil_of_lt hlt)
      obtain ⟨x, hx⟩ : ∃ x, b[k]? = some x := ⟨_, List.getElem?_eq_getElem hlt⟩
      have c1 : wr.cell? ⟨ba, off + k, none⟩ = some (.int .u32 x) := (hB.cell (by exact hba)).trans (hcell k x hx)
      have hst := st_some hx
      obtain ⟨g, cap2, hv, hg1, hg2, hcap, hfr, hcl⟩ := hown.shape (by intro e; have := btw_length b k; rw [e] at this; simp at this; omega)
      simp at hv
      obtain ⟨rfl, hbl, rfl⟩ := hv
      have z1 := (hcl k _ (btw_get hlt)).1
      have z2 := (hcl k _ (btw_get hlt)).2
      have f1 := hfr (k * 2)
      have f2 := hfr (k * 2 + 1)
      have hset := hown.setAt k (x, 4294967295) (by rw [btw_length]; exact hlt)
      clear hbl hcap
      by_cases hk0 : k = 0
      · have hk1 : (k : Int) ≤ 0 := by omega
        have hnew : Own2 w.heap.size ((wr.setCell ⟨w.heap.size, k * 2, none⟩ (.int .u32 x)).setCell ⟨w.heap.size, k * 2 + 1, none⟩ (.int .u32 4294967295)) (.slice (some ⟨w.heap.size, 0, none⟩) b.length b.length) (btw b (k + 1)) := by
          subst hk0
          rw [← btw_first hlt, hst]
          exact hset
        clear hc hcell hx hst hfr hcl hset hk0 hown
        have hBn := (hB.setCell (p := ⟨w.heap.size, k * 2, none⟩) (Nat.le_refl _) (.int .u32 x)).setCell (p := ⟨w.heap.size, k * 2 + 1, none⟩) (Nat.le_refl _) (.int .u32 4294967295)
        go_wp2_with fail
        go_roundw
        case rel => exact ⟨k + 1, by omega, by go_num, hnew, hBn⟩
        case measure => simp [intOf]; omega
      · obtain ⟨j, rfl⟩ : ∃ j, k = j + 1 := ⟨k - 1, by omega⟩
        have hrng := HB.out.st_lt (i := j) (j := j + 1) (by omega) (by omega)
        have hr0 := (HB.out.st_rng j).1
        have hr1 := HB.out.rng x (List.mem_of_getElem? hx)
        rw [hst] at hrng
        have hx1 : 1 ≤ x := by omega
        have hgj : ((btw b (j + 1)).set (j + 1) (x, 4294967295))[j]? = some (st b j, 4294967295) := by
          rw [List.getElem?_set, if_neg (by omega), btw_get (by omega), if_neg (by omega), if_pos rfl]
        have hset2 := hset.setHiAt j _ (x - 1) hgj
        have hnew : Own2 w.heap.size (((wr.setCell ⟨w.heap.size, (j + 1) * 2, none⟩ (.int .u32 x)).setCell ⟨w.heap.size, (j + 1) * 2 + 1, none⟩ (.int .u32 4294967295)).setCell ⟨w.heap.size, j * 2 + 1, none⟩ (.int .u32 (x - 1))) (.slice (some ⟨w.heap.size, 0, none⟩) b.length b.length) (btw b (j + 1 + 1)) := by
          have e := btw_step (b := b) (k := j) hlt
          rw [hst] at e
          rw [← e]
          exact hset2
        obtain ⟨g3, cap3, hv3, _, _, _, hfr3, hcl3⟩ := hset.shape (by intro e; have := congrArg List.length e; simp [btw_length] at this; rw [this] at hlt; simp at hlt)
        simp at hv3
        obtain ⟨rfl, _, rfl⟩ := hv3
        have z3 := (hcl3 j _ hgj).2
        have f3 := hfr3 (j * 2 + 1)
        have hBn := ((hB.setCell (p := ⟨w.heap.size, (j + 1) * 2, none⟩) (Nat.le_refl _) (.int .u32 x)).setCell (p := ⟨w.heap.size, (j + 1) * 2 + 1, none⟩) (Nat.le_refl _) (.int .u32 4294967295)).setCell (p := ⟨w.heap.size, j * 2 + 1, none⟩) (Nat.le_refl _) (.int .u32 (x - 1))
        clear hc hcell hx hst hfr hcl hset hk0 hown hset2 hfr3 hcl3 hgj hrng hr0
        go_wp2_with fail
        go_roundw
        case rel => exact ⟨j + 1 + 1, by omega, by go_num, hnew, hBn⟩
        case measure => simp [intOf]; omega
    · have hke : k = b.length := by omega
      subst hke
      rw [btw_last] at hown
      clear hc
      go_wp2_with fail
      go_ret
      exact ⟨_, rfl, Row2.of_owns hown, hB, _, _, rfl⟩
end Go.Proofs.Ythcaijcchjociaa
