/-
  The walk of the document's own 'with': a rising list with one more, if it isn't there.
-/
import Derived.Test.YtnohkbdmnalmcaaGreatDoorS1Own1
namespace Go.Proofs.YtnohkbdmnalmcaaGreatDoorS1
open Go.RowKit

/-- Rising, each once. -/
def Rising (l : List Int) : Prop := l.Pairwise (· < ·)

theorem rising_insert {l : List Int} {k : Nat} {n : Int} (h : Rising l) (hk : k ≤ l.length) (h1 : ∀ i x, i < k → l[i]? = some x → x < n) (h2 : ∀ x, l[k]? = some x → n < x) : Rising (l.take k ++ n :: l.drop k) := by
  have hs : ∀ (i j : Nat) (x y : Int), i < j → l[i]? = some x → l[j]? = some y → x < y := fun i j x y hij hx hy => by
    obtain ⟨hi, rfl⟩ := List.getElem?_eq_some_iff.1 hx
    obtain ⟨hj, rfl⟩ := List.getElem?_eq_some_iff.1 hy
    exact List.pairwise_iff_getElem.1 h i j hi hj hij
  have hlo : ∀ x ∈ l.take k, x < n := fun x hx => by
    obtain ⟨i, hi⟩ := List.mem_iff_getElem?.1 hx
    rw [List.getElem?_take] at hi
    split at hi
    · exact h1 i x (by omega) hi
    · cases hi
  have hhi : ∀ x ∈ l.drop k, n < x := fun x hx => by
    obtain ⟨i, hi⟩ := List.mem_iff_getElem?.1 hx
    rw [List.getElem?_drop] at hi
    have hlt : k < l.length := by have := (List.getElem?_eq_some_iff.1 hi).1; omega
    have h0 := h2 _ (List.getElem?_eq_getElem hlt)
    by_cases e : i = 0
    · subst e
      have := h2 x (by simpa using hi)
      exact this
    · have := hs k (k + i) _ x (by omega) (List.getElem?_eq_getElem hlt) hi
      omega
  refine List.pairwise_append.2 ⟨h.sublist (List.take_sublist k l), List.pairwise_cons.2 ⟨hhi, h.sublist (List.drop_sublist k l)⟩, fun x hx y hy => ?_⟩
  rcases List.mem_cons.1 hy with rfl | hy
  · exact hlo x hx
  · have := hlo x hx; have := hhi y hy; omega

theorem mem_insert {l : List Int} {k : Nat} {n x : Int} : x ∈ l.take k ++ n :: l.drop k ↔ x ∈ l ∨ x = n := by
  have e : x ∈ l ↔ x ∈ l.take k ∨ x ∈ l.drop k := by
    conv => lhs; rw [← List.take_append_drop k l]
    exact List.mem_append
  rw [List.mem_append, List.mem_cons, e]
  constructor
  · rintro (h | h | h)
    · exact Or.inl (Or.inl h)
    · exact Or.inr h
    · exact Or.inl (Or.inr h)
  · rintro ((h | h) | h)
    · exact Or.inl h
    · exact Or.inr (Or.inr h)
    · exact Or.inr (Or.inl h)

/-- What stands in the row while it is moved. -/
def mid (l : List Int) (i : Nat) (x : Int) : List Int := l.take i ++ x :: l.drop i

theorem mid_length (l : List Int) (i : Nat) (x : Int) (h : i ≤ l.length) : (mid l i x).length = l.length + 1 := by
  simp [mid]; omega
theorem mid_before {l : List Int} {i : Nat} {x y : Int} (hi : i + 1 ≤ l.length) (hy : l[i]? = some y) : (mid l (i + 1) x)[i]? = some y := by
  unfold mid
  rw [List.getElem?_append_left (by simp; omega), List.getElem?_take, if_pos (by omega)]
  exact hy
theorem mid_at {l : List Int} {i : Nat} {x : Int} (h : i ≤ l.length) : (mid l i x)[i]? = some x := by
  unfold mid
  rw [List.getElem?_append_right (by simp; omega)]
  have : i - (l.take i).length = 0 := by simp; omega
  rw [this]
  rfl
theorem mid_set {l : List Int} {i : Nat} {x : Int} (z : Int) (h : i ≤ l.length) : (mid l i x).set i z = mid l i z := by
  unfold mid
  rw [List.set_append_right _ _ (by simp; omega)]
  have : i - (l.take i).length = 0 := by simp; omega
  rw [this]
  rfl
theorem mid_down {l : List Int} {i : Nat} {y : Int} (hy : l[i]? = some y) : mid l (i + 1) y = mid l i y := by
  have hd : l.drop i = y :: l.drop (i + 1) := by
    obtain ⟨hi, rfl⟩ := List.getElem?_eq_some_iff.1 hy
    exact List.drop_eq_getElem_cons hi
  unfold mid
  rw [take_succ_of hy, hd]
  simp

/-- What 'with' answers. -/
def Withed (l : List Int) (n : Int) (m : List Int) : Prop := Rising m ∧ (∀ x, x ∈ m ↔ x ∈ l ∨ x = n) ∧ m.length ≤ l.length + 1

set_option maxHeartbeats 1000000 in
theorem with_any (base : Nat) (v : Value) (l : List Int) (n : Int) (w : World) (hl : l.length ≤ 100000) (hne : l ≠ []) (hr : Rising l) (hown : Own1 base w v l) (hbase : base ≤ w.heap.size) :
    Calls Tryz.prog 126 #[v, .int .u32 n] w fun e w' => ∃ u m, e = .returned u ∧ Withed l n m ∧ Own1 base w' u m ∧ Below base w w' ∧ (∀ b, b < w.heap.size → v.ownBlock ≠ some b → w'.heap[b]? = w.heap[b]?) := by
  obtain ⟨g, cap, rfl, hg1, hg2, hcap, hfr, hcl⟩ := hown.shape hne
  go_enter Tryz.func126, Tryz.ntmps126
  go_wp2_with fail
  have HC : Hid (∀ (i : Nat) x, l[i]? = some x → w.cell? ⟨g, i, none⟩ = some (.int .u32 x)) := hcl
  have HR : Hid (Rising l) := hr
  clear hcl hfr hr
  go_loop [5] (fun at_ => ∃ k : Nat, k ≤ l.length ∧ at_ = .int .i64 k ∧ (∀ i x, i < k → l[i]? = some x → x < n)) (fun i => l.length - (intOf i).toNat)
  case atStart => exact ⟨0, Nat.zero_le _, rfl, fun i x hi => by omega⟩
  case round =>
    obtain ⟨k, hk, rfl, hlow⟩ := hrel
    have HL : Hid (∀ i x, i < k → l[i]? = some x → x < n) := hlow
    clear hlow
    have hcases : (∃ x, l[k]? = some x ∧ x < n) ∨ (∃ x, l[k]? = some x ∧ x = n) ∨ (∃ x, k < l.length ∧ l[k]? = some x ∧ n < x) ∨ k = l.length := by
      by_cases hlt : k < l.length
      · have hx := List.getElem?_eq_getElem hlt
        rcases Int.lt_trichotomy l[k] n with h | h | h
        · exact Or.inl ⟨_, hx, h⟩
        · exact Or.inr (Or.inl ⟨_, hx, h⟩)
        · exact Or.inr (Or.inr (Or.inl ⟨_, hlt, hx, h⟩))
      · exact Or.inr (Or.inr (Or.inr (by omega)))
    rcases hcases with ⟨x, hx, hxn⟩ | ⟨x, hx, rfl⟩ | hrest
    · have hlt : k < l.length := (List.getElem?_eq_some_iff.1 hx).1
      have c1 := HC.out k x hx
      have HX : Hid (l[k]? = some x) := hx
      clear hx
      go_wp2_with fail
      go_round
      case rel => exact ⟨k + 1, by omega, by go_num, fun i y hi hy => by
          by_cases e : i = k
          · subst e; rw [HX.out] at hy; injection hy with hy; omega
          · exact HL.out i y (by omega) hy⟩
      case measure => simp [intOf]; omega
    · have hlt : k < l.length := (List.getElem?_eq_some_iff.1 hx).1
      have c1 := HC.out k x hx
      have HX : Hid (l[k]? = some x) := hx
      clear hx
      have e1 : (x == x) = true := by simp
      go_wp2_with fail
      go_ret
      exact ⟨_, rfl, l, ⟨HR.out, fun y => ⟨Or.inl, fun h => h.elim id (fun e => e ▸ List.mem_of_getElem? HX.out)⟩, by omega⟩, hown, Below.refl _ _, fun _ _ _ => rfl⟩
    · have HK : Hid (∀ x, l[k]? = some x → n < x) := by
        intro y hy
        rcases hrest with ⟨x, _, hx, h⟩ | h
        · rw [hx] at hy; injection hy with hy; omega
        · have := (List.getElem?_eq_some_iff.1 hy).1; omega
      rcases hrest with ⟨x, hlt, hx, hxn⟩ | hlt
      case' inl =>
        have c1 := HC.out k x hx
        have e1 : (x == n) = false := by simp; omega
        clear hx
      case' inr =>
        have hlt2 : ¬ k < l.length := by omega
        clear hlt
      all_goals
        go_wp2_with (at_builtin; refine wp_app1 rfl _ _ rfl base _ l rfl (hown.alloc _) 0 w.heap.size rfl (by simp [go_sem]) (by omega) (by simp; omega) ?_; intro g3 cap3 w3 how3 hB3 hg31 hg32 hgg hoth)
        have B3 := ((Below.refl base w).alloc hbase _).trans hB3
        have HO : Hid (∀ b, b < w.heap.size → (Value.slice (some ⟨g, 0, none⟩) l.length cap).ownBlock ≠ some b → w3.heap[b]? = w.heap[b]?) := fun b hb hne =>
          (hoth b (by simp; omega) hne).trans (Below.heap_alloc w _ b hb)
        have HG : Hid (∀ b, b < w.heap.size → (Value.slice (some ⟨g, 0, none⟩) l.length cap).ownBlock ≠ some b → b ≠ g3) := fun b hb hne e => by
          subst e
          rcases hgg with h | h
          · exact hne h
          · simp at h; omega
        clear hoth hgg
        have HS : Hid (mid l l.length 0 = l ++ [0]) := by simp [Hid, mid]
        clear hown hB3 hg1 hg2
        go_loopw [6] (fun i wr => ∃ (j : Nat) (x : Int), k ≤ j ∧ j ≤ l.length ∧ i = .int .i64 j ∧ Own1 base wr (.slice (some ⟨g3, 0, none⟩) (l.length + 1) cap3) (mid l j x) ∧ Below base w wr ∧ Hid (∀ b, b < w.heap.size → (Value.slice (some ⟨g, 0, none⟩) l.length cap).ownBlock ≠ some b → wr.heap[b]? = w.heap[b]?)) (fun i _ => (intOf i).toNat)
        case atStart => exact ⟨l.length, 0, by omega, Nat.le_refl _, rfl, by rw [HS.out]; exact how3, B3, HO⟩
        case round =>
          obtain ⟨j, x', hkj, hjl, rfl, hownj, hBj, HOj⟩ := hrel
          obtain ⟨g4, cap4, hv4, hg41, hg42, hcap4, hfr4, hcl4⟩ := hownj.shape (by simp [mid])
          rw [mid_length l j x' hjl] at hv4
          simp at hv4
          obtain ⟨rfl, rfl⟩ := hv4
          have hfz := hfr4 j
          have cj := hcl4 j x' (mid_at hjl)
          by_cases hjk : k < j
          · obtain ⟨j, rfl⟩ : ∃ j', j = j' + 1 := ⟨j - 1, by omega⟩
            obtain ⟨y, hy⟩ : ∃ y, l[j]? = some y := ⟨_, List.getElem?_eq_getElem (by omega)⟩
            have c4 := hcl4 j y (mid_before hjl hy)
            have hnew := (hownj.set (j + 1) y)
            rw [mid_set y hjl, mid_down hy] at hnew
            clear hy hcl4 hfr4 HS
            have hBn := hBj.setCell (p := ⟨g3, j + 1, none⟩) hg41 (.int .u32 y)
            have HOn : Hid (∀ b, b < w.heap.size → (Value.slice (some ⟨g, 0, none⟩) l.length cap).ownBlock ≠ some b → (wr.setCell ⟨g3, j + 1, none⟩ (.int .u32 y)).heap[b]? = w.heap[b]?) := fun b hb hne => (Below.heap_setCell _ _ _ _ (HG.out b hb hne)).trans (HOj.out b hb hne)
            go_wp2_with fail
            all_goals exact ⟨⟨j, y, by omega, by omega, by go_num, hnew, hBn, HOn⟩, by simp [intOf]⟩
          · have hjk2 : j = k := by omega
            subst hjk2
            have hnew := (hownj.set j n)
            rw [mid_set n hjl] at hnew
            have HW : Hid (Withed l n (mid l j n)) := ⟨rising_insert HR.out hjl HL.out HK.out, fun _ => mem_insert, by rw [mid_length l j n hjl]; omega⟩
            clear hcl4 hfr4 HS
            go_wp2_with fail
            go_ret
            first
            | exact ⟨_, rfl, mid l j n, HW.out, hnew, hBj.setCell (p := ⟨g3, j, none⟩) hg41 _, fun b hb hne => (Below.heap_setCell _ _ _ _ (HG.out b hb hne)).trans (HOj.out b hb hne)⟩
            | exact ⟨_, mid l j n, rfl, HW.out, hnew, hBj.setCell (p := ⟨g3, j, none⟩) hg41 _, fun b hb hne => (Below.heap_setCell _ _ _ _ (HG.out b hb hne)).trans (HOj.out b hb hne)⟩
end Go.Proofs.YtnohkbdmnalmcaaGreatDoorS1
