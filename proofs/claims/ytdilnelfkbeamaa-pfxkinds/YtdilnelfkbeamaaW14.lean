/-
  The walk of the document's own Sorted: a list rising, each once.
-/
import Derived.Test.YtdilnelfkbeamaaOwn1
namespace Go.Proofs.Ytdilnelfkbeamaa
open Go.RowKit

theorem rising_insert {l : List Int} {k : Nat} {n : Int} (h : Rising l) (hk : k ≤ l.length) (h1 : ∀ i x, i < k → l[i]? = some x → x < n) (h2 : ∀ x, l[k]? = some x → n < x) : Rising (l.take k ++ n :: l.drop k) := by
  have hs : ∀ (i j : Nat) (x y : Int), i < j → l[i]? = some x → l[j]? = some y → x < y := fun i j x y hij hx hy => by
    obtain ⟨hi, rfl⟩ := List.getElem?_eq_some_iff.1 hx
    obtain ⟨hj, rfl⟩ := List.getElem?_eq_some_iff.1 hy
    exact List.pairwise_iff_getElem.1 h i j hi hj hij
  have hlo : ∀ x ∈ l.take k, x < n := fun x hx => by
    obtain ⟨i, hi⟩ := List.mem_iff_getElem?.1 hx
    rw [List.getElem?_take] at hi
    split at hi
    · exact h1 i x (by omega) hi
    · cases hi
  have hhi : ∀ x ∈ l.drop k, n < x := fun x hx => by
    obtain ⟨i, hi⟩ := List.mem_iff_getElem?.1 hx
    rw [List.getElem?_drop] at hi
    have hlt : k < l.length := by have := (List.getElem?_eq_some_iff.1 hi).1; omega
    have h0 := h2 _ (List.getElem?_eq_getElem hlt)
    by_cases e : i = 0
    · subst e
      have := h2 x (by simpa using hi)
      exact this
    · have := hs k (k + i) _ x (by omega) (List.getElem?_eq_getElem hlt) hi
      omega
  refine List.pairwise_append.2 ⟨h.sublist (List.take_sublist k l), List.pairwise_cons.2 ⟨hhi, h.sublist (List.drop_sublist k l)⟩, fun x hx y hy => ?_⟩
  rcases List.mem_cons.1 hy with rfl | hy
  · exact hlo x hx
  · have := hlo x hx; have := hhi y hy; omega

theorem mem_insert {l : List Int} {k : Nat} {n x : Int} : x ∈ l.take k ++ n :: l.drop k ↔ x ∈ l ∨ x = n := by
  have e : x ∈ l ↔ x ∈ l.take k ∨ x ∈ l.drop k := by
    conv => lhs; rw [← List.take_append_drop k l]
    exact List.mem_append
  rw [List.mem_append, List.mem_cons, e]
  constructor
  · rintro (h | h | h)
    · exact Or.inl (Or.inl h)
    · exact Or.inr h
    · exact Or.inl (Or.inr h)
  · rintro ((h | h) | h)
    · exact Or.inl h
    · exact Or.inr (Or.inr h)
    · exact Or.inr (Or.inl h)

/-- What stands in the row while it is moved. -/
def mid (l : List Int) (i : Nat) (x : Int) : List Int := l.take i ++ x :: l.drop i

theorem mid_length (l : List Int) (i : Nat) (x : Int) (h : i ≤ l.length) : (mid l i x).length = l.length + 1 := by
  simp [mid]; omega
theorem mid_before {l : List Int} {i : Nat} {x y : Int} (hi : i + 1 ≤ l.length) (hy : l[i]? = some y) : (mid l (i + 1) x)[i]? = some y := by
  unfold mid
  rw [List.getElem?_append_left (by simp; omega), List.getElem?_take, if_pos (by omega)]
  exact hy
theorem mid_at {l : List Int} {i : Nat} {x : Int} (h : i ≤ l.length) : (mid l i x)[i]? = some x := by
  unfold mid
  rw [List.getElem?_append_right (by simp; omega)]
  have : i - (l.take i).length = 0 := by simp; omega
  rw [this]
  rfl
theorem mid_set {l : List Int} {i : Nat} {x : Int} (z : Int) (h : i ≤ l.length) : (mid l i x).set i z = mid l i z := by
  unfold mid
  rw [List.set_append_right _ _ (by simp; omega)]
  have : i - (l.take i).length = 0 := by simp; omega
  rw [this]
  rfl
theorem mid_down {l : List Int} {i : Nat} {y : Int} (hy : l[i]? = some y) : mid l (i + 1) y = mid l i y := by
  have hd : l.drop i = y :: l.drop (i + 1) := by
    obtain ⟨hi, rfl⟩ := List.getElem?_eq_some_iff.1 hy
    exact List.drop_eq_getElem_cons hi
  unfold mid
  rw [take_succ_of hy, hd]
  simp

theorem isSet_seen {l m : List Int} {k j : Nat} {x : Int} (h : IsSet (l.take k) m) (hx : l[k]? = some x) (hj : m[j]? = some x) : IsSet (l.take (k + 1)) m := by
  refine ⟨h.1, fun y => ?_⟩
  rw [take_succ_of hx, List.mem_append, ← h.2 y]
  constructor
  · exact Or.inl
  · rintro (h | h)
    · exact h
    · have e : y = x := by simpa using h
      subst e
      exact List.mem_of_getElem? hj

theorem isSet_new {l m : List Int} {k j : Nat} {x : Int} (h : IsSet (l.take k) m) (hx : l[k]? = some x) (hj : j ≤ m.length) (h1 : ∀ i y, i < j → m[i]? = some y → y < x) (h2 : ∀ y, m[j]? = some y → x < y) : IsSet (l.take (k + 1)) (mid m j x) := by
  refine ⟨rising_insert h.1 hj h1 h2, fun y => ?_⟩
  unfold mid
  rw [mem_insert, take_succ_of hx, List.mem_append, h.2 y]
  simp

set_option maxHeartbeats 2000000 in
theorem sorted_any (v : Value) (l : List Int) (w : World) (hl : l.length ≤ 100000) (hv : Row1 w v l) :
    Calls Try.prog 45 #[v] w fun e w' => ∃ u r, e = .returned u ∧ IsSet l r ∧ r.length ≤ l.length ∧ Own1 w.heap.size w' u r ∧ Below w.heap.size w w' := by
  obtain ⟨ao, cap, rfl, hc, _⟩ := hv
  have HC : Hid (l ≠ [] → ∃ b off, ao = some ⟨b, off, none⟩ ∧ b < w.heap.size ∧ ∀ i x, l[i]? = some x → w.cell? ⟨b, off + i, none⟩ = some (.int .u32 x)) := hc
  clear hc
  go_enter Try.func45, Try.ntmps45
  go_wp2_with fail
  go_loopw [3, 10] (fun vo vi wr => ∃ (k : Nat) (m : List Int), k ≤ l.length ∧ vi = .int .i64 k ∧ Hid (IsSet (l.take k) m) ∧ m.length ≤ k ∧ Hid (Own1 w.heap.size wr vo m) ∧ Hid (Below w.heap.size w wr)) (fun _ vi _ => l.length - (intOf vi).toNat)
  case atStart => exact ⟨0, [], Nat.zero_le _, rfl, IsSet.nil, Nat.le_refl _, Own1.nil _ _, Below.refl _ _⟩
  case round =>
    obtain ⟨k, m, hk, rfl, HS, hm, HO, HB⟩ := hrel
    by_cases hlt : k < l.length
    case neg =>
      have e : k = l.length := by omega
      subst e
      obtain ⟨ao3, cap3, rfl⟩ := HO.out.form
      go_wp2_with fail
      go_ret
      refine ⟨_, m, rfl, ?_, hm, HO.out, HB.out⟩
      have := HS.out
      rw [List.take_length] at this
      exact this
    obtain ⟨b, off, rfl, hb, hcell⟩ := HC.out (ne_nil_of_lt hlt)
    obtain ⟨x, hx⟩ : ∃ x, l[k]? = some x := ⟨_, List.getElem?_eq_getElem hlt⟩
    have c1 : wr.cell? ⟨b, off + k, none⟩ = some (.int .u32 x) := (HB.out.cell (by exact hb)).trans (hcell k x hx)
    have HX : Hid (l[k]? = some x) := hx
    obtain ⟨ao3, cap3, rfl⟩ := HO.out.form
    have HM : Hid (∀ i y, m[i]? = some y → ∃ g, ao3 = some ⟨g, 0, none⟩ ∧ wr.cell? ⟨g, i, none⟩ = some (.int .u32 y)) := fun i y hy => by
      have hne : m ≠ [] := by intro e; rw [e] at hy; simp at hy
      obtain ⟨g, cap', hv', _, _, _, _, hcl⟩ := HO.out.shape hne
      simp at hv'
      exact ⟨g, hv'.1, hcl i y hy⟩
    clear hcell hx
    go_wp2_with fail
    go_loop [6] (fun at_ => ∃ j : Nat, j ≤ m.length ∧ at_ = .int .i64 j ∧ Hid (∀ i y, i < j → m[i]? = some y → y < x)) (fun i => m.length - (intOf i).toNat)
    case atStart => exact ⟨0, Nat.zero_le _, rfl, fun i y hi => by omega⟩
    case round =>
      obtain ⟨j, hj, rfl, HL⟩ := hrel
      have hcases : (∃ y, m[j]? = some y ∧ y < x) ∨ (∃ y, m[j]? = some y ∧ y = x) ∨ (∃ y, j < m.length ∧ m[j]? = some y ∧ x < y) ∨ j = m.length := by
        by_cases hjl : j < m.length
        · have hy := List.getElem?_eq_getElem hjl
          rcases Int.lt_trichotomy m[j] x with h | h | h
          · exact Or.inl ⟨_, hy, h⟩
          · exact Or.inr (Or.inl ⟨_, hy, h⟩)
          · exact Or.inr (Or.inr (Or.inl ⟨_, hjl, hy, h⟩))
        · exact Or.inr (Or.inr (Or.inr (by omega)))
      rcases hcases with ⟨y, hy, hyx⟩ | ⟨y, hy, rfl⟩ | hrest
      · have hjl : j < m.length := (List.getElem?_eq_some_iff.1 hy).1
        obtain ⟨g, rfl, c2⟩ := HM.out j y hy
        have HY : Hid (m[j]? = some y) := hy
        clear hy
        go_wp2_with fail
        go_round
        case rel => exact ⟨j + 1, by omega, by go_num, fun i z hi hz => by
            by_cases e : i = j
            · subst e; rw [HY.out] at hz; injection hz with hz; omega
            · exact HL.out i z (by omega) hz⟩
        case measure => simp [intOf]; omega
      · have hjl : j < m.length := (List.getElem?_eq_some_iff.1 hy).1
        obtain ⟨g, rfl, c2⟩ := HM.out j y hy
        have HY : Hid (m[j]? = some y) := hy
        have e1 : (y == y) = true := by simp
        clear hy
        go_wp2_with fail
        go_roundw
        case rel => exact ⟨k + 1, m, by omega, by go_num, isSet_seen HS.out HX.out HY.out, by omega, HO, HB⟩
        case measure => simp [intOf]; omega
      · have HK : Hid (∀ y, m[j]? = some y → x < y) := by
          intro y hy
          rcases hrest with ⟨z, _, hz, h⟩ | h
          · rw [hz] at hy; injection hy with hy; omega
          · have := (List.getElem?_eq_some_iff.1 hy).1; omega
        have SB : Hid (w.heap.size ≤ (wr.alloc (.cells #[.int .u32 0] 23)).heap.size) := by
          have := HB.out.size
          show w.heap.size ≤ (wr.alloc (.cells #[.int .u32 0] 23)).heap.size
          simp; omega
        have C0 : Hid ((wr.alloc (.cells #[.int .u32 0] 23)).cell? ⟨wr.heap.size, 0, none⟩ = some (.int .u32 0)) := by simp [Hid, go_sem]
        have ML : Hid (m.length ≤ 1000000) := by show m.length ≤ 1000000; omega
        rcases hrest with ⟨y, hjl, hy, hyx⟩ | hjl
        case' inl =>
          obtain ⟨g, rfl, c2⟩ := HM.out j y hy
          have e1 : (y == x) = false := by simp; omega
          clear hy
        case' inr =>
          have hjl2 : ¬ j < m.length := by omega
          clear hjl
        all_goals
          go_wp2_with (at_builtin; refine wp_app1 rfl _ _ rfl w.heap.size _ m rfl (HO.out.alloc _) 0 wr.heap.size rfl C0.out ML.out SB.out ?_; intro g3 cap3 w3 how3 hB3 hg31 hg32 hgg hoth)
          have B3 : Hid (Below w.heap.size w w3) := (HB.out.alloc HB.out.size _).trans hB3
          have HS3 : Hid (mid m m.length 0 = m ++ [0]) := by simp [Hid, mid]
          have O3 : Hid (Own1 w.heap.size w3 (.slice (some ⟨g3, 0, none⟩) (m.length + 1) cap3) (m ++ [0])) := how3
          clear hoth hgg how3 hB3 hg31 hg32 c1
          go_loopw [7] (fun i wq => ∃ (t : Nat) (z : Int), j ≤ t ∧ t ≤ m.length ∧ i = .int .i64 t ∧ Hid (Own1 w.heap.size wq (.slice (some ⟨g3, 0, none⟩) (m.length + 1) cap3) (mid m t z)) ∧ Hid (Below w.heap.size w wq)) (fun i _ => (intOf i).toNat)
          case atStart => exact ⟨m.length, 0, hj, Nat.le_refl _, rfl, by rw [HS3.out]; exact O3, B3⟩
          case round =>
            obtain ⟨t, z, hjt, htl, rfl, HOt, HBt⟩ := hrel
            obtain ⟨g4, cap4, hv4, hg41, hg42, hcap4, hfr4, hcl4⟩ := HOt.out.shape (by simp [mid])
            rw [mid_length m t z htl] at hv4
            simp at hv4
            obtain ⟨rfl, rfl⟩ := hv4
            have hfz := hfr4 t
            have ct := hcl4 t z (mid_at htl)
            by_cases hjk : j < t
            · obtain ⟨t, rfl⟩ : ∃ t', t = t' + 1 := ⟨t - 1, by omega⟩
              obtain ⟨q, hq⟩ : ∃ q, m[t]? = some q := ⟨_, List.getElem?_eq_getElem (by omega)⟩
              have c4 := hcl4 t q (mid_before htl hq)
              have hnew := (HOt.out.set (t + 1) q)
              rw [mid_set q htl, mid_down hq] at hnew
              have HNEW : Hid (Own1 w.heap.size (wr.setCell ⟨g3, t + 1, none⟩ (.int .u32 q)) (.slice (some ⟨g3, 0, none⟩) (m.length + 1) cap3) (mid m t q)) := hnew
              have HBN : Hid (Below w.heap.size w (wr.setCell ⟨g3, t + 1, none⟩ (.int .u32 q))) := HBt.out.setCell (p := ⟨g3, t + 1, none⟩) hg41 _
              clear hq hcl4 hfr4 HS3 hnew
              go_wp2_with fail
              all_goals exact ⟨⟨t, q, by omega, by omega, by go_num, HNEW, HBN⟩, by simp [intOf]⟩
            · have hjk2 : t = j := by omega
              subst hjk2
              have hnew := (HOt.out.set t x)
              rw [mid_set x htl] at hnew
              have HNEW : Hid (Own1 w.heap.size (wr.setCell ⟨g3, t, none⟩ (.int .u32 x)) (.slice (some ⟨g3, 0, none⟩) (m.length + 1) cap3) (mid m t x)) := hnew
              have HBN : Hid (Below w.heap.size w (wr.setCell ⟨g3, t, none⟩ (.int .u32 x))) := HBt.out.setCell (p := ⟨g3, t, none⟩) hg41 _
              clear hcl4 hfr4 HS3 hnew
              go_wp2_with fail
              go_roundw
              case rel => exact ⟨k + 1, mid m t x, by omega, by go_num, isSet_new HS.out HX.out htl HL.out HK.out, by rw [mid_length m t x htl]; omega, HNEW, HBN⟩
              case measure => simp [intOf]; omega
end Go.Proofs.Ytdilnelfkbeamaa
