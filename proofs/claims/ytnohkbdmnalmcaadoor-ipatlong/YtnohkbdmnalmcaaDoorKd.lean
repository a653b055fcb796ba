/-
  Walks: the document's In of a set of numbers.
-/
import Derived.Test.YtnohkbdmnalmcaaDoorW2
namespace Go.Proofs.YtnohkbdmnalmcaaDoor
open Go.RowKit

theorem okAlone_cases {k : Int} {S N : Nat} (h : okAlone k S N = true) : (k = 1 ∧ N = 0 ∧ S ≤ 256) ∨ (k = 2 ∧ S = 0) ∨ (k = 3 ∧ S = 0) ∨ (k = 4 ∧ S = 0 ∧ N = 1) := by
  unfold okAlone at h
  by_cases h1 : k = 1
  · rw [if_pos h1] at h; simp at h; exact Or.inl ⟨h1, h⟩
  rw [if_neg h1] at h
  by_cases h2 : k = 2 ∨ k = 3
  · rw [if_pos h2] at h; simp at h
    rcases h2 with h2 | h2
    · exact Or.inr (Or.inl ⟨h2, h⟩)
    · exact Or.inr (Or.inr (Or.inl ⟨h2, h⟩))
  rw [if_neg h2] at h
  by_cases h4 : k = 4
  · rw [if_pos h4] at h; simp at h; exact Or.inr (Or.inr (Or.inr ⟨h4, h⟩))
  rw [if_neg h4] at h
  cases h

theorem inSet_nil (n : Int) : inSet [] n = false := rfl
theorem inSet_cons (s : Int × Int) (l : List (Int × Int)) (n : Int) : inSet (s :: l) n = ((decide (s.1 ≤ n) && decide (n ≤ s.2)) || inSet l n) := rfl

set_option maxHeartbeats 2000000 in
theorem rin_any (v : Value) (l : List (Int × Int)) (n : Int) (w : World) (hl : l.length ≤ 4611686018427387903) (hv : RowS w v l) :
    Calls Tryd.prog 21 #[v, .int .u32 n] w fun e w' => e = .returned (.bool (inSet l n)) ∧ Gr w w' := by
  obtain ⟨ao, cap, rfl⟩ := hv.form
  obtain ⟨N, hN⟩ : ∃ N : Nat, N = l.length := ⟨_, rfl⟩
  have HN : Hid (N = l.length) := hN
  have HV : Hid (RowS w (.slice ao N cap) l) := by rw [hN]; exact hv
  rw [← hN] at hl ⊢
  clear hv hN
  obtain ⟨r, hr⟩ : ∃ r, r = inSet l n := ⟨_, rfl⟩
  have HR : Hid (r = inSet l n) := hr
  rw [← hr]
  clear hr
  go_enter Tryd.func21, Tryd.ntmps21
  go_wp2_with fail
  go_loopw [9] (fun vi wr => ∃ k : Nat, k ≤ N ∧ vi = .int .i64 k ∧ Hid (Gr w wr) ∧ Hid (r = inSet (l.drop k) n)) (fun vi _ => N - (intOf vi).toNat)
  case atStart => exact ⟨0, Nat.zero_le _, rfl, Gr.refl _, by rw [List.drop_zero]; exact HR⟩
  case round =>
    obtain ⟨k, hk, rfl, HK, HM⟩ := hrel
    by_cases hlt : k < N
    case neg =>
      have e : r = false := by
        rw [HM.out, List.drop_eq_nil_of_le (by have := HN.out; omega)]
        rfl
      go_wp2_with fail
      go_ret
      exact ⟨by rw [e]; rfl, HK.out⟩
    obtain ⟨s, hs⟩ : ∃ s, l[k]? = some s := ⟨_, List.getElem?_eq_getElem (by have := HN.out; omega)⟩
    obtain ⟨b, off, rfl, hb, d0, d1⟩ := (HV.out.gr HK.out).cs2 hs
    have HM2 : Hid (r = ((decide (s.1 ≤ n) && decide (n ≤ s.2)) || inSet (l.drop (k + 1)) n)) := by
      show _ = _
      rw [HM.out, drop_of hs, inSet_cons]
    obtain ⟨s0, s1⟩ := s
    simp only at d0 d1
    clear hs HM
    by_cases c1 : s0 ≤ n
    · by_cases c2 : n ≤ s1
      · have HM3 : Hid (r = true) := by show _ = _; rw [HM2.out]; simp [c1, c2]
        clear HM2
        go_wp2_with fail
        go_ret
        exact ⟨by rw [HM3.out]; rfl, HK.out.alloc _⟩
      · have HM3 : Hid (r = inSet (l.drop (k + 1)) n) := by show _ = _; rw [HM2.out]; simp [c2]
        clear HM2
        go_wp2_with fail
        go_roundw
        case rel => exact ⟨k + 1, by omega, by go_num, HK.out.alloc _, HM3⟩
        case measure => simp [intOf]; omega
    · have HM3 : Hid (r = inSet (l.drop (k + 1)) n) := by show _ = _; rw [HM2.out]; simp [c1]
      clear HM2
      go_wp2_with fail
      go_roundw
      case rel => exact ⟨k + 1, by omega, by go_num, HK.out.alloc _, HM3⟩
      case measure => simp [intOf]; omega

theorem cellsOf_set {α : Type} {f : α → List Value} {n : Nat} (h : ∀ x, (f x).length = n) : ∀ (l : List α) (i : Nat) (x y : α), l[i]? = some x → ∀ (j : Nat) (v : Value), f y = (f x).set j v → j < n → (cellsOf f l).set (i * n + j) v = cellsOf f (l.set i y)
  | [], i, x, y, hx, _, _, _, _ => by simp at hx
  | a :: l, 0, x, y, hx, j, v, hv, hj => by
    simp at hx
    subst hx
    show (f a ++ cellsOf f l).set (0 * n + j) v = f y ++ cellsOf f l
    rw [Nat.zero_mul, Nat.zero_add, List.set_append_left _ _ (by rw [h]; exact hj), hv]
  | a :: l, i + 1, x, y, hx, j, v, hv, hj => by
    show (f a ++ cellsOf f l).set ((i + 1) * n + j) v = f a ++ cellsOf f (l.set i y)
    have hk : (i + 1) * n + j = (f a).length + (i * n + j) := by rw [h, Nat.add_mul]; omega
    rw [hk, List.set_append_right _ _ (by omega)]
    rw [Nat.add_sub_cancel_left, cellsOf_set h l i x y (by simpa using hx) j v hv hj]
theorem made_rows {α : Type} {f : α → List Value} {n : Nat} (hf : ∀ x, (f x).length = n) (hn : 0 < n) (x : α) (zs : Array Value) (hz : zs.toList = f x) (N : Nat) : madeCells zs (N * n) = (cellsOf f (List.replicate N x)).toArray := by
  have hs : zs.size = n := by rw [← Array.length_toList, hz, hf]
  apply Array.ext_getElem?
  intro i
  by_cases hi : i < N * n
  · have h1 : i / n < N := (Nat.div_lt_iff_lt_mul hn).2 hi
    have h2 : i % n < n := Nat.mod_lt _ hn
    have h3 : i / n * n + i % n = i := by rw [Nat.mul_comm]; exact Nat.div_add_mod i n
    have h4 := cellsOf_at hf (List.replicate N x) (i / n) x (by simp [h1]) (i % n) (zs[i % n]!) (by
      rw [← hz, Array.getElem?_toList, getElem!_pos zs (i % n) (by omega)]
      exact Array.getElem?_eq_getElem (by omega))
    rw [h3] at h4
    have h5 : (cellsOf f (List.replicate N x)).toArray[i]? = some (zs[i % n]!) := by rw [List.getElem?_toArray]; exact h4
    rw [h5]
    simp [madeCells, hs, hi]
  · rw [Array.getElem?_eq_none (by rw [size_madeCells]; omega), Array.getElem?_eq_none (by simp [cellsOf_length hf]; omega)]

def matchP (t : Tree) (l : List Int) : Prop := rightT t = true ∧ l.length ≤ 255 ∧ takes t l

end Go.Proofs.YtnohkbdmnalmcaaDoor
