/-
  Walks over one list: slices.Index, slices.Contains, pathMayBe, commsMayBe, rises.
-/
import Derived.Test.YtaaaccgakahapaaW3
namespace Go.Proofs.Ytaaaccgakahapaa
open Go.RowKit

theorem take_succ_of {α : Type} {l : List α} {k : Nat} {x : α} (hx : l[k]? = some x) : l.take (k + 1) = l.take k ++ [x] := by
  rw [List.take_add_one, hx]; rfl

theorem contains_take {l : List Int} {k : Nat} {x z : Int} (hx : l[k]? = some x) (h : (l.take k).contains z = false) (hz : (z == x) = false) : (l.take (k + 1)).contains z = false := by
  rw [take_succ_of hx]
  simp at *
  exact ⟨h, hz⟩

set_option maxHeartbeats 1000000 in
theorem index_any (v : Value) (l : List Int) (z : Int) (w : World) (hl : l.length < 4611686018427387904) (hv : Row1 w v l) :
    Calls Try.prog 42 #[v, .int .u32 z] w fun e w' => (∃ r : Int, e = .returned (.int .i64 r) ∧ decide (0 ≤ r) = l.contains z) ∧ w' = w := by
  obtain ⟨ao, cap, rfl, hc, _⟩ := hv
  obtain ⟨q, hq⟩ : ∃ q, q = l.contains z := ⟨_, rfl⟩
  have HQ : Hid (q = l.contains z) := hq
  rw [← hq]
  clear hq
  go_enter Try.func42, Try.ntmps42
  go_wp2
  go_loop [8] (fun i => ∃ k : Nat, k ≤ l.length ∧ i = .int .i64 k ∧ Hid ((l.take k).contains z = false)) (fun i => l.length - (intOf i).toNat)
  case atStart => exact ⟨0, Nat.zero_le _, rfl, rfl⟩
  case round =>
    obtain ⟨k, hk, rfl, HI⟩ := hrel
    by_cases hlt : k < l.length
    · obtain ⟨b, off, rfl, hb, hcell⟩ := hc (ne_nil_of_lt hlt)
      obtain ⟨x, hx⟩ : ∃ x, l[k]? = some x := ⟨_, List.getElem?_eq_getElem hlt⟩
      have c1 := hcell k x hx
      have HX : Hid (l[k]? = some x) := hx
      clear hc hcell hx
      cases hzx : (z == x) with
      | true =>
        go_wp2_with fail
        go_ret
        refine ⟨⟨_, rfl, ?_⟩, rfl⟩
        have e : z = x := by simpa using hzx
        subst e
        have : q = true := by rw [HQ.out]; simpa using List.mem_of_getElem? HX.out
        subst this
        simp
      | false =>
        have HZ : Hid ((z == x) = false) := hzx
        go_wp2_with fail
        go_round
        case rel => exact ⟨k + 1, by omega, by go_num, contains_take HX.out HI.out HZ.out⟩
        case measure => simp [intOf]; omega
    · have HE : Hid (l.contains z = false) := by
        have := HI.out
        rw [List.take_of_length_le (by omega)] at this
        exact this
      have : q = false := by rw [HQ.out, HE.out]
      subst this
      clear hc HI
      go_wp2_with fail
      go_ret
      exact ⟨⟨_, rfl, by simp⟩, rfl⟩

set_option maxHeartbeats 1000000 in
theorem contains_any (v : Value) (l : List Int) (z : Int) (w : World) (hl : l.length < 4611686018427387904) (hv : Row1 w v l) :
    Calls Try.prog 37 #[v, .int .u32 z] w fun e w' => e = .returned (.bool (l.contains z)) ∧ w' = w := by
  have h := index_any v l z w hl hv
  obtain ⟨ao, cap, rfl, hc, _⟩ := hv
  generalize l.contains z = q at *
  clear hc
  go_enter Try.func37, Try.ntmps37
  go_wp2_with (go_at_call 42; refine h.mono ?_; rintro e w1 ⟨⟨r, rfl, hr⟩, rfl⟩)
  go_ret
  exact ⟨by rw [← hr]; rfl, rfl⟩

set_option maxHeartbeats 1000000 in
theorem path_any (v : Value) (l : List Int) (w : World) (hl : l.length < 4611686018427387904) (hv : Row1 w v l) :
    Calls Try.prog 22 #[v] w fun e w' => e = .returned (.bool (decide (l.length ≤ 255) && !l.contains 0)) ∧ w' = w := by
  have h := contains_any v l 0 w hl hv
  obtain ⟨ao, cap, rfl, hc, _⟩ := hv
  generalize l.contains 0 = q at *
  clear hc
  by_cases h1 : (l.length : Int) ≤ 255
  · have e : decide (l.length ≤ 255) = true := decide_eq_true (by omega)
    rw [e]
    clear e
    go_enter Try.func22, Try.ntmps22
    go_wp2_with (go_at_call 37; refine h.mono ?_; rintro e w1 ⟨rfl, rfl⟩)
    go_ret
    exact ⟨rfl, rfl⟩
  · have e : decide (l.length ≤ 255) = false := decide_eq_false (by omega)
    rw [e]
    clear e
    go_enter Try.func22, Try.ntmps22
    go_wp2_with fail
    go_ret
    exact ⟨rfl, rfl⟩
end Go.Proofs.Ytaaaccgakahapaa
