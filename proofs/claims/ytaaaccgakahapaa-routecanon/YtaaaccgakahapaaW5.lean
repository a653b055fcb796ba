/-
  Walks over one list: commsMayBe, rises.
-/
import Derived.Test.YtaaaccgakahapaaW4
namespace Go.Proofs.Ytaaaccgakahapaa
open Go.RowKit

theorem rises_adj : ∀ (l : List Int), rises l = true ↔ ∀ i x y, l[i]? = some x → l[i + 1]? = some y → x < y
  | [] => by simp [rises]
  | [a] => by
    simp [rises]
  | a :: b :: l => by
    unfold rises
    rw [Bool.and_eq_true, rises_adj (b :: l), decide_eq_true_iff]
    constructor
    · rintro ⟨h, k⟩ i x y hx hy
      cases i with
      | zero => simp at hx hy; omega
      | succ i => exact k i x y (by simpa using hx) (by simpa using hy)
    · intro h
      exact ⟨h 0 a b rfl rfl, fun i x y hx hy => h (i + 1) x y (by simpa using hx) (by simpa using hy)⟩

/-- It rises ahead of place k. -/
def RisesTo (l : List Int) (k : Nat) : Prop := ∀ i x y, i + 1 < k → l[i]? = some x → l[i + 1]? = some y → x < y

theorem RisesTo.one (l : List Int) (k : Nat) (h : k ≤ 1) : RisesTo l k := fun i x y hi => by omega
theorem RisesTo.next {l : List Int} {k : Nat} {x y : Int} (h : RisesTo l (k + 1)) (hx : l[k]? = some x) (hy : l[k + 1]? = some y) (hxy : x < y) : RisesTo l (k + 2) := fun i a b hi ha hb => by
  by_cases e : i = k
  · subst e
    rw [hx] at ha
    rw [hy] at hb
    injection ha with ha
    injection hb with hb
    omega
  · exact h i a b (by omega) ha hb
theorem RisesTo.all {l : List Int} {k : Nat} (h : RisesTo l k) (hk : l.length ≤ k) : rises l = true := (rises_adj l).2 fun i x y hx hy => h i x y (by have := (List.getElem?_eq_some_iff.1 hy).1; omega) hx hy
theorem rises_not {l : List Int} {k : Nat} {x y : Int} (hx : l[k]? = some x) (hy : l[k + 1]? = some y) (hxy : ¬ x < y) : rises l = false := by
  cases h : rises l with
  | false => rfl
  | true => exact absurd ((rises_adj l).1 h k x y hx hy) hxy

set_option maxHeartbeats 1000000 in
theorem comms_any (v : Value) (l : List Int) (w : World) (hl : l.length < 4611686018427387904) (hv : Row1 w v l) :
    Calls Try.prog 23 #[v] w fun e w' => e = .returned (.bool (decide (l.length ≤ 255) && rises l)) ∧ Gr w w' := by
  obtain ⟨ao, cap, rfl, hc, _⟩ := hv
  by_cases h1 : (l.length : Int) ≤ 255
  case neg =>
    have e : decide (l.length ≤ 255) = false := decide_eq_false (by omega)
    rw [e]
    clear e hc
    go_enter Try.func23, Try.ntmps23
    go_wp2_with fail
    go_ret
    exact ⟨rfl, Gr.refl _⟩
  have e : decide (l.length ≤ 255) = true := decide_eq_true (by omega)
  rw [e, Bool.true_and]
  clear e
  obtain ⟨q, hq⟩ : ∃ q, q = rises l := ⟨_, rfl⟩
  have HQ : Hid (q = rises l) := hq
  rw [← hq]
  clear hq
  go_enter Try.func23, Try.ntmps23
  go_wp2_with fail
  go_loopw [3] (fun i wr => ∃ k n : Nat, (k + 1 ≤ l.length ∨ k = 0) ∧ i = .int .i64 ((k : Int) + 1) ∧ wr = w.drewN n ∧ Hid (RisesTo l (k + 1))) (fun i _ => l.length + 1 - (intOf i).toNat)
  case atStart => exact ⟨0, 0, Or.inr rfl, rfl, rfl, RisesTo.one _ _ (Nat.le_refl _)⟩
  case round =>
    obtain ⟨k, n, hk, rfl, hw, HI⟩ := hrel
    by_cases hlt : k + 1 < l.length
    · obtain ⟨b, off, rfl, hb, hcell⟩ := hc (ne_nil_of_lt hlt)
      obtain ⟨x, hx⟩ : ∃ x, l[k]? = some x := ⟨_, List.getElem?_eq_getElem (by omega)⟩
      obtain ⟨y, hy⟩ : ∃ y, l[k + 1]? = some y := ⟨_, List.getElem?_eq_getElem (by omega)⟩
      have c1 : ∀ p, (wr.drewN p).cell? ⟨b, off + k, none⟩ = some (.int .u32 x) := fun p => by rw [hw]; exact hcell k x hx
      have c2 : ∀ p, (wr.drewN p).cell? ⟨b, off + (k + 1), none⟩ = some (.int .u32 y) := fun p => by rw [hw]; exact hcell (k + 1) y hy
      have HX : Hid (l[k]? = some x) := hx
      have HY : Hid (l[k + 1]? = some y) := hy
      have HW : Hid (wr = w.drewN n) := hw
      clear hc hcell hx hy hw
      by_cases hxy : x < y
      · go_wp2_with fail
        go_quiet (fail)
        go_wp2_with fail
        go_roundw
        case rel => exact ⟨k + 1, n + nq, Or.inl (by omega), by go_num, by rw [HW.out, World.drewN_drewN], HI.out.next HX.out HY.out hxy⟩
        case measure => simp [intOf]; omega
      · have : q = false := by rw [HQ.out]; exact rises_not HX.out HY.out hxy
        subst this
        go_wp2_with fail
        go_quiet (fail)
        go_wp2_with fail
        go_ret
        exact ⟨rfl, by rw [HW.out]; exact ((Gr.refl _).drewN _).drewN _⟩
    · have : q = true := by rw [HQ.out]; exact HI.out.all (by omega)
      subst this
      have HW : Hid (wr = w.drewN n) := hw
      clear hc hw
      go_wp2_with fail
      go_ret
      exact ⟨rfl, by rw [HW.out]; exact (Gr.refl _).drewN _⟩

set_option maxHeartbeats 1000000 in
theorem rises_any (v : Value) (l : List Int) (w : World) (hl : l.length < 4611686018427387904) (hv : Row1 w v l) :
    Calls Try.prog 26 #[v] w fun e w' => e = .returned (.bool (rises l)) ∧ Gr w w' := by
  obtain ⟨ao, cap, rfl, hc, _⟩ := hv
  obtain ⟨q, hq⟩ : ∃ q, q = rises l := ⟨_, rfl⟩
  have HQ : Hid (q = rises l) := hq
  rw [← hq]
  clear hq
  go_enter Try.func26, Try.ntmps26
  go_wp2_with fail
  go_loopw [6] (fun i wr => ∃ k n : Nat, k ≤ l.length ∧ i = .int .i64 k ∧ wr = w.drewN n ∧ Hid (RisesTo l k)) (fun i _ => l.length - (intOf i).toNat)
  case atStart => exact ⟨0, 0, by omega, rfl, rfl, RisesTo.one _ _ (by omega)⟩
  case round =>
    obtain ⟨k, n, hk, rfl, hw, HI⟩ := hrel
    by_cases hlt : k < l.length
    · obtain ⟨b, off, rfl, hb, hcell⟩ := hc (ne_nil_of_lt hlt)
      cases k with
      | zero =>
        have HW : Hid (wr = w.drewN n) := hw
        clear hc hcell hw HI
        go_wp2_with fail
        go_quiet (fail)
        go_wp2_with fail
        go_roundw
        case rel => exact ⟨1, n + nq, by omega, by go_num, by rw [HW.out, World.drewN_drewN], RisesTo.one _ _ (by omega)⟩
        case measure => simp [intOf]; omega
      | succ k =>
        obtain ⟨x, hx⟩ : ∃ x, l[k]? = some x := ⟨_, List.getElem?_eq_getElem (by omega)⟩
        obtain ⟨y, hy⟩ : ∃ y, l[k + 1]? = some y := ⟨_, List.getElem?_eq_getElem (by omega)⟩
        have c1 : ∀ p, (wr.drewN p).cell? ⟨b, off + k, none⟩ = some (.int .u32 x) := fun p => by rw [hw]; exact hcell k x hx
        have c2 : ∀ p, (wr.drewN p).cell? ⟨b, off + (k + 1), none⟩ = some (.int .u32 y) := fun p => by rw [hw]; exact hcell (k + 1) y hy
        have HX : Hid (l[k]? = some x) := hx
        have HY : Hid (l[k + 1]? = some y) := hy
        have HW : Hid (wr = w.drewN n) := hw
        clear hc hcell hx hy hw
        by_cases hxy : x < y
        · go_wp2_with fail
          go_quiet (fail)
          go_wp2_with fail
          go_roundw
          case rel => exact ⟨k + 2, n + nq, by omega, by go_num, by rw [HW.out, World.drewN_drewN], HI.out.next HX.out HY.out hxy⟩
          case measure => simp [intOf]; omega
        · have : q = false := by rw [HQ.out]; exact rises_not HX.out HY.out hxy
          subst this
          go_wp2_with fail
          go_quiet (fail)
          go_wp2_with fail
          go_ret
          exact ⟨rfl, by rw [HW.out]; exact ((Gr.refl _).drewN _).drewN _⟩
    · have : q = true := by rw [HQ.out]; exact HI.out.all (by omega)
      subst this
      have HW : Hid (wr = w.drewN n) := hw
      clear hc hw
      go_wp2_with fail
      go_ret
      exact ⟨rfl, by rw [HW.out]; exact (Gr.refl _).drewN _⟩
end Go.Proofs.Ytaaaccgakahapaa
