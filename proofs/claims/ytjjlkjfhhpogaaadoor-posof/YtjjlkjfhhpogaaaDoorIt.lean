/-
  The walks of Ints and Nums: whether two rows of numbers are the same.
-/
import Derived.Test.YtjjlkjfhhpogaaaDoorRh
namespace Go.Proofs.YtjjlkjfhhpogaaaDoor
open Go.RowKit

set_option maxHeartbeats 2000000 in
theorem ints_any (u v : Value) (a b : List Nat) (w : World) (ha : a.length ≤ 100000) (hu : RowI w u a) (hv : RowI w v b) :
    Calls Tryd.prog 38 #[u, v] w fun e w' => e = .returned (.bool (decide (a = b))) ∧ Gr w w' := by
  obtain ⟨ua, uc, rfl⟩ := hu.form
  obtain ⟨va, vc, rfl⟩ := hv.form
  by_cases hl : a.length = b.length
  case neg =>
    have hr : decide (a = b) = false := by simp; rintro rfl; exact hl rfl
    rw [hr]
    have hl2 : ((a.length : Int) == (b.length : Int)) = false := by simp; omega
    go_enter Tryd.func38, Tryd.ntmps38
    go_wp2_with fail
    go_ret
    exact ⟨rfl, Gr.refl _⟩
  obtain ⟨N, hN⟩ : ∃ N : Nat, N = a.length := ⟨_, rfl⟩
  have HN : Hid (N = a.length) := hN
  have HNB : Hid (N = b.length) := hN.trans hl
  have HU : Hid (RowI w (.slice ua N uc) a) := by rw [hN]; exact hu
  have HV : Hid (RowI w (.slice va N vc) b) := by rw [hN, hl]; exact hv
  obtain ⟨r, hr⟩ : ∃ r, r = decide (a = b) := ⟨_, rfl⟩
  have HR : Hid (r = decide (a = b)) := hr
  rw [← hr, ← hl]
  rw [← hN] at ha ⊢
  clear hu hv hN hl hr
  go_enter Tryd.func38, Tryd.ntmps38
  go_wp2_with fail
  go_loopw [13] (fun vi wr => ∃ k : Nat, k ≤ N ∧ vi = .int .i64 k ∧ Hid (Gr w wr) ∧ Hid (a.take k = b.take k)) (fun vi _ => N - (intOf vi).toNat)
  case atStart => exact ⟨0, Nat.zero_le _, rfl, Gr.refl _, by show _ = _; simp⟩
  case round =>
    obtain ⟨k, hk, rfl, HG, HM⟩ := hrel
    by_cases hlt : k < N
    case neg =>
      have e : r = true := by
        have h := HM.out
        rw [List.take_of_length_le (by have := HN.out; omega), List.take_of_length_le (by have := HNB.out; omega)] at h
        rw [HR.out]
        simp [h]
      subst e
      go_wp2_with fail
      go_ret
      exact ⟨rfl, HG.out⟩
    obtain ⟨x, hx⟩ : ∃ x, a[k]? = some x := ⟨_, List.getElem?_eq_getElem (by have := HN.out; omega)⟩
    obtain ⟨y, hy⟩ : ∃ y, b[k]? = some y := ⟨_, List.getElem?_eq_getElem (by have := HNB.out; omega)⟩
    obtain ⟨b1, o1, rfl, h1, d1⟩ := (HU.out.gr HG.out).csI hx
    obtain ⟨b2, o2, rfl, h2, d2⟩ := (HV.out.gr HG.out).csI hy
    have HXX : Hid (a[k]? = some x) := hx
    have HYY : Hid (b[k]? = some y) := hy
    clear hx hy
    by_cases hxy : x = y
    · subst hxy
      have M2 : Hid (a.take (k + 1) = b.take (k + 1)) := by
        show _ = _
        rw [List.take_add_one, List.take_add_one, HM.out, HXX.out, HYY.out]
      go_wp2_with fail
      go_region
      all_goals
        go_wp2_with fail
        go_roundw
        case rel => exact ⟨k + 1, by omega, by go_num, HG.out.drewN 1, M2⟩
        case measure => simp [intOf]; omega
    · have e : r = false := by
        rw [HR.out]
        simp
        intro e
        have h := HXX.out
        rw [e, HYY.out] at h
        injection h with h
        exact hxy h.symm
      have hb : ((x : Int) == (y : Int)) = false := by simp; omega
      subst e
      go_wp2_with fail
      go_region
      all_goals
        go_wp2_with fail
        go_ret
        exact ⟨rfl, HG.out.drewN 1⟩

set_option maxHeartbeats 2000000 in
theorem nums_any (u v : Value) (a b : List Int) (w : World) (ha : a.length ≤ 100000) (hu : RowN w u a) (hv : RowN w v b) :
    Calls Tryd.prog 23 #[u, v] w fun e w' => e = .returned (.bool (decide (a = b))) ∧ Gr w w' := by
  obtain ⟨ua, uc, rfl⟩ := hu.form
  obtain ⟨va, vc, rfl⟩ := hv.form
  by_cases hl : a.length = b.length
  case neg =>
    have hr : decide (a = b) = false := by simp; rintro rfl; exact hl rfl
    rw [hr]
    have hl2 : ((a.length : Int) == (b.length : Int)) = false := by simp; omega
    go_enter Tryd.func23, Tryd.ntmps23
    go_wp2_with fail
    go_ret
    exact ⟨rfl, Gr.refl _⟩
  obtain ⟨N, hN⟩ : ∃ N : Nat, N = a.length := ⟨_, rfl⟩
  have HN : Hid (N = a.length) := hN
  have HNB : Hid (N = b.length) := hN.trans hl
  have HU : Hid (RowN w (.slice ua N uc) a) := by rw [hN]; exact hu
  have HV : Hid (RowN w (.slice va N vc) b) := by rw [hN, hl]; exact hv
  obtain ⟨r, hr⟩ : ∃ r, r = decide (a = b) := ⟨_, rfl⟩
  have HR : Hid (r = decide (a = b)) := hr
  rw [← hr, ← hl]
  rw [← hN] at ha ⊢
  clear hu hv hN hl hr
  go_enter Tryd.func23, Tryd.ntmps23
  go_wp2_with fail
  go_loopw [13] (fun vi wr => ∃ k : Nat, k ≤ N ∧ vi = .int .i64 k ∧ Hid (Gr w wr) ∧ Hid (a.take k = b.take k)) (fun vi _ => N - (intOf vi).toNat)
  case atStart => exact ⟨0, Nat.zero_le _, rfl, Gr.refl _, by show _ = _; simp⟩
  case round =>
    obtain ⟨k, hk, rfl, HG, HM⟩ := hrel
    by_cases hlt : k < N
    case neg =>
      have e : r = true := by
        have h := HM.out
        rw [List.take_of_length_le (by have := HN.out; omega), List.take_of_length_le (by have := HNB.out; omega)] at h
        rw [HR.out]
        simp [h]
      subst e
      go_wp2_with fail
      go_ret
      exact ⟨rfl, HG.out⟩
    obtain ⟨x, hx⟩ : ∃ x, a[k]? = some x := ⟨_, List.getElem?_eq_getElem (by have := HN.out; omega)⟩
    obtain ⟨y, hy⟩ : ∃ y, b[k]? = some y := ⟨_, List.getElem?_eq_getElem (by have := HNB.out; omega)⟩
    obtain ⟨b1, o1, rfl, h1, d1⟩ := (HU.out.gr HG.out).cs1 hx
    obtain ⟨b2, o2, rfl, h2, d2⟩ := (HV.out.gr HG.out).cs1 hy
    have HXX : Hid (a[k]? = some x) := hx
    have HYY : Hid (b[k]? = some y) := hy
    clear hx hy
    by_cases hxy : x = y
    · subst hxy
      have M2 : Hid (a.take (k + 1) = b.take (k + 1)) := by
        show _ = _
        rw [List.take_add_one, List.take_add_one, HM.out, HXX.out, HYY.out]
      go_wp2_with fail
      go_region
      all_goals
        go_wp2_with fail
        go_roundw
        case rel => exact ⟨k + 1, by omega, by go_num, HG.out.drewN 1, M2⟩
        case measure => simp [intOf]; omega
    · have e : r = false := by
        rw [HR.out]
        simp
        intro e
        have h := HXX.out
        rw [e, HYY.out] at h
        injection h with h
        exact hxy h.symm
      have hb : (x == y) = false := by simp; exact hxy
      subst e
      go_wp2_with fail
      go_region
      all_goals
        go_wp2_with fail
        go_ret
        exact ⟨rfl, HG.out.drewN 1⟩

end Go.Proofs.YtjjlkjfhhpogaaaDoor
