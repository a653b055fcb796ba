/-
  Walks: the two Ins of a set of numbers.
-/
import Derived.Test.YtihnmamejfoeeaaDoorW1
namespace Go.Proofs.YtihnmamejfoeeaaDoor
open Go.RowKit

theorem inSet_nil (n : Int) : inSet [] n = false := rfl
theorem inSet_cons (s : Int × Int) (l : List (Int × Int)) (n : Int) : inSet (s :: l) n = ((decide (s.1 ≤ n) && decide (n ≤ s.2)) || inSet l n) := rfl

set_option maxHeartbeats 2000000 in
theorem in_any (v : Value) (l : List (Int × Int)) (n : Int) (w : World) (hl : l.length ≤ 4611686018427387903) (hv : RowS w v l) :
    Calls Tryd.prog 33 #[v, .int .u32 n] w fun e w' => e = .returned (.bool (inSet l n)) ∧ Gr w w' := by
  obtain ⟨ao, cap, rfl⟩ := hv.form
  obtain ⟨N, hN⟩ : ∃ N : Nat, N = l.length := ⟨_, rfl⟩
  have HN : Hid (N = l.length) := hN
  have HV : Hid (RowS w (.slice ao N cap) l) := by rw [hN]; exact hv
  rw [← hN] at hl ⊢
  clear hv hN
  obtain ⟨r, hr⟩ : ∃ r, r = inSet l n := ⟨_, rfl⟩
  have HR : Hid (r = inSet l n) := hr
  rw [← hr]
  clear hr
  go_enter Tryd.func33, Tryd.ntmps33
  go_wp2_with fail
  go_loopw [9] (fun vi wr => ∃ k : Nat, k ≤ N ∧ vi = .int .i64 k ∧ Hid (Gr w wr) ∧ Hid (r = inSet (l.drop k) n)) (fun vi _ => N - (intOf vi).toNat)
  case atStart => exact ⟨0, Nat.zero_le _, rfl, Gr.refl _, by rw [List.drop_zero]; exact HR⟩
  case round =>
    obtain ⟨k, hk, rfl, HK, HM⟩ := hrel
    by_cases hlt : k < N
    case neg =>
      have e : r = false := by
        rw [HM.out, List.drop_eq_nil_of_le (by have := HN.out; omega)]
        rfl
      go_wp2_with fail
      go_ret
      exact ⟨by rw [e]; rfl, HK.out⟩
    obtain ⟨s, hs⟩ : ∃ s, l[k]? = some s := ⟨_, List.getElem?_eq_getElem (by have := HN.out; omega)⟩
    obtain ⟨b, off, rfl, hb, d0, d1⟩ := (HV.out.gr HK.out).cs2 hs
    have HM2 : Hid (r = ((decide (s.1 ≤ n) && decide (n ≤ s.2)) || inSet (l.drop (k + 1)) n)) := by
      show _ = _
      rw [HM.out, drop_of hs, inSet_cons]
    obtain ⟨s0, s1⟩ := s
    simp only at d0 d1
    clear hs HM
    by_cases c1 : s0 ≤ n
    · by_cases c2 : n ≤ s1
      · have HM3 : Hid (r = true) := by show _ = _; rw [HM2.out]; simp [c1, c2]
        clear HM2
        go_wp2_with fail
        go_ret
        exact ⟨by rw [HM3.out]; rfl, HK.out.alloc _⟩
      · have HM3 : Hid (r = inSet (l.drop (k + 1)) n) := by show _ = _; rw [HM2.out]; simp [c2]
        clear HM2
        go_wp2_with fail
        go_roundw
        case rel => exact ⟨k + 1, by omega, by go_num, HK.out.alloc _, HM3⟩
        case measure => simp [intOf]; omega
    · have HM3 : Hid (r = inSet (l.drop (k + 1)) n) := by show _ = _; rw [HM2.out]; simp [c1]
      clear HM2
      go_wp2_with fail
      go_roundw
      case rel => exact ⟨k + 1, by omega, by go_num, HK.out.alloc _, HM3⟩
      case measure => simp [intOf]; omega

set_option maxHeartbeats 2000000 in
theorem rin_any (v : Value) (l : List (Int × Int)) (n : Int) (w : World) (hl : l.length ≤ 4611686018427387903) (hv : RowS w v l) :
    Calls Tryd.prog 38 #[v, .int .u32 n] w fun e w' => e = .returned (.bool (inSet l n)) ∧ Gr w w' := by
  obtain ⟨ao, cap, rfl⟩ := hv.form
  obtain ⟨N, hN⟩ : ∃ N : Nat, N = l.length := ⟨_, rfl⟩
  have HN : Hid (N = l.length) := hN
  have HV : Hid (RowS w (.slice ao N cap) l) := by rw [hN]; exact hv
  rw [← hN] at hl ⊢
  clear hv hN
  obtain ⟨r, hr⟩ : ∃ r, r = inSet l n := ⟨_, rfl⟩
  have HR : Hid (r = inSet l n) := hr
  rw [← hr]
  clear hr
  go_enter Tryd.func38, Tryd.ntmps38
  go_wp2_with fail
  go_loopw [9] (fun vi wr => ∃ k : Nat, k ≤ N ∧ vi = .int .i64 k ∧ Hid (Gr w wr) ∧ Hid (r = inSet (l.drop k) n)) (fun vi _ => N - (intOf vi).toNat)
  case atStart => exact ⟨0, Nat.zero_le _, rfl, Gr.refl _, by rw [List.drop_zero]; exact HR⟩
  case round =>
    obtain ⟨k, hk, rfl, HK, HM⟩ := hrel
    by_cases hlt : k < N
    case neg =>
      have e : r = false := by
        rw [HM.out, List.drop_eq_nil_of_le (by have := HN.out; omega)]
        rfl
      go_wp2_with fail
      go_ret
      exact ⟨by rw [e]; rfl, HK.out⟩
    obtain ⟨s, hs⟩ : ∃ s, l[k]? = some s := ⟨_, List.getElem?_eq_getElem (by have := HN.out; omega)⟩
    obtain ⟨b, off, rfl, hb, d0, d1⟩ := (HV.out.gr HK.out).cs2 hs
    have HM2 : Hid (r = ((decide (s.1 ≤ n) && decide (n ≤ s.2)) || inSet (l.drop (k + 1)) n)) := by
      show _ = _
      rw [HM.out, drop_of hs, inSet_cons]
    obtain ⟨s0, s1⟩ := s
    simp only at d0 d1
    clear hs HM
    by_cases c1 : s0 ≤ n
    · by_cases c2 : n ≤ s1
      · have HM3 : Hid (r = true) := by show _ = _; rw [HM2.out]; simp [c1, c2]
        clear HM2
        go_wp2_with fail
        go_ret
        exact ⟨by rw [HM3.out]; rfl, HK.out.alloc _⟩
      · have HM3 : Hid (r = inSet (l.drop (k + 1)) n) := by show _ = _; rw [HM2.out]; simp [c2]
        clear HM2
        go_wp2_with fail
        go_roundw
        case rel => exact ⟨k + 1, by omega, by go_num, HK.out.alloc _, HM3⟩
        case measure => simp [intOf]; omega
    · have HM3 : Hid (r = inSet (l.drop (k + 1)) n) := by show _ = _; rw [HM2.out]; simp [c1]
      clear HM2
      go_wp2_with fail
      go_roundw
      case rel => exact ⟨k + 1, by omega, by go_num, HK.out.alloc _, HM3⟩
      case measure => simp [intOf]; omega

end Go.Proofs.YtihnmamejfoeeaaDoor
