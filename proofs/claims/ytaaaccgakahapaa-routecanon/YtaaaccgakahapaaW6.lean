/-
  Walks over two lists: slices.Compare and the document's own; over the eight findings: decide; Nums.
-/
import Derived.Test.YtaaaccgakahapaaW5
namespace Go.Proofs.Ytaaaccgakahapaa
open Go.RowKit

theorem cmpL_app (p l m : List Int) : cmpL (p ++ l) (p ++ m) = cmpL l m := by
  induction p with
  | nil => rfl
  | cons a p ih => simp [cmpL, ih]

theorem cmpL_at {l m : List Int} (k : Nat) (h : l.take k = m.take k) : cmpL l m = cmpL (l.drop k) (m.drop k) := by
  have h1 := List.take_append_drop k l
  have h2 := List.take_append_drop k m
  rw [← h] at h2
  generalize l.drop k = a at *
  generalize m.drop k = b at *
  rw [← h1, ← h2, cmpL_app]

theorem cmpL_diff {l m : List Int} {k : Nat} {x y : Int} (h : l.take k = m.take k) (hx : l[k]? = some x) (hy : m[k]? = some y) (hxy : x ≠ y) : cmpL l m = cmpV x y := by
  rw [cmpL_at k h]
  obtain ⟨h1, rfl⟩ := List.getElem?_eq_some_iff.1 hx
  obtain ⟨h2, rfl⟩ := List.getElem?_eq_some_iff.1 hy
  rw [List.drop_eq_getElem_cons h1, List.drop_eq_getElem_cons h2]
  unfold cmpL
  rw [if_neg hxy]

theorem cmpL_end {l m : List Int} {k : Nat} (h : l.take k = m.take k) (hk : l.length ≤ k ∨ m.length ≤ k) (h1 : k ≤ l.length) (h2 : k ≤ m.length) : cmpL l m = cmpV l.length m.length := by
  rw [cmpL_at k h]
  have e1 : (l.drop k).length = l.length - k := by simp
  have e2 : (m.drop k).length = m.length - k := by simp
  unfold cmpV
  cases ha : l.drop k with
  | nil =>
    rw [ha] at e1
    simp at e1
    cases hb : m.drop k with
    | nil =>
      rw [hb] at e2
      simp at e2
      rw [if_neg (by omega), if_neg (by omega)]
      rfl
    | cons b m' =>
      rw [hb] at e2
      simp at e2
      rw [if_pos (by omega)]
      rfl
  | cons a l' =>
    rw [ha] at e1
    simp at e1
    cases hb : m.drop k with
    | nil =>
      rw [hb] at e2
      simp at e2
      rw [if_neg (by omega), if_pos (by omega)]
      rfl
    | cons b m' =>
      rw [hb] at e2
      simp at e2
      omega

theorem take_next {l m : List Int} {k : Nat} {x y : Int} (h : l.take k = m.take k) (hx : l[k]? = some x) (hy : m[k]? = some y) (hxy : x = y) : l.take (k + 1) = m.take (k + 1) := by
  rw [take_succ_of hx, take_succ_of hy, h, hxy]

set_option maxHeartbeats 1000000 in
theorem compareS_any (u v : Value) (l m : List Int) (w : World) (hl : l.length < 4611686018427387904) (_ : m.length < 4611686018427387904) (hu : Row1 w u l) (hv : Row1 w v m) :
    Calls Try.prog 36 #[u, v] w fun e w' => e = .returned (.int .i64 (cmpL l m)) ∧ w' = w := by
  obtain ⟨ao, cap, rfl, hc, _⟩ := hu
  obtain ⟨ao2, cap2, rfl, hc2, _⟩ := hv
  obtain ⟨q, hq⟩ : ∃ q, q = cmpL l m := ⟨_, rfl⟩
  have HQ : Hid (q = cmpL l m) := hq
  rw [← hq]
  clear hq
  go_enter Try.func36, Try.ntmps36
  go_wp2_with fail
  go_loop [11] (fun i => ∃ k : Nat, k ≤ l.length ∧ k ≤ m.length ∧ i = .int .i64 k ∧ Hid (l.take k = m.take k)) (fun i => l.length - (intOf i).toNat)
  case atStart => exact ⟨0, Nat.zero_le _, Nat.zero_le _, rfl, rfl⟩
  case round =>
    obtain ⟨k, hk, hk2, rfl, HI⟩ := hrel
    by_cases hlt : k < l.length
    · obtain ⟨b, off, rfl, hb, hcell⟩ := hc (ne_nil_of_lt hlt)
      obtain ⟨x, hx⟩ : ∃ x, l[k]? = some x := ⟨_, List.getElem?_eq_getElem (by omega)⟩
      have c1 := hcell k x hx
      have HX : Hid (l[k]? = some x) := hx
      clear hc hcell hx
      by_cases hlt2 : k < m.length
      · obtain ⟨b2, off2, rfl, hb2, hcell2⟩ := hc2 (ne_nil_of_lt hlt2)
        obtain ⟨y, hy⟩ : ∃ y, m[k]? = some y := ⟨_, List.getElem?_eq_getElem (by omega)⟩
        have c2 := hcell2 k y hy
        have HY : Hid (m[k]? = some y) := hy
        clear hc2 hcell2 hy
        have hcmp := compareU_any x y w
        by_cases hxy : x = y
        · have e0 : cmpV x y = 0 := by rw [hxy]; exact cmpV_self _
          rw [e0] at hcmp
          have HN : Hid (x = y) := hxy
          clear e0 hxy
          go_wp2_with (go_at_call 34; refine hcmp.mono ?_; rintro e w1 ⟨rfl, rfl⟩)
          go_round
          case rel => exact ⟨k + 1, by omega, by omega, by go_num, take_next HI.out HX.out HY.out HN.out⟩
          case measure => simp [intOf]; omega
        · have e0 : (cmpV x y != 0) = true := by
            rw [bne_iff_ne]
            intro h
            exact hxy (cmpV_zero h)
          have HN : Hid (x ≠ y) := hxy
          have HE : Hid (q = cmpV x y) := by rw [Hid, HQ.out]; exact cmpL_diff HI.out HX.out HY.out hxy
          clear hxy
          have hqq := HE.out
          rw [← hqq] at hcmp e0
          clear hqq
          go_wp2_with (go_at_call 34; refine hcmp.mono ?_; rintro e w1 ⟨rfl, rfl⟩)
          go_ret
          exact ⟨rfl, rfl⟩
      · have HE : Hid (q = 1) := by
          rw [Hid, HQ.out, cmpL_end HI.out (Or.inr (by omega)) hk hk2]
          unfold cmpV
          rw [if_neg (by omega), if_pos (by omega)]
        clear hc2
        go_wp2_with fail
        go_ret
        exact ⟨by rw [HE.out]; rfl, rfl⟩
    · have HE : Hid (q = cmpV l.length m.length) := by
        rw [Hid, HQ.out, cmpL_end HI.out (Or.inl (by omega)) hk hk2]
      clear hc hc2
      by_cases hlen : (l.length : Int) < (m.length : Int)
      · have e : q = -1 := by rw [HE.out]; unfold cmpV; rw [if_pos hlen]
        subst e
        go_wp2_with fail
        go_ret
        exact ⟨rfl, rfl⟩
      · have e : q = 0 := by rw [HE.out]; unfold cmpV; rw [if_neg hlen, if_neg (by omega)]
        subst e
        go_wp2_with fail
        go_ret
        exact ⟨rfl, rfl⟩

set_option maxHeartbeats 1000000 in
theorem list_any (u v : Value) (l m : List Int) (w : World) (hl : l.length < 4611686018427387904) (_ : m.length < 4611686018427387904) (hgl : Good l) (hgm : Good m) (hu : Row1 w u l) (hv : Row1 w v m) :
    Calls Try.prog 31 #[u, v] w fun e w' => e = .returned (.int .i64 (cmpL l m)) ∧ ∃ n, w' = w.drewN n := by
  obtain ⟨ao, cap, rfl, hc, _⟩ := hu
  obtain ⟨ao2, cap2, rfl, hc2, _⟩ := hv
  obtain ⟨q, hq⟩ : ∃ q, q = cmpL l m := ⟨_, rfl⟩
  have HQ : Hid (q = cmpL l m) := hq
  rw [← hq]
  clear hq
  go_enter Try.func31, Try.ntmps31
  go_wp2_with fail
  go_loopw [5] (fun i wr => ∃ k n : Nat, k ≤ l.length ∧ k ≤ m.length ∧ i = .int .i64 k ∧ wr = w.drewN n ∧ Hid (l.take k = m.take k)) (fun i _ => l.length - (intOf i).toNat)
  case atStart => exact ⟨0, 0, Nat.zero_le _, Nat.zero_le _, rfl, rfl, rfl⟩
  case round =>
    obtain ⟨k, n, hk, hk2, rfl, hw, HI⟩ := hrel
    by_cases hlt : k < l.length ∧ k < m.length
    · obtain ⟨hlt, hlt2⟩ := hlt
      obtain ⟨b, off, rfl, hb, hcell⟩ := hc (ne_nil_of_lt hlt)
      obtain ⟨x, hx⟩ : ∃ x, l[k]? = some x := ⟨_, List.getElem?_eq_getElem (by omega)⟩
      obtain ⟨b2, off2, rfl, hb2, hcell2⟩ := hc2 (ne_nil_of_lt hlt2)
      obtain ⟨y, hy⟩ : ∃ y, m[k]? = some y := ⟨_, List.getElem?_eq_getElem (by omega)⟩
      have c1 : ∀ p, (wr.drewN p).cell? ⟨b, off + k, none⟩ = some (.int .u32 x) := fun p => by rw [hw]; exact hcell k x hx
      have c2 : ∀ p, (wr.drewN p).cell? ⟨b2, off2 + k, none⟩ = some (.int .u32 y) := fun p => by rw [hw]; exact hcell2 k y hy
      have HX : Hid (l[k]? = some x) := hx
      have HY : Hid (m[k]? = some y) := hy
      have HW : Hid (wr = w.drewN n) := hw
      obtain ⟨x0, x1⟩ := hgl.at hx
      obtain ⟨y0, y1⟩ := hgm.at hy
      clear hc hcell hx hc2 hcell2 hy hw hgl hgm
      have hcmp := fun W => number_any x y W
      by_cases hxy : x = y
      · have e0 : (x != y) = false := by simp [hxy]
        have HN : Hid (x = y) := hxy
        clear hxy
        go_wp2_with fail
        go_quiet (fail)
        go_wp2_with fail
        go_roundw
        case rel => exact ⟨k + 1, n + nq, by omega, by omega, by go_num, by rw [HW.out, World.drewN_drewN], take_next HI.out HX.out HY.out HN.out⟩
        case measure => simp [intOf]; omega
      · have e0 : (x != y) = true := by simp [hxy]
        have HE : Hid (q = cmpV x y) := by rw [Hid, HQ.out]; exact cmpL_diff HI.out HX.out HY.out hxy
        clear hxy
        have hqq := HE.out
        rw [← hqq] at hcmp
        clear hqq
        have wx : IntKind.i64.wrap x = x := by rw [IntKind.wrap_i64]; omega
        have wy : IntKind.i64.wrap y = y := by rw [IntKind.wrap_i64]; omega
        go_wp2_with fail
        go_quiet (fail)
        go_wp2_with fail
        obtain ⟨W1, hW1⟩ : ∃ W1, W1 = wr.drewN nq := ⟨_, rfl⟩
        have d1 : ∀ p, (W1.drewN p).cell? ⟨b, off + k, none⟩ = some (.int .u32 x) := fun p => by rw [hW1, World.drewN_drewN]; exact c1 _
        have d2 : ∀ p, (W1.drewN p).cell? ⟨b2, off2 + k, none⟩ = some (.int .u32 y) := fun p => by rw [hW1, World.drewN_drewN]; exact c2 _
        rw [← hW1]
        have HW1 : Hid (W1 = wr.drewN nq) := hW1
        clear c1 c2 hW1
        go_quiet (first | (go_at_call 30; with_reducible exact Calls.quiet_of_same (hcmp _)))
        go_wp2_with fail
        go_ret
        exact ⟨rfl, _, by rw [HW1.out, HW.out, World.drewN_drewN, World.drewN_drewN]⟩
    · have HE : Hid (q = cmpV l.length m.length) := by
        rw [Hid, HQ.out, cmpL_end HI.out (by omega) hk hk2]
      have hcmp := fun W => number_any l.length m.length W
      have hqq := HE.out
      rw [← hqq] at hcmp
      have HW : Hid (wr = w.drewN n) := hw
      clear hqq hc hc2 hw hgl hgm
      by_cases hlt1 : k < l.length
      · have hlt2 : ¬ (k < m.length) := fun h => hlt ⟨hlt1, h⟩
        clear hlt
        go_wp2_with (go_at_call 30; refine (hcmp _).mono ?_; rintro e w1 ⟨rfl, rfl⟩)
        go_ret
        exact ⟨rfl, _, by rw [HW.out]⟩
      · clear hlt
        go_wp2_with (go_at_call 30; refine (hcmp _).mono ?_; rintro e w1 ⟨rfl, rfl⟩)
        go_ret
        exact ⟨rfl, _, by rw [HW.out]⟩
end Go.Proofs.Ytaaaccgakahapaa
