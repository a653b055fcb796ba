/-
  The walks of decide and of Nums.
-/
import Derived.Test.YtaaaccgakahapaaW6
namespace Go.Proofs.Ytaaaccgakahapaa
open Go.RowKit

theorem firstNZ_zero {l : List Int} {k : Nat} (h : ∀ i x, i < k → l[i]? = some x → x = 0) : firstNZ l = firstNZ (l.drop k) := by
  induction k generalizing l with
  | zero => simp
  | succ k ih =>
    cases l with
    | nil => simp
    | cons a l =>
      have h0 := h 0 a (by omega) rfl
      subst h0
      rw [List.drop_succ_cons, ← ih (l := l) (fun i x hi hx => h (i + 1) x (by omega) (by simpa using hx))]
      simp [firstNZ]

theorem firstNZ_at {l : List Int} {k : Nat} {x : Int} (h : ∀ i x, i < k → l[i]? = some x → x = 0) (hx : l[k]? = some x) (h0 : x ≠ 0) : firstNZ l = x := by
  rw [firstNZ_zero h]
  obtain ⟨h1, rfl⟩ := List.getElem?_eq_some_iff.1 hx
  rw [List.drop_eq_getElem_cons h1]
  simp [firstNZ, h0]

theorem firstNZ_none {l : List Int} {k : Nat} (h : ∀ i x, i < k → l[i]? = some x → x = 0) (hk : l.length ≤ k) : firstNZ l = 0 := by
  rw [firstNZ_zero h, List.drop_eq_nil_of_le hk]
  rfl

set_option maxHeartbeats 1000000 in
theorem decide_any (b n cap : Nat) (l : List Int) (w : World) (hl : l.length = n) (hn : n < 4611686018427387904) (hc : ∀ i x, l[i]? = some x → w.cell? ⟨b, i, none⟩ = some (.int .i64 x)) :
    Calls Try.prog 33 #[.slice (some ⟨b, 0, none⟩) n cap] w fun e w' => e = .returned (.int .i64 (firstNZ l)) ∧ w' = w := by
  obtain ⟨q, hq⟩ : ∃ q, q = firstNZ l := ⟨_, rfl⟩
  have HQ : Hid (q = firstNZ l) := hq
  rw [← hq]
  clear hq
  have HL : Hid (l.length = n) := hl
  clear hl
  go_enter Try.func33, Try.ntmps33
  go_wp2_with fail
  go_loop [7] (fun i => ∃ k : Nat, k ≤ n ∧ i = .int .i64 k ∧ Hid (∀ i x, i < k → l[i]? = some x → x = 0)) (fun i => n - (intOf i).toNat)
  case atStart => exact ⟨0, Nat.zero_le _, rfl, fun i x hi => by omega⟩
  case round =>
    obtain ⟨k, hk, rfl, HI⟩ := hrel
    by_cases hlt : k < n
    · obtain ⟨x, hx⟩ : ∃ x, l[k]? = some x := ⟨_, List.getElem?_eq_getElem (by have := HL.out; omega)⟩
      have c1 := hc k x hx
      have HX : Hid (l[k]? = some x) := hx
      clear hc hx
      by_cases h0 : x = 0
      · have HN : Hid (x = 0) := h0
        have e0 : (x != 0) = false := by simp [h0]
        clear h0
        go_wp2_with fail
        go_round
        case rel => exact ⟨k + 1, by omega, by go_num, fun i y hi hy => by
            by_cases e : i = k
            · subst e; rw [HX.out] at hy; injection hy with hy; rw [← hy]; exact HN.out
            · exact HI.out i y (by omega) hy⟩
        case measure => simp [intOf]; omega
      · have e0 : (x != 0) = true := by simp [h0]
        have HE : Hid (q = x) := by rw [Hid, HQ.out]; exact firstNZ_at HI.out HX.out h0
        clear h0
        go_wp2_with fail
        go_ret
        exact ⟨by rw [HE.out]; rfl, rfl⟩
    · have HE : Hid (q = 0) := by rw [Hid, HQ.out]; exact firstNZ_none HI.out (by have := HL.out; omega)
      clear hc
      go_wp2_with fail
      go_ret
      exact ⟨by rw [HE.out]; rfl, rfl⟩

set_option maxHeartbeats 1000000 in
theorem nums_any (v u : Value) (l m : List Int) (w : World) (hl : l.length < 4611686018427387904) (hv : Row1 w v l) (hu : Row1 w u m) :
    Calls Try.prog 20 #[v, u] w fun e w' => e = .returned (.bool (decide (l = m))) ∧ Gr w w' := by
  obtain ⟨ao, cap, rfl, hc, _⟩ := hv
  obtain ⟨ao2, cap2, rfl, hc2, _⟩ := hu
  by_cases hlen : l.length = m.length
  case neg =>
    have e1 : ((l.length : Int) != (m.length : Int)) = true := by rw [bne_iff_ne]; omega
    have e : decide (l = m) = false := by simp; intro h; rw [h] at hlen; exact hlen rfl
    rw [e]
    clear e hc hc2 hlen
    go_enter Try.func20, Try.ntmps20
    go_wp2
    go_ret
    exact ⟨rfl, Gr.refl _⟩
  have e1 : ((l.length : Int) != (l.length : Int)) = false := by simp
  rw [← hlen]
  have HL : Hid (l.length = m.length) := hlen
  obtain ⟨q, hq⟩ : ∃ q, q = decide (l = m) := ⟨_, rfl⟩
  have HQ : Hid (q = decide (l = m)) := hq
  rw [← hq]
  clear hlen hq
  go_enter Try.func20, Try.ntmps20
  go_wp2
  go_loopw [13] (fun i wr => ∃ k n : Nat, k ≤ l.length ∧ i = .int .i64 k ∧ Hid (l.take k = m.take k) ∧ wr = w.drewN n) (fun i _ => l.length - (intOf i).toNat)
  case atStart => exact ⟨0, 0, Nat.zero_le _, rfl, by simp [Hid], rfl⟩
  case round =>
    obtain ⟨k, n, hk, rfl, HI, hw⟩ := hrel
    by_cases hlt : k < l.length
    · obtain ⟨b, off, rfl, hb, hcell⟩ := hc (ne_nil_of_lt hlt)
      obtain ⟨b2, off2, rfl, hb2, hcell2⟩ := hc2 (ne_nil_of_lt (k := k) (by rw [← HL.out]; exact hlt))
      obtain ⟨x, hx⟩ : ∃ x, l[k]? = some x := ⟨_, List.getElem?_eq_getElem hlt⟩
      obtain ⟨y, hy⟩ : ∃ y, m[k]? = some y := ⟨_, List.getElem?_eq_getElem (by rw [← HL.out]; exact hlt)⟩
      have c1 : ∀ p, (wr.drewN p).cell? ⟨b, off + k, none⟩ = some (.int .u32 x) := fun p => by rw [hw]; exact hcell k x hx
      have c2 : ∀ p, (wr.drewN p).cell? ⟨b2, off2 + k, none⟩ = some (.int .u32 y) := fun p => by rw [hw]; exact hcell2 k y hy
      have HX : Hid (l[k]? = some x) := hx
      have HY : Hid (m[k]? = some y) := hy
      have HW : Hid (wr = w.drewN n) := hw
      clear hc hcell hx hc2 hcell2 hy hw
      by_cases hxy : x = y
      · have e2 : (x != y) = false := by simp [hxy]
        have HE : Hid (x = y) := hxy
        clear hxy
        go_wp2
        go_quiet (fail)
        go_wp2
        go_roundw
        case rel => exact ⟨k + 1, n + nq, by omega, by go_num, take_next HI.out HX.out HY.out HE.out, by rw [HW.out, World.drewN_drewN]⟩
        case measure => simp [intOf]; omega
      · have e2 : (x != y) = true := by simp [hxy]
        have : q = false := by
          rw [HQ.out]
          apply decide_eq_false
          intro h
          have hh := HX.out
          rw [h, HY.out] at hh
          injection hh with hh
          exact hxy hh.symm
        subst this
        clear hxy
        go_wp2
        go_quiet (fail)
        go_wp2
        go_ret
        exact ⟨rfl, by rw [HW.out]; exact ((Gr.refl _).drewN _).drewN _⟩
    · have : q = true := by
        rw [HQ.out]
        have := HI.out
        rw [List.take_of_length_le (by omega), List.take_of_length_le (by have := HL.out; omega)] at this
        exact decide_eq_true this
      subst this
      have HW : Hid (wr = w.drewN n) := hw
      clear hc hc2 hw
      go_wp2
      go_ret
      exact ⟨rfl, by rw [HW.out]; exact (Gr.refl _).drewN _⟩
end Go.Proofs.Ytaaaccgakahapaa
