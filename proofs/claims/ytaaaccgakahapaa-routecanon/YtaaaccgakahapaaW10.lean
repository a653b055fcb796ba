/-
  The walks of route.Valid and of the document's own Valid.
-/
import Derived.Test.YtaaaccgakahapaaW8
namespace Go.Proofs.Ytaaaccgakahapaa
open Go.RowKit

set_option maxHeartbeats 2000000 in
theorem valid_any (x : Rt) (u v : Value) (w : World) (hx : Ok x) (sx : Short x) (rx : Rts w x u v) :
    Calls Try.prog 9 #[rv x u v] w fun e w' => e = .returned (.bool (validR x)) ∧ Gr w w' := by
  obtain ⟨W, hW⟩ : ∃ W, W = w.alloc (.cells (rcells x u v) 27) := ⟨_, rfl⟩
  have HW : Hid (Gr w W) := by rw [hW]; exact (Gr.refl _).alloc _
  have k0 : HeldR W w.heap.size x u v := by rw [hW]; exact HeldR.new w x u v
  have RW : Hid (Rts W x u v) := rx.gr HW.out
  have h1 := right_any x.addr x.len hx.addr W
  have HS : Hid (Short x) := sx
  have HQ : Hid (validR x = (((rightP x.addr x.len && (decide (x.path.length ≤ 255) && !x.path.contains 0)) && (decide (x.comms.length ≤ 255) && rises x.comms)) && (decide (0 ≤ x.origin) && decide (x.origin ≤ 2)))) := rfl
  have h4 := fun W => origin_any x.origin W
  obtain ⟨ao1, cap1, rfl⟩ := rx.p.form
  obtain ⟨ao2, cap2, rfl⟩ := rx.c.form
  rw [HQ.out]
  obtain ⟨b1, e1⟩ : ∃ b, b = rightP x.addr x.len := ⟨_, rfl⟩
  obtain ⟨b2, e2⟩ : ∃ b, b = (decide (x.path.length ≤ 255) && !x.path.contains 0) := ⟨_, rfl⟩
  obtain ⟨b3, e3⟩ : ∃ b, b = (decide (x.comms.length ≤ 255) && rises x.comms) := ⟨_, rfl⟩
  obtain ⟨b4, e4⟩ : ∃ b, b = (decide (0 ≤ x.origin) && decide (x.origin ≤ 2)) := ⟨_, rfl⟩
  rw [← e1] at h1
  rw [← e1, ← e2, ← e3, ← e4]
  rw [← e4] at h4
  have E2 : Hid (b2 = (decide (x.path.length ≤ 255) && !x.path.contains 0)) := e2
  have E3 : Hid (b3 = (decide (x.comms.length ≤ 255) && rises x.comms)) := e3
  clear e1 e2 e3 e4 sx rx hx HQ
  obtain ⟨_, c0, c1, _, _, _, _, _, _⟩ := id k0
  have K0 : Hid (HeldR W w.heap.size x (.slice ao1 x.path.length cap1) (.slice ao2 x.comms.length cap2)) := k0
  unfold rv
  have hW2 : w.alloc (.cells #[.int .u32 x.addr, .int .i64 x.len, .slice ao1 x.path.length cap1, .slice ao2 x.comms.length cap2, .int .u32 x.pref, .int .u32 x.med, .int .i64 x.origin, .int .u32 x.hop] 27) = W := hW.symm
  clear hW k0
  go_enter Try.func9, Try.ntmps9
  go_wp2_with fail
  refine h1.mono ?_
  rintro e w1 ⟨rfl, G1⟩
  have GW : Hid (Gr w w1) := HW.out.trans G1
  have R1 := RW.out.gr G1
  have h2 := path_any _ x.path w1 HS.out.p R1.p
  have h3 := comms_any _ x.comms w1 HS.out.c R1.c
  rw [← E2.out] at h2
  rw [← E3.out] at h3
  have K1 : Hid (HeldR w1 w.heap.size x (.slice ao1 x.path.length cap1) (.slice ao2 x.comms.length cap2)) := K0.out.gr G1
  obtain ⟨_, _, _, d2, d3, _, _, _, _⟩ := K1.out
  clear h1 c0 c1 hW2 K0 E2 E3 HS RW R1 G1
  cases b1 with
  | false =>
    go_wp2_with fail
    go_ret
    exact ⟨rfl, GW.out⟩
  | true =>
    go_wp2_with fail
    refine h2.mono ?_
    rintro e w1' ⟨rfl, h0⟩
    rw [h0]
    clear h0 w1' h2
    cases b2 with
    | false =>
      go_wp2_with fail
      go_ret
      exact ⟨rfl, GW.out⟩
    | true =>
      go_wp2_with fail
      refine h3.mono ?_
      rintro e w2 ⟨rfl, G2⟩
      obtain ⟨_, _, _, _, _, _, _, f6, _⟩ := K1.out.gr G2
      have GW2 : Hid (Gr w w2) := GW.out.trans G2
      clear h3 G2 d2 d3
      cases b3 with
      | false =>
        go_wp2_with fail
        go_ret
        exact ⟨rfl, GW2.out⟩
      | true =>
        go_wp2_with (go_at_call 24; refine (h4 _).mono ?_; rintro e w3 ⟨rfl, h0⟩; rw [h0]; clear h0 w3)
        go_ret
        exact ⟨rfl, GW2.out⟩

theorem validR_path {x : Rt} (h : x.path.contains 0 = true) : validR x = false := by
  have h' : (0 : Int) ∈ x.path := by simpa using h
  simp [validR, h']

theorem validR_rest {x : Rt} (h : x.path.contains 0 = false) : validR x = (((((rightP x.addr x.len && decide (x.path.length ≤ 255)) && rises x.comms) && decide (x.comms.length ≤ 255)) && decide (0 ≤ x.origin)) && decide (x.origin ≤ 2)) := by
  unfold validR
  rw [h]
  generalize rightP x.addr x.len = a
  generalize decide (x.path.length ≤ 255) = b
  generalize rises x.comms = c
  generalize decide (x.comms.length ≤ 255) = d
  generalize decide (0 ≤ x.origin) = e
  generalize decide (x.origin ≤ 2) = f
  cases a <;> cases b <;> cases c <;> cases d <;> cases e <;> cases f <;> rfl

set_option maxHeartbeats 2000000 in
theorem rvalid_any (x : Rt) (u v : Value) (w : World) (hx : Ok x) (sx : Short x) (rx : Rts w x u v) :
    Calls Try.prog 10 #[rv x u v] w fun e w' => e = .returned (.bool (validR x)) ∧ Gr w w' := by
  obtain ⟨W, hW⟩ : ∃ W, W = w.alloc (.cells (rcells x u v) 27) := ⟨_, rfl⟩
  have HW : Hid (Gr w W) := by rw [hW]; exact (Gr.refl _).alloc _
  have k0 : HeldR W w.heap.size x u v := by rw [hW]; exact HeldR.new w x u v
  have RW : Hid (Rts W x u v) := rx.gr HW.out
  have h1 := rright_any x.addr x.len hx.addr W
  obtain ⟨sp, sc⟩ := sx
  obtain ⟨q, hq⟩ : ∃ q, q = validR x := ⟨_, rfl⟩
  have HQ : Hid (q = validR x) := hq
  rw [← hq]
  clear hq
  obtain ⟨ao1, cap1, rfl, hc, _⟩ := rx.p
  obtain ⟨ao2, cap2, rfl⟩ := rx.c.form
  have hc' : x.path ≠ [] → ∃ b off, ao1 = some ⟨b, off, none⟩ ∧ b < W.heap.size ∧ ∀ i z, x.path[i]? = some z → W.cell? ⟨b, off + i, none⟩ = some (.int .u32 z) := fun hne => by
    obtain ⟨b, off, h1, h2, h3⟩ := hc hne
    have hB := HW.out.below
    exact ⟨b, off, h1, Nat.lt_of_lt_of_le h2 hB.size, fun i z hz => (hB.cell (p := ⟨b, off + i, none⟩) (by exact h2)).trans (h3 i z hz)⟩
  clear rx hx hc
  have K0 : Hid (HeldR W w.heap.size x (.slice ao1 x.path.length cap1) (.slice ao2 x.comms.length cap2)) := k0
  obtain ⟨_, c0, c1, c2, c3, _, _, c6, _⟩ := k0
  unfold rv
  have hW2 : w.alloc (.cells #[.int .u32 x.addr, .int .i64 x.len, .slice ao1 x.path.length cap1, .slice ao2 x.comms.length cap2, .int .u32 x.pref, .int .u32 x.med, .int .i64 x.origin, .int .u32 x.hop] 27) = W := hW.symm
  clear hW
  go_enter Try.func10, Try.ntmps10
  go_wp2_with fail
  clear hW2
  go_loop [8] (fun i => ∃ k : Nat, k ≤ x.path.length ∧ i = .int .i64 k ∧ Hid ((x.path.take k).contains 0 = false)) (fun i => x.path.length - (intOf i).toNat)
  case atStart => exact ⟨0, Nat.zero_le _, rfl, rfl⟩
  case round =>
    obtain ⟨k, hk, rfl, HI⟩ := hrel
    by_cases hlt : k < x.path.length
    · obtain ⟨b, off, rfl, hb, hcell⟩ := hc' (ne_nil_of_lt hlt)
      obtain ⟨z, hz⟩ : ∃ z, x.path[k]? = some z := ⟨_, List.getElem?_eq_getElem hlt⟩
      have d1 := hcell k z hz
      have HZ : Hid (x.path[k]? = some z) := hz
      clear hc' hcell hz h1 c0 c1 c2 c3 c6 K0
      cases hzx : (z == 0) with
      | true =>
        have : q = false := by
          rw [HQ.out]
          apply validR_path
          have e : z = 0 := by simpa using hzx
          have := List.mem_of_getElem? HZ.out
          rw [e] at this
          simpa using this
        subst this
        go_wp2_with fail
        go_ret
        exact ⟨rfl, HW.out⟩
      | false =>
        have HN : Hid ((z == 0) = false) := hzx
        go_wp2_with fail
        go_round
        case rel => exact ⟨k + 1, by omega, by go_num, contains_take HZ.out HI.out (by have h := HN.out; simp at h ⊢; exact fun e => h e.symm)⟩
        case measure => simp [intOf]; omega
    · have HE : Hid (x.path.contains 0 = false) := by
        have := HI.out
        rw [List.take_of_length_le (by omega)] at this
        exact this
      have HV : Hid (q = _) := HQ.out.trans (validR_rest HE.out)
      clear hc' HI HQ
      go_wp2_with fail
      refine h1.mono ?_
      rintro e w1 ⟨rfl, G1⟩
      have GW : Hid (Gr w w1) := HW.out.trans G1
      have R1 := RW.out.gr G1
      have h3 := rises_any _ x.comms w1 sc R1.c
      have K1 : Hid (HeldR w1 w.heap.size x (.slice ao1 x.path.length cap1) (.slice ao2 x.comms.length cap2)) := K0.out.gr G1
      obtain ⟨_, _, _, d2, d3, _, _, _, _⟩ := K1.out
      clear h1 c0 c1 c2 c3 c6 K0 RW R1 G1
      generalize rightP x.addr x.len = b1 at *
      generalize rises x.comms = b3 at *
      cases b1 with
      | false =>
        have : q = false := by rw [HV.out]; simp
        subst this
        go_wp2_with fail
        go_ret
        exact ⟨rfl, GW.out⟩
      | true =>
        by_cases l1 : (x.path.length : Int) ≤ 255
        case neg =>
          have : q = false := by
            have e : decide (x.path.length ≤ 255) = false := decide_eq_false (by omega)
            rw [HV.out, e]; simp
          subst this
          go_wp2_with fail
          go_ret
          exact ⟨rfl, GW.out⟩
        have E1 : Hid (decide (x.path.length ≤ 255) = true) := decide_eq_true (by omega)
        go_wp2_with fail
        refine h3.mono ?_
        rintro e w2 ⟨rfl, G2⟩
        obtain ⟨_, _, _, _, f3, _, _, f6, _⟩ := K1.out.gr G2
        have GW2 : Hid (Gr w w2) := GW.out.trans G2
        clear h3 G2 d2 d3 GW
        cases b3 with
        | false =>
          have : q = false := by rw [HV.out]; simp
          subst this
          go_wp2_with fail
          go_ret
          exact ⟨rfl, GW2.out⟩
        | true =>
          by_cases l2 : (x.comms.length : Int) ≤ 255
          case neg =>
            have : q = false := by
              have e : decide (x.comms.length ≤ 255) = false := decide_eq_false (by omega)
              rw [HV.out, e]; simp
            subst this
            go_wp2_with fail
            go_ret
            exact ⟨rfl, GW2.out⟩
          have E2 : Hid (decide (x.comms.length ≤ 255) = true) := decide_eq_true (by omega)
          by_cases l3 : 0 ≤ x.origin
          case neg =>
            have : q = false := by rw [HV.out, decide_eq_false l3]; simp
            subst this
            go_wp2_with fail
            go_ret
            exact ⟨rfl, GW2.out⟩
          by_cases l4 : x.origin ≤ 2
          case neg =>
            have : q = false := by rw [HV.out, decide_eq_false l4]; simp
            subst this
            go_wp2_with fail
            go_ret
            refine ⟨?_, GW2.out⟩
            show Ending.returned (Value.bool (decide (x.origin ≤ 2))) = _
            rw [decide_eq_false (by omega)]
          have : q = true := by rw [HV.out, E1.out, E2.out, decide_eq_true l3, decide_eq_true l4]; rfl
          subst this
          go_wp2_with fail
          go_ret
          exact ⟨rfl, GW2.out⟩
end Go.Proofs.Ytaaaccgakahapaa
