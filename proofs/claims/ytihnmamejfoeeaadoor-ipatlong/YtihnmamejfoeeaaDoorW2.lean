/-
  Walks: roomBehind, Right, kinds, the document's Right.
-/
import Derived.Test.YtihnmamejfoeeaaDoorW1
namespace Go.Proofs.YtihnmamejfoeeaaDoor
open Go.RowKit

set_option maxHeartbeats 2000000 in
theorem room_any (m : Nat) : ∀ (t : Tree) (x : PC) (d left : Int) (w : World), size t ≤ m → okT t → HT w t x → 0 ≤ left → left ≤ 200 → 1 ≤ d → d ≤ 41 →
    Calls Tryd.prog 15 #[x.v, .int .i64 d, .int .i64 left] w fun e w' => e = .returned (.int .i64 (roomT t d left)) ∧ Gr w w' := by
  induction m with
  | zero => intro t x d left w h; have := size_pos t; omega
  | succ m ih =>
    intro t x d left w hm hok hx hl0 hl1 hd0 hd1
    obtain ⟨k, set, subs, rows, sa, sc, ba, bc, rfl, rfl, hs, hb, hrows⟩ := hx.parts
    obtain ⟨_, hlen, hokL⟩ := (okT_mk _ _ _).1 hok
    rw [size_mk] at hm
    have HM : Hid (sizeL subs ≤ m) := by show _ ≤ _; omega
    have HOK : Hid (okL subs) := hokL
    have HB : Hid (RowT w (.slice ba subs.length bc) rows) := hb
    have HR : Hid (HTs w subs rows) := hrows
    have HRM : Hid (roomT (.mk k set subs) d left = if left = 0 ∨ 40 < d ∨ okAlone k set.length subs.length = false then -1 else roomL subs (d + 1) (left - 1)) := roomT_mk _ _ _ _ _
    obtain ⟨R, hR⟩ : ∃ R, R = roomT (.mk k set subs) d left := ⟨_, rfl⟩
    rw [← hR] at HRM ⊢
    obtain ⟨S, hS⟩ : ∃ S, S = set.length := ⟨_, rfl⟩
    obtain ⟨N, hN⟩ : ∃ N, N = subs.length := ⟨_, rfl⟩
    have HN : Hid (N = subs.length) := hN
    rw [← hN] at hlen HB HRM ⊢
    rw [← hS] at HRM ⊢
    have k1 := fun W => rightAlone_any ⟨k, ⟨sa, S, sc⟩, ⟨ba, N, bc⟩⟩ W
    simp only at k1
    clear hb hrows hs hx hok hokL hm hN hS hR
    by_cases c1 : left = 0
    · subst c1
      clear k1
      go_enter Tryd.func15, Tryd.ntmps15
      go_wp2_with fail
      go_ret
      refine ⟨?_, (Gr.refl _).alloc _⟩
      rw [show R = -1 by have h := HRM.out; simpa using h]
      rfl
    have c1' : (left == 0) = false := by simpa using c1
    by_cases c2 : 40 < d
    · clear k1
      go_enter Tryd.func15, Tryd.ntmps15
      go_wp2_with fail
      go_ret
      refine ⟨?_, (Gr.refl _).alloc _⟩
      rw [HRM.out, if_pos (Or.inr (Or.inl c2))]
      rfl
    obtain ⟨q, hq⟩ : ∃ q, q = okAlone k S N := ⟨_, rfl⟩
    rw [← hq] at HRM
    simp only [← hq] at k1
    clear hq
    have HBx : Hid (Blk (w.alloc (.cells #[.int .i64 k, .slice sa S sc, .slice ba N bc] 25)) w.heap.size #[.int .i64 k, .slice sa S sc, .slice ba N bc] 25) := Blk.new _ _ _
    cases q with
    | false =>
      go_enter Tryd.func15, Tryd.ntmps15
      go_wp2_with (go_at_call 26; refine (k1 _).mono ?_; rintro _ w2 ⟨rfl, gw⟩; have G2 : Hid (Gr w w2) := ((Gr.refl _).alloc _).trans gw; clear gw)
      go_ret
      refine ⟨?_, G2.out⟩
      rw [HRM.out, if_pos (by simp)]
      rfl
    | true =>
      have HRM2 : Hid (R = roomL subs (d + 1) (left - 1)) := by
        show _ = _
        rw [HRM.out, if_neg]
        rintro (h | h | h)
        · exact c1 h
        · exact c2 h
        · cases h
      clear HRM
      go_enter Tryd.func15, Tryd.ntmps15
      go_wp2_with (go_at_call 26; refine (k1 _).mono ?_; rintro _ w2 ⟨rfl, gw⟩; have G2 : Hid (Gr w w2) := ((Gr.refl _).alloc _).trans gw; obtain ⟨e0, e1, e2⟩ : w2.cell? ⟨w.heap.size, 0, none⟩ = some (.int .i64 k) ∧ w2.cell? ⟨w.heap.size, 1, none⟩ = some (.slice sa S sc) ∧ w2.cell? ⟨w.heap.size, 2, none⟩ = some (.slice ba N bc) := ⟨(HBx.out.gr gw).c 0, (HBx.out.gr gw).c 1, (HBx.out.gr gw).c 2⟩; have el := (HBx.out.gr gw).lt; clear gw)
      go_loopw [2, 25] (fun vl vi wr => ∃ (j : Nat) (r : Int), j ≤ N ∧ vi = .int .i64 j ∧ vl = .int .i64 r ∧ 0 ≤ r ∧ r ≤ 200 ∧ Hid (R = roomL (subs.drop j) (d + 1) r) ∧ Hid (Gr w wr)) (fun _ vi _ => N - (intOf vi).toNat)
      case atStart => exact ⟨0, left - 1, Nat.zero_le _, rfl, rfl, by omega, by omega, by rw [List.drop_zero]; exact HRM2, G2.out⟩
      case round =>
        obtain ⟨j, r, hj, rfl, rfl, hr0, hr1, HRJ, HG⟩ := hrel
        clear e0 e1 e2 el
        by_cases hlt : j < N
        case neg =>
          have e : R = r := by
            rw [HRJ.out, List.drop_eq_nil_of_le (by have := HN.out; omega), roomL_nil _ _ hr0]
          go_wp2_with fail
          go_ret
          exact ⟨by rw [e]; rfl, HG.out⟩
        obtain ⟨t, ht⟩ : ∃ t, subs[j]? = some t := ⟨_, List.getElem?_eq_getElem (by have := HN.out; omega)⟩
        obtain ⟨rr, hr, hrt⟩ := HR.out.at ht
        have HRT : Hid (HT w t rr) := hrt
        obtain ⟨b, off, rfl, hb, d0, d1, d2⟩ := (HB.out.gr HG.out).cs3 hr
        have kin := fun W h => ih t rr (d + 1) r W (by have := size_le_of_at ht; have := HM.out; omega) (HOK.out.at ht) h hr0 hr1 (by omega) (by omega)
        have HC : Hid (R = if roomT t (d + 1) r < 0 then -1 else roomL (subs.drop (j + 1)) (d + 1) (roomT t (d + 1) r)) := by
          show _ = _
          rw [HRJ.out, drop_of ht, roomL_cons]
        obtain ⟨q, hq⟩ : ∃ q, q = roomT t (d + 1) r := ⟨_, rfl⟩
        have hq2 : q ≤ 200 := by
          rw [hq]; unfold roomT
          split <;> omega
        rw [← hq] at HC
        simp only [← hq] at kin
        clear ih hr hrt ht hq HRJ
        obtain ⟨rk, ⟨r1, r2, r3⟩, r4, r5, r6⟩ := rr
        simp only at d0 d1 d2
        by_cases c3 : q < 0
        case pos =>
          have HC2 : Hid (R = -1) := by show _ = _; rw [HC.out, if_pos c3]
          clear HC
          go_wp2_with (go_at_call 15; refine (kin _ (HRT.out.gr (HG.out.alloc _))).mono ?_; rintro _ w3 ⟨rfl, gw⟩; have G3 : Hid (Gr w w3) := (HG.out.alloc _).trans gw; clear gw)
          go_ret
          exact ⟨by rw [HC2.out]; rfl, G3.out⟩
        case neg =>
          have HC2 : Hid (R = roomL (subs.drop (j + 1)) (d + 1) q) := by show _ = _; rw [HC.out, if_neg c3]
          clear HC
          go_wp2_with (go_at_call 15; refine (kin _ (HRT.out.gr (HG.out.alloc _))).mono ?_; rintro _ w3 ⟨rfl, gw⟩; have G3 : Hid (Gr w w3) := (HG.out.alloc _).trans gw; clear gw)
          go_roundw
          case rel => exact ⟨j + 1, q, by omega, by go_num, rfl, by omega, hq2, HC2, G3.out⟩
          case measure => simp [intOf]; omega

set_option maxHeartbeats 1000000 in
theorem right_any (t : Tree) (x : PC) (w : World) (hok : okT t) (hx : HT w t x) :
    Calls Tryd.prog 9 #[x.v] w fun e w' => e = .returned (.bool (rightT t)) ∧ Gr w w' := by
  have kin := fun W h => room_any _ t x 1 200 W (Nat.le_refl _) hok h (by omega) (by omega) (by omega) (by omega)
  have HX : Hid (HT w t x) := hx
  have HQ : Hid (decide (0 ≤ roomT t 1 200) = rightT t) := roomT_right t
  generalize rightT t = q at *
  generalize roomT t 1 200 = r at *
  obtain ⟨xk, ⟨x1, x2, x3⟩, x4, x5, x6⟩ := x
  clear hx
  go_enter Tryd.func9, Tryd.ntmps9
  go_wp2_with (go_at_call 15; refine (kin _ (HX.out.gr ((Gr.refl _).alloc _))).mono ?_; rintro _ w2 ⟨rfl, gw⟩; have G2 : Hid (Gr w w2) := ((Gr.refl _).alloc _).trans gw; clear gw)
  all_goals
    go_ret
    refine ⟨?_, G2.out⟩
    rw [← HQ.out]
    rfl

end Go.Proofs.YtihnmamejfoeeaaDoor
