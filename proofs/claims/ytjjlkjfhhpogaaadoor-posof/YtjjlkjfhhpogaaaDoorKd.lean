/-
  Walks: the document's kinds, Right, and In of a set of numbers.
-/
import Derived.Test.YtjjlkjfhhpogaaaDoorMa
namespace Go.Proofs.YtjjlkjfhhpogaaaDoor
open Go.RowKit

set_option maxHeartbeats 4000000 in
theorem kinds_any (m : Nat) : ∀ (t : Tree) (x : PC) (w : World), size t ≤ m → okT t → HT w t x →
    Calls Tryd.prog 41 #[x.v] w fun e w' => e = .returned (.bool (kindsT t)) ∧ Gr w w' := by
  induction m with
  | zero => intro t x w h; have := size_pos t; omega
  | succ m ih =>
    intro t x w hm hok hx
    obtain ⟨k, set, subs, rows, sa, sc, ba, bc, rfl, rfl, hs, hb, hrows⟩ := hx.parts
    obtain ⟨_, hlen, hokL⟩ := (okT_mk _ _ _).1 hok
    rw [size_mk] at hm
    have HM : Hid (sizeL subs ≤ m) := by show _ ≤ _; omega
    have HOK : Hid (okL subs) := hokL
    have HB : Hid (RowT w (.slice ba subs.length bc) rows) := hb
    have HR : Hid (HTs w subs rows) := hrows
    rw [kindsT_mk]
    obtain ⟨S, hS⟩ : ∃ S, S = set.length := ⟨_, rfl⟩
    obtain ⟨N, hN⟩ : ∃ N, N = subs.length := ⟨_, rfl⟩
    have HN : Hid (N = subs.length) := hN
    rw [← hN] at hlen HB ⊢
    rw [← hS]
    obtain ⟨Q, hQ⟩ : ∃ Q, Q = kindsL subs := ⟨_, rfl⟩
    have HQ : Hid (Q = kindsL subs) := hQ
    rw [← hQ]
    clear hb hrows hs hx hok hokL hm hN hS hQ
    cases hq : okAlone k S N with
    | false =>
      rw [Bool.false_and]
      rcases okAlone_false hq with ⟨rfl, h⟩ | ⟨rfl, rfl, h⟩ | ⟨h0, h⟩ | ⟨rfl, rfl, h⟩ | ⟨h0, rfl⟩ | ⟨h0, rfl⟩
      all_goals
        clear hq ih HM HOK HB HR HN HQ
      · have a1 : (0 : Int) < N := by omega
        go_enter Tryd.func41, Tryd.ntmps41
        go_wp2_with fail
        go_ret
        exact ⟨rfl, (Gr.refl _).alloc _⟩
      · have a1 : (256 : Int) < S := by omega
        go_enter Tryd.func41, Tryd.ntmps41
        go_wp2_with fail
        go_ret
        exact ⟨rfl, (Gr.refl _).alloc _⟩
      · have a1 : (0 : Int) < S := by omega
        have a2 : (k == 1) = false := by simpa using h0
        go_enter Tryd.func41, Tryd.ntmps41
        go_wp2_with fail
        go_ret
        exact ⟨rfl, (Gr.refl _).alloc _⟩
      · have a1 : ((N : Int) == 1) = false := by simp; omega
        go_enter Tryd.func41, Tryd.ntmps41
        go_wp2_with fail
        go_ret
        exact ⟨rfl, (Gr.refl _).alloc _⟩
      · have a2 : (k == 1) = false := by simp; omega
        have a3 : (k == 4) = false := by simp; omega
        go_enter Tryd.func41, Tryd.ntmps41
        go_wp2_with fail
        go_ret
        exact ⟨rfl, (Gr.refl _).alloc _⟩
      · have a2 : (k == 1) = false := by simp; omega
        have a3 : (k == 4) = false := by simp; omega
        have a4 : ¬ k < 1 := by omega
        go_enter Tryd.func41, Tryd.ntmps41
        go_wp2_with fail
        go_ret
        exact ⟨rfl, (Gr.refl _).alloc _⟩
    | true =>
      rw [Bool.true_and]
      rcases okAlone_cases hq with ⟨rfl, rfl, h⟩ | ⟨rfl, rfl⟩ | ⟨rfl, rfl⟩ | ⟨rfl, rfl, hN1⟩
      · have a1 : ¬ (256 : Int) < S := by omega
        have e : Q = true := by rw [HQ.out, List.length_eq_zero_iff.1 HN.out.symm, kindsL_nil]
        clear hq ih HM HOK HB HR HN HQ
        go_enter Tryd.func41, Tryd.ntmps41
        go_wp2_with fail
        go_loopw [48] (fun vi wr => vi = .int .i64 0 ∧ Hid (Gr w wr)) (fun _ _ => 0)
        case atStart => exact ⟨rfl, (Gr.refl _).alloc _⟩
        case round =>
          obtain ⟨rfl, HG⟩ := hrel
          go_wp2_with fail
          go_ret
          exact ⟨by first | rfl | (rw [e]; rfl), HG.out⟩
      all_goals
        clear hq
        try
          have a9 : ((N : Int) == 1) = true := by simp; omega
          have a10 : ((N : Int) != 1) = false := by simp; omega
          clear hN1
        go_enter Tryd.func41, Tryd.ntmps41
        go_wp2_with fail
        go_loopw [48] (fun vi wr => ∃ j : Nat, j ≤ subs.length ∧ vi = .int .i64 j ∧ Hid (Gr w wr) ∧ Hid (Q = kindsL (subs.drop j))) (fun vi _ => subs.length - (intOf vi).toNat)
        case atStart => exact ⟨0, Nat.zero_le _, rfl, (Gr.refl _).alloc _, by rw [List.drop_zero]; exact HQ⟩
        case round =>
          obtain ⟨j, hj, rfl, HG, HK⟩ := hrel
          by_cases hlt : j < subs.length
          case neg =>
            have e : Q = true := by rw [HK.out, List.drop_eq_nil_of_le (by omega), kindsL_nil]
            have hlt2 : ¬ (j : Int) < N := by have := HN.out; omega
            go_wp2_with fail
            go_ret
            exact ⟨by first | rfl | (rw [e]; rfl), HG.out⟩
          obtain ⟨t, ht⟩ : ∃ t, subs[j]? = some t := ⟨_, List.getElem?_eq_getElem hlt⟩
          obtain ⟨r, hr, hrt⟩ := HR.out.at ht
          have HRT : Hid (HT w t r) := hrt
          obtain ⟨b, off, rfl, hb, d0, d1, d2⟩ := (HB.out.gr HG.out).cs3 hr
          have kin := fun W h => ih t r W (by have := size_le_of_at ht; have := HM.out; omega) (HOK.out.at ht) h
          have HK2 : Hid (Q = (kindsT t && kindsL (subs.drop (j + 1)))) := by
            show _ = _
            rw [HK.out, drop_of ht, kindsL_cons]
          obtain ⟨rk, ⟨r1, r2, r3⟩, r4, r5, r6⟩ := r
          simp only at d0 d1 d2
          have hlt2 : (j : Int) < N := by have := HN.out; omega
          clear ih hr hrt ht HK
          generalize kindsT t = q at *
          cases q
          case false =>
            go_wp2_with (go_at_call 41; refine (kin _ (HRT.out.gr (HG.out.alloc _))).mono ?_; rintro _ w3 ⟨rfl, gw⟩; have G3 : Hid (Gr w w3) := (HG.out.alloc _).trans gw; clear gw)
            go_ret
            have e2 := HK2.out
            simp at e2
            exact ⟨by rw [e2]; rfl, G3.out⟩
          case true =>
            go_wp2_with (go_at_call 41; refine (kin _ (HRT.out.gr (HG.out.alloc _))).mono ?_; rintro _ w3 ⟨rfl, gw⟩; have G3 : Hid (Gr w w3) := (HG.out.alloc _).trans gw; clear gw)
            go_roundw
            case rel =>
              have e2 := HK2.out
              simp at e2
              exact ⟨j + 1, by omega, by go_num, G3.out, e2⟩
            case measure => simp [intOf]; omega

set_option maxHeartbeats 2000000 in
theorem rright_any (t : Tree) (x : PC) (w : World) (hok : okT t) (hx : HT w t x) :
    Calls Tryd.prog 18 #[x.v] w fun e w' => e = .returned (.bool (rightT t)) ∧ Gr w w' := by
  have k1 := fun W h => rsize_any _ t x W (Nat.le_refl _) hok h
  have k2 := fun W h => kinds_any _ t x W (Nat.le_refl _) hok h
  have HX : Hid (HT w t x) := hx
  have HQ : Hid (rightT t = (decide (size t ≤ 200) && (decide (deep t ≤ 40) && kindsT t))) := rfl
  have HD : Hid (deep t ≤ size t) := deep_le_size t
  generalize rightT t = q at *
  generalize kindsT t = r at *
  obtain ⟨xk, ⟨x1, x2, x3⟩, x4, x5, x6⟩ := x
  have HBx : Hid (Blk (w.alloc (.cells #[.int .i64 xk, .slice x1 x2 x3, .slice x4 x5 x6] 25)) w.heap.size #[.int .i64 xk, .slice x1 x2 x3, .slice x4 x5 x6] 25) := Blk.new _ _ _
  clear hx
  by_cases c1 : size t ≤ 200
  · by_cases c2 : deep t ≤ 40
    · have HQ2 : Hid (q = r) := by show _ = _; rw [HQ.out]; simp [c1, c2]
      clear HQ HD
      go_enter Tryd.func18, Tryd.ntmps18
      go_wp2_with (first
        | (go_at_call 25; refine (k1 _ (HX.out.gr ((Gr.refl _).alloc _))).mono ?_; rintro _ w2 ⟨⟨p', d', rfl, hp', hd'⟩, gw⟩; have G2 : Hid (Gr w w2) := ((Gr.refl _).alloc _).trans gw; obtain ⟨e0, e1, e2⟩ : w2.cell? ⟨w.heap.size, 0, none⟩ = some (.int .i64 xk) ∧ w2.cell? ⟨w.heap.size, 1, none⟩ = some (.slice x1 x2 x3) ∧ w2.cell? ⟨w.heap.size, 2, none⟩ = some (.slice x4 x5 x6) := ⟨(HBx.out.gr gw).c 0, (HBx.out.gr gw).c 1, (HBx.out.gr gw).c 2⟩; have el := (HBx.out.gr gw).lt; clear gw; have b1 : p' ≤ 200 := (by omega); have b2 : d' ≤ 40 := (by have := hd' (by omega); omega); clear hp' hd')
        | (go_at_call 41; refine (k2 _ (HX.out.gr G2.out)).mono ?_; rintro _ w3 ⟨rfl, gw⟩; have G3 : Hid (Gr w w3) := G2.out.trans gw; clear gw))
      go_ret
      exact ⟨by rw [HQ2.out]; rfl, G3.out⟩
    · have HQ2 : Hid (q = false) := by show _ = _; rw [HQ.out]; simp [c1, c2]
      have HSm : Hid (deep t ≤ 200) := by show _ ≤ _; have := HD.out; omega
      clear HQ k2 HD
      go_enter Tryd.func18, Tryd.ntmps18
      go_wp2_with (go_at_call 25; refine (k1 _ (HX.out.gr ((Gr.refl _).alloc _))).mono ?_; rintro _ w2 ⟨⟨p', d', rfl, hp', hd'⟩, gw⟩; have G2 : Hid (Gr w w2) := ((Gr.refl _).alloc _).trans gw; clear gw; have b1 : p' ≤ 200 := (by omega); have b2 : ¬ d' ≤ 40 := (by have := hd' (by have := HSm.out; omega); omega); clear hp' hd')
      go_ret
      exact ⟨by rw [HQ2.out]; rfl, G2.out⟩
  · have HQ2 : Hid (q = false) := by show _ = _; rw [HQ.out]; simp [c1]
    clear HQ k2 HD
    go_enter Tryd.func18, Tryd.ntmps18
    go_wp2_with (go_at_call 25; refine (k1 _ (HX.out.gr ((Gr.refl _).alloc _))).mono ?_; rintro _ w2 ⟨⟨p', d', rfl, hp', hd'⟩, gw⟩; have G2 : Hid (Gr w w2) := ((Gr.refl _).alloc _).trans gw; clear gw; have b1 : ¬ p' ≤ 200 := (by omega); clear hp' hd')
    go_ret
    exact ⟨by rw [HQ2.out]; rfl, G2.out⟩

end Go.Proofs.YtjjlkjfhhpogaaaDoor
