/-
  Walks: kinds, the document's Right.
-/
import Derived.Test.YtdnmcmbkmijgiaaDoorW2
namespace Go.Proofs.YtdnmcmbkmijgiaaDoor
open Go.RowKit

theorem okAlone_cases {k : Int} {S N : Nat} (h : okAlone k S N = true) : (k = 1 ∧ N = 0 ∧ S ≤ 256) ∨ (k = 2 ∧ S = 0) ∨ (k = 3 ∧ S = 0) ∨ (k = 4 ∧ S = 0 ∧ N = 1) := by
  unfold okAlone at h
  by_cases h1 : k = 1
  · rw [if_pos h1] at h; simp at h; exact Or.inl ⟨h1, h⟩
  rw [if_neg h1] at h
  by_cases h2 : k = 2 ∨ k = 3
  · rw [if_pos h2] at h; simp at h
    rcases h2 with h2 | h2
    · exact Or.inr (Or.inl ⟨h2, h⟩)
    · exact Or.inr (Or.inr (Or.inl ⟨h2, h⟩))
  rw [if_neg h2] at h
  by_cases h4 : k = 4
  · rw [if_pos h4] at h; simp at h; exact Or.inr (Or.inr (Or.inr ⟨h4, h⟩))
  rw [if_neg h4] at h
  cases h

theorem okAlone_false {k : Int} {S N : Nat} (h : okAlone k S N = false) : (k = 1 ∧ 0 < N) ∨ (k = 1 ∧ N = 0 ∧ 256 < S) ∨ (k ≠ 1 ∧ 0 < S) ∨ (k = 4 ∧ S = 0 ∧ N ≠ 1) ∨ (k < 1 ∧ S = 0) ∨ (4 < k ∧ S = 0) := by
  unfold okAlone at h
  by_cases h1 : k = 1
  · rw [if_pos h1] at h
    simp at h
    omega
  rw [if_neg h1] at h
  by_cases h2 : k = 2 ∨ k = 3
  · rw [if_pos h2] at h; simp at h; omega
  rw [if_neg h2] at h
  by_cases h4 : k = 4
  · rw [if_pos h4] at h; simp at h; omega
  omega

set_option maxHeartbeats 4000000 in
theorem kinds_any (m : Nat) : ∀ (t : Tree) (x : PC) (w : World), size t ≤ m → okT t → HT w t x →
    Calls Tryd.prog 27 #[x.v] w fun e w' => e = .returned (.bool (kindsT t)) ∧ Gr w w' := by
  induction m with
  | zero => intro t x w h; have := size_pos t; omega
  | succ m ih =>
    intro t x w hm hok hx
    obtain ⟨k, set, subs, rows, sa, sc, ba, bc, rfl, rfl, hs, hb, hrows⟩ := hx.parts
    obtain ⟨_, hlen, hokL⟩ := (okT_mk _ _ _).1 hok
    rw [size_mk] at hm
    have HM : Hid (sizeL subs ≤ m) := by show _ ≤ _; omega
    have HOK : Hid (okL subs) := hokL
    have HB : Hid (RowT w (.slice ba subs.length bc) rows) := hb
    have HR : Hid (HTs w subs rows) := hrows
    rw [kindsT_mk]
    obtain ⟨S, hS⟩ : ∃ S, S = set.length := ⟨_, rfl⟩
    obtain ⟨N, hN⟩ : ∃ N, N = subs.length := ⟨_, rfl⟩
    have HN : Hid (N = subs.length) := hN
    rw [← hN] at hlen HB ⊢
    rw [← hS]
    obtain ⟨Q, hQ⟩ : ∃ Q, Q = kindsL subs := ⟨_, rfl⟩
    have HQ : Hid (Q = kindsL subs) := hQ
    rw [← hQ]
    clear hb hrows hs hx hok hokL hm hN hS hQ
    cases hq : okAlone k S N with
    | false =>
      rw [Bool.false_and]
      rcases okAlone_false hq with ⟨rfl, h⟩ | ⟨rfl, rfl, h⟩ | ⟨h0, h⟩ | ⟨rfl, rfl, h⟩ | ⟨h0, rfl⟩ | ⟨h0, rfl⟩
      all_goals
        clear hq ih HM HOK HB HR HN HQ
      · have a1 : (0 : Int) < N := by omega
        go_enter Tryd.func27, Tryd.ntmps27
        go_wp2_with fail
        go_ret
        exact ⟨rfl, (Gr.refl _).alloc _⟩
      · have a1 : (256 : Int) < S := by omega
        go_enter Tryd.func27, Tryd.ntmps27
        go_wp2_with fail
        go_ret
        exact ⟨rfl, (Gr.refl _).alloc _⟩
      · have a1 : (0 : Int) < S := by omega
        have a2 : (k == 1) = false := by simpa using h0
        go_enter Tryd.func27, Tryd.ntmps27
        go_wp2_with fail
        go_ret
        exact ⟨rfl, (Gr.refl _).alloc _⟩
      · have a1 : ((N : Int) == 1) = false := by simp; omega
        go_enter Tryd.func27, Tryd.ntmps27
        go_wp2_with fail
        go_ret
        exact ⟨rfl, (Gr.refl _).alloc _⟩
      · have a2 : (k == 1) = false := by simp; omega
        have a3 : (k == 4) = false := by simp; omega
        go_enter Tryd.func27, Tryd.ntmps27
        go_wp2_with fail
        go_ret
        exact ⟨rfl, (Gr.refl _).alloc _⟩
      · have a2 : (k == 1) = false := by simp; omega
        have a3 : (k == 4) = false := by simp; omega
        have a4 : ¬ k < 1 := by omega
        go_enter Tryd.func27, Tryd.ntmps27
        go_wp2_with fail
        go_ret
        exact ⟨rfl, (Gr.refl _).alloc _⟩
    | true =>
      rw [Bool.true_and]
      rcases okAlone_cases hq with ⟨rfl, rfl, h⟩ | ⟨rfl, rfl⟩ | ⟨rfl, rfl⟩ | ⟨rfl, rfl, hN1⟩
      · have a1 : ¬ (256 : Int) < S := by omega
        have e : Q = true := by rw [HQ.out, List.length_eq_zero_iff.1 HN.out.symm, kindsL_nil]
        clear hq ih HM HOK HB HR HN HQ
        go_enter Tryd.func27, Tryd.ntmps27
        go_wp2_with fail
        go_loopw [48] (fun vi wr => vi = .int .i64 0 ∧ Hid (Gr w wr)) (fun _ _ => 0)
        case atStart => exact ⟨rfl, (Gr.refl _).alloc _⟩
        case round =>
          obtain ⟨rfl, HG⟩ := hrel
          go_wp2_with fail
          go_ret
          exact ⟨by first | rfl | (rw [e]; rfl), HG.out⟩
      all_goals
        clear hq
        try
          have a9 : ((N : Int) == 1) = true := by simp; omega
          have a10 : ((N : Int) != 1) = false := by simp; omega
          clear hN1
        go_enter Tryd.func27, Tryd.ntmps27
        go_wp2_with fail
        go_loopw [48] (fun vi wr => ∃ j : Nat, j ≤ subs.length ∧ vi = .int .i64 j ∧ Hid (Gr w wr) ∧ Hid (Q = kindsL (subs.drop j))) (fun vi _ => subs.length - (intOf vi).toNat)
        case atStart => exact ⟨0, Nat.zero_le _, rfl, (Gr.refl _).alloc _, by rw [List.drop_zero]; exact HQ⟩
        case round =>
          obtain ⟨j, hj, rfl, HG, HK⟩ := hrel
          by_cases hlt : j < subs.length
          case neg =>
            have e : Q = true := by rw [HK.out, List.drop_eq_nil_of_le (by omega), kindsL_nil]
            have hlt2 : ¬ (j : Int) < N := by have := HN.out; omega
            go_wp2_with fail
            go_ret
            exact ⟨by first | rfl | (rw [e]; rfl), HG.out⟩
          obtain ⟨t, ht⟩ : ∃ t, subs[j]? = some t := ⟨_, List.getElem?_eq_getElem hlt⟩
          obtain ⟨r, hr, hrt⟩ := HR.out.at ht
          have HRT : Hid (HT w t r) := hrt
          obtain ⟨b, off, rfl, hb, d0, d1, d2⟩ := (HB.out.gr HG.out).cs3 hr
          have kin := fun W h => ih t r W (by have := size_le_of_at ht; have := HM.out; omega) (HOK.out.at ht) h
          have HK2 : Hid (Q = (kindsT t && kindsL (subs.drop (j + 1)))) := by
            show _ = _
            rw [HK.out, drop_of ht, kindsL_cons]
          obtain ⟨rk, ⟨r1, r2, r3⟩, r4, r5, r6⟩ := r
          simp only at d0 d1 d2
          have hlt2 : (j : Int) < N := by have := HN.out; omega
          clear ih hr hrt ht HK
          generalize kindsT t = q at *
          cases q
          case false =>
            go_wp2_with (go_at_call 27; refine (kin _ (HRT.out.gr (HG.out.alloc _))).mono ?_; rintro _ w3 ⟨rfl, gw⟩; have G3 : Hid (Gr w w3) := (HG.out.alloc _).trans gw; clear gw)
            go_ret
            have e2 := HK2.out
            simp at e2
            exact ⟨by rw [e2]; rfl, G3.out⟩
          case true =>
            go_wp2_with (go_at_call 27; refine (kin _ (HRT.out.gr (HG.out.alloc _))).mono ?_; rintro _ w3 ⟨rfl, gw⟩; have G3 : Hid (Gr w w3) := (HG.out.alloc _).trans gw; clear gw)
            go_roundw
            case rel =>
              have e2 := HK2.out
              simp at e2
              exact ⟨j + 1, by omega, by go_num, G3.out, e2⟩
            case measure => simp [intOf]; omega

end Go.Proofs.YtdnmcmbkmijgiaaDoor
