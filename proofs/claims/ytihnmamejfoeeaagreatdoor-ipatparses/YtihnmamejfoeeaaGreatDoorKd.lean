/-
  Walks: the document's kinds, Right, and In of a set of numbers.
-/
import Derived.Test.YtihnmamejfoeeaaGreatDoorW2
namespace Go.Proofs.YtihnmamejfoeeaaGreatDoor
open Go.RowKit

theorem okAlone_cases {k : Int} {S N : Nat} (h : okAlone k S N = true) : (k = 1 ∧ N = 0 ∧ S ≤ 256) ∨ (k = 2 ∧ S = 0) ∨ (k = 3 ∧ S = 0) ∨ (k = 4 ∧ S = 0 ∧ N = 1) := by
  unfold okAlone at h
  by_cases h1 : k = 1
  · rw [if_pos h1] at h; simp at h; exact Or.inl ⟨h1, h⟩
  rw [if_neg h1] at h
  by_cases h2 : k = 2 ∨ k = 3
  · rw [if_pos h2] at h; simp at h
    rcases h2 with h2 | h2
    · exact Or.inr (Or.inl ⟨h2, h⟩)
    · exact Or.inr (Or.inr (Or.inl ⟨h2, h⟩))
  rw [if_neg h2] at h
  by_cases h4 : k = 4
  · rw [if_pos h4] at h; simp at h; exact Or.inr (Or.inr (Or.inr ⟨h4, h⟩))
  rw [if_neg h4] at h
  cases h

theorem okAlone_false {k : Int} {S N : Nat} (h : okAlone k S N = false) : (k = 1 ∧ 0 < N) ∨ (k = 1 ∧ N = 0 ∧ 256 < S) ∨ (k ≠ 1 ∧ 0 < S) ∨ (k = 4 ∧ S = 0 ∧ N ≠ 1) ∨ (k < 1 ∧ S = 0) ∨ (4 < k ∧ S = 0) := by
  unfold okAlone at h
  by_cases h1 : k = 1
  · rw [if_pos h1] at h
    simp at h
    omega
  rw [if_neg h1] at h
  by_cases h2 : k = 2 ∨ k = 3
  · rw [if_pos h2] at h; simp at h; omega
  rw [if_neg h2] at h
  by_cases h4 : k = 4
  · rw [if_pos h4] at h; simp at h; omega
  omega

set_option maxHeartbeats 4000000 in
theorem kinds_any (m : Nat) : ∀ (t : Tree) (x : PC) (w : World), size t ≤ m → okT t → HT w t x →
    Calls Tryz.prog 41 #[x.v] w fun e w' => e = .returned (.bool (kindsT t)) ∧ Gr w w' := by
  induction m with
  | zero => intro t x w h; have := size_pos t; omega
  | succ m ih =>
    intro t x w hm hok hx
    obtain ⟨k, set, subs, rows, sa, sc, ba, bc, rfl, rfl, hs, hb, hrows⟩ := hx.parts
    obtain ⟨_, hlen, hokL⟩ := (okT_mk _ _ _).1 hok
    rw [size_mk] at hm
    have HM : Hid (sizeL subs ≤ m) := by show _ ≤ _; omega
    have HOK : Hid (okL subs) := hokL
    have HB : Hid (RowT w (.slice ba subs.length bc) rows) := hb
    have HR : Hid (HTs w subs rows) := hrows
    rw [kindsT_mk]
    obtain ⟨S, hS⟩ : ∃ S, S = set.length := ⟨_, rfl⟩
    obtain ⟨N, hN⟩ : ∃ N, N = subs.length := ⟨_, rfl⟩
    have HN : Hid (N = subs.length) := hN
    rw [← hN] at hlen HB ⊢
    rw [← hS]
    obtain ⟨Q, hQ⟩ : ∃ Q, Q = kindsL subs := ⟨_, rfl⟩
    have HQ : Hid (Q = kindsL subs) := hQ
    rw [← hQ]
    clear hb hrows hs hx hok hokL hm hN hS hQ
    cases hq : okAlone k S N with
    | false =>
      rw [Bool.false_and]
      rcases okAlone_false hq with ⟨rfl, h⟩ | ⟨rfl, rfl, h⟩ | ⟨h0, h⟩ | ⟨rfl, rfl, h⟩ | ⟨h0, rfl⟩ | ⟨h0, rfl⟩
      all_goals
        clear hq ih HM HOK HB HR HN HQ
      · have a1 : (0 : Int) < N := by omega
        go_enter Tryz.func41, Tryz.ntmps41
        go_wp2_with fail
        go_ret
        exact ⟨rfl, (Gr.refl _).alloc _⟩
      · have a1 : (256 : Int) < S := by omega
        go_enter Tryz.func41, Tryz.ntmps41
        go_wp2_with fail
        go_ret
        exact ⟨rfl, (Gr.refl _).alloc _⟩
      · have a1 : (0 : Int) < S := by omega
        have a2 : (k == 1) = false := by simpa using h0
        go_enter Tryz.func41, Tryz.ntmps41
        go_wp2_with fail
        go_ret
        exact ⟨rfl, (Gr.refl _).alloc _⟩
      · have a1 : ((N : Int) == 1) = false := by simp; omega
        go_enter Tryz.func41, Tryz.ntmps41
        go_wp2_with fail
        go_ret
        exact ⟨rfl, (Gr.refl _).alloc _⟩
      · have a2 : (k == 1) = false := by simp; omega
        have a3 : (k == 4) = false := by simp; omega
        go_enter Tryz.func41, Tryz.ntmps41
        go_wp2_with fail
        go_ret
        exact ⟨rfl, (Gr.refl _).alloc _⟩
      · have a2 : (k == 1) = false := by simp; omega
        have a3 : (k == 4) = false := by simp; omega
        have a4 : ¬ k < 1 := by omega
        go_enter Tryz.func41, Tryz.ntmps41
        go_wp2_with fail
        go_ret
        exact ⟨rfl, (Gr.refl _).alloc _⟩
    | true =>
      rw [Bool.true_and]
      rcases okAlone_cases hq with ⟨rfl, rfl, h⟩ | ⟨rfl, rfl⟩ | ⟨rfl, rfl⟩ | ⟨rfl, rfl, hN1⟩
      · have a1 : ¬ (256 : Int) < S := by omega
        have e : Q = true := by rw [HQ.out, List.length_eq_zero_iff.1 HN.out.symm, kindsL_nil]
        clear hq ih HM HOK HB HR HN HQ
        go_enter Tryz.func41, Tryz.ntmps41
        go_wp2_with fail
        go_loopw [48] (fun vi wr => vi = .int .i64 0 ∧ Hid (Gr w wr)) (fun _ _ => 0)
        case atStart => exact ⟨rfl, (Gr.refl _).alloc _⟩
        case round =>
          obtain ⟨rfl, HG⟩ := hrel
          go_wp2_with fail
          go_ret
          exact ⟨by first | rfl | (rw [e]; rfl), HG.out⟩
      all_goals
        clear hq
        try
          have a9 : ((N : Int) == 1) = true := by simp; omega
          have a10 : ((N : Int) != 1) = false := by simp; omega
          clear hN1
        go_enter Tryz.func41, Tryz.ntmps41
        go_wp2_with fail
        go_loopw [48] (fun vi wr => ∃ j : Nat, j ≤ subs.length ∧ vi = .int .i64 j ∧ Hid (Gr w wr) ∧ Hid (Q = kindsL (subs.drop j))) (fun vi _ => subs.length - (intOf vi).toNat)
        case atStart => exact ⟨0, Nat.zero_le _, rfl, (Gr.refl _).alloc _, by rw [List.drop_zero]; exact HQ⟩
        case round =>
          obtain ⟨j, hj, rfl, HG, HK⟩ := hrel
          by_cases hlt : j < subs.length
          case neg =>
            have e : Q = true := by rw [HK.out, List.drop_eq_nil_of_le (by omega), kindsL_nil]
            have hlt2 : ¬ (j : Int) < N := by have := HN.out; omega
            go_wp2_with fail
            go_ret
            exact ⟨by first | rfl | (rw [e]; rfl), HG.out⟩
          obtain ⟨t, ht⟩ : ∃ t, subs[j]? = some t := ⟨_, List.getElem?_eq_getElem hlt⟩
          obtain ⟨r, hr, hrt⟩ := HR.out.at ht
          have HRT : Hid (HT w t r) := hrt
          obtain ⟨b, off, rfl, hb, d0, d1, d2⟩ := (HB.out.gr HG.out).cs3 hr
          have kin := fun W h => ih t r W (by have := size_le_of_at ht; have := HM.out; omega) (HOK.out.at ht) h
          have HK2 : Hid (Q = (kindsT t && kindsL (subs.drop (j + 1)))) := by
            show _ = _
            rw [HK.out, drop_of ht, kindsL_cons]
          obtain ⟨rk, ⟨r1, r2, r3⟩, r4, r5, r6⟩ := r
          simp only at d0 d1 d2
          have hlt2 : (j : Int) < N := by have := HN.out; omega
          clear ih hr hrt ht HK
          generalize kindsT t = q at *
          cases q
          case false =>
            go_wp2_with (go_at_call 41; refine (kin _ (HRT.out.gr (HG.out.alloc _))).mono ?_; rintro _ w3 ⟨rfl, gw⟩; have G3 : Hid (Gr w w3) := (HG.out.alloc _).trans gw; clear gw)
            go_ret
            have e2 := HK2.out
            simp at e2
            exact ⟨by rw [e2]; rfl, G3.out⟩
          case true =>
            go_wp2_with (go_at_call 41; refine (kin _ (HRT.out.gr (HG.out.alloc _))).mono ?_; rintro _ w3 ⟨rfl, gw⟩; have G3 : Hid (Gr w w3) := (HG.out.alloc _).trans gw; clear gw)
            go_roundw
            case rel =>
              have e2 := HK2.out
              simp at e2
              exact ⟨j + 1, by omega, by go_num, G3.out, e2⟩
            case measure => simp [intOf]; omega

set_option maxHeartbeats 2000000 in
theorem rright_any (t : Tree) (x : PC) (w : World) (hok : okT t) (hx : HT w t x) :
    Calls Tryz.prog 25 #[x.v] w fun e w' => e = .returned (.bool (rightT t)) ∧ Gr w w' := by
  have k1 := fun W h => rsize_any _ t x W (Nat.le_refl _) hok h
  have k2 := fun W h => kinds_any _ t x W (Nat.le_refl _) hok h
  have HX : Hid (HT w t x) := hx
  have HQ : Hid (rightT t = (decide (size t ≤ 200) && (decide (deep t ≤ 40) && kindsT t))) := rfl
  have HD : Hid (deep t ≤ size t) := deep_le_size t
  generalize rightT t = q at *
  generalize kindsT t = r at *
  obtain ⟨xk, ⟨x1, x2, x3⟩, x4, x5, x6⟩ := x
  have HBx : Hid (Blk (w.alloc (.cells #[.int .i64 xk, .slice x1 x2 x3, .slice x4 x5 x6] 26)) w.heap.size #[.int .i64 xk, .slice x1 x2 x3, .slice x4 x5 x6] 26) := Blk.new _ _ _
  clear hx
  by_cases c1 : size t ≤ 200
  · by_cases c2 : deep t ≤ 40
    · have HQ2 : Hid (q = r) := by show _ = _; rw [HQ.out]; simp [c1, c2]
      clear HQ HD
      go_enter Tryz.func25, Tryz.ntmps25
      go_wp2_with (first
        | (go_at_call 22; refine (k1 _ (HX.out.gr ((Gr.refl _).alloc _))).mono ?_; rintro _ w2 ⟨⟨p', d', rfl, hp', hd'⟩, gw⟩; have G2 : Hid (Gr w w2) := ((Gr.refl _).alloc _).trans gw; obtain ⟨e0, e1, e2⟩ : w2.cell? ⟨w.heap.size, 0, none⟩ = some (.int .i64 xk) ∧ w2.cell? ⟨w.heap.size, 1, none⟩ = some (.slice x1 x2 x3) ∧ w2.cell? ⟨w.heap.size, 2, none⟩ = some (.slice x4 x5 x6) := ⟨(HBx.out.gr gw).c 0, (HBx.out.gr gw).c 1, (HBx.out.gr gw).c 2⟩; have el := (HBx.out.gr gw).lt; clear gw; have b1 : p' ≤ 200 := (by omega); have b2 : d' ≤ 40 := (by have := hd' (by omega); omega); clear hp' hd')
        | (go_at_call 41; refine (k2 _ (HX.out.gr G2.out)).mono ?_; rintro _ w3 ⟨rfl, gw⟩; have G3 : Hid (Gr w w3) := G2.out.trans gw; clear gw))
      go_ret
      exact ⟨by rw [HQ2.out]; rfl, G3.out⟩
    · have HQ2 : Hid (q = false) := by show _ = _; rw [HQ.out]; simp [c1, c2]
      have HSm : Hid (deep t ≤ 200) := by show _ ≤ _; have := HD.out; omega
      clear HQ k2 HD
      go_enter Tryz.func25, Tryz.ntmps25
      go_wp2_with (go_at_call 22; refine (k1 _ (HX.out.gr ((Gr.refl _).alloc _))).mono ?_; rintro _ w2 ⟨⟨p', d', rfl, hp', hd'⟩, gw⟩; have G2 : Hid (Gr w w2) := ((Gr.refl _).alloc _).trans gw; clear gw; have b1 : p' ≤ 200 := (by omega); have b2 : ¬ d' ≤ 40 := (by have := hd' (by have := HSm.out; omega); omega); clear hp' hd')
      go_ret
      exact ⟨by rw [HQ2.out]; rfl, G2.out⟩
  · have HQ2 : Hid (q = false) := by show _ = _; rw [HQ.out]; simp [c1]
    clear HQ k2 HD
    go_enter Tryz.func25, Tryz.ntmps25
    go_wp2_with (go_at_call 22; refine (k1 _ (HX.out.gr ((Gr.refl _).alloc _))).mono ?_; rintro _ w2 ⟨⟨p', d', rfl, hp', hd'⟩, gw⟩; have G2 : Hid (Gr w w2) := ((Gr.refl _).alloc _).trans gw; clear gw; have b1 : ¬ p' ≤ 200 := (by omega); clear hp' hd')
    go_ret
    exact ⟨by rw [HQ2.out]; rfl, G2.out⟩

theorem inSet_nil (n : Int) : inSet [] n = false := rfl
theorem inSet_cons (s : Int × Int) (l : List (Int × Int)) (n : Int) : inSet (s :: l) n = ((decide (s.1 ≤ n) && decide (n ≤ s.2)) || inSet l n) := rfl

set_option maxHeartbeats 2000000 in
theorem rin_any (v : Value) (l : List (Int × Int)) (n : Int) (w : World) (hl : l.length ≤ 4611686018427387903) (hv : RowS w v l) :
    Calls Tryz.prog 43 #[v, .int .u32 n] w fun e w' => e = .returned (.bool (inSet l n)) ∧ Gr w w' := by
  obtain ⟨ao, cap, rfl⟩ := hv.form
  obtain ⟨N, hN⟩ : ∃ N : Nat, N = l.length := ⟨_, rfl⟩
  have HN : Hid (N = l.length) := hN
  have HV : Hid (RowS w (.slice ao N cap) l) := by rw [hN]; exact hv
  rw [← hN] at hl ⊢
  clear hv hN
  obtain ⟨r, hr⟩ : ∃ r, r = inSet l n := ⟨_, rfl⟩
  have HR : Hid (r = inSet l n) := hr
  rw [← hr]
  clear hr
  go_enter Tryz.func43, Tryz.ntmps43
  go_wp2_with fail
  go_loopw [9] (fun vi wr => ∃ k : Nat, k ≤ N ∧ vi = .int .i64 k ∧ Hid (Gr w wr) ∧ Hid (r = inSet (l.drop k) n)) (fun vi _ => N - (intOf vi).toNat)
  case atStart => exact ⟨0, Nat.zero_le _, rfl, Gr.refl _, by rw [List.drop_zero]; exact HR⟩
  case round =>
    obtain ⟨k, hk, rfl, HK, HM⟩ := hrel
    by_cases hlt : k < N
    case neg =>
      have e : r = false := by
        rw [HM.out, List.drop_eq_nil_of_le (by have := HN.out; omega)]
        rfl
      go_wp2_with fail
      go_ret
      exact ⟨by rw [e]; rfl, HK.out⟩
    obtain ⟨s, hs⟩ : ∃ s, l[k]? = some s := ⟨_, List.getElem?_eq_getElem (by have := HN.out; omega)⟩
    obtain ⟨b, off, rfl, hb, d0, d1⟩ := (HV.out.gr HK.out).cs2 hs
    have HM2 : Hid (r = ((decide (s.1 ≤ n) && decide (n ≤ s.2)) || inSet (l.drop (k + 1)) n)) := by
      show _ = _
      rw [HM.out, drop_of hs, inSet_cons]
    obtain ⟨s0, s1⟩ := s
    simp only at d0 d1
    clear hs HM
    by_cases c1 : s0 ≤ n
    · by_cases c2 : n ≤ s1
      · have HM3 : Hid (r = true) := by show _ = _; rw [HM2.out]; simp [c1, c2]
        clear HM2
        go_wp2_with fail
        go_ret
        exact ⟨by rw [HM3.out]; rfl, HK.out.alloc _⟩
      · have HM3 : Hid (r = inSet (l.drop (k + 1)) n) := by show _ = _; rw [HM2.out]; simp [c2]
        clear HM2
        go_wp2_with fail
        go_roundw
        case rel => exact ⟨k + 1, by omega, by go_num, HK.out.alloc _, HM3⟩
        case measure => simp [intOf]; omega
    · have HM3 : Hid (r = inSet (l.drop (k + 1)) n) := by show _ = _; rw [HM2.out]; simp [c1]
      clear HM2
      go_wp2_with fail
      go_roundw
      case rel => exact ⟨k + 1, by omega, by go_num, HK.out.alloc _, HM3⟩
      case measure => simp [intOf]; omega

theorem cellsOf_set {α : Type} {f : α → List Value} {n : Nat} (h : ∀ x, (f x).length = n) : ∀ (l : List α) (i : Nat) (x y : α), l[i]? = some x → ∀ (j : Nat) (v : Value), f y = (f x).set j v → j < n → (cellsOf f l).set (i * n + j) v = cellsOf f (l.set i y)
  | [], i, x, y, hx, _, _, _, _ => by simp at hx
  | a :: l, 0, x, y, hx, j, v, hv, hj => by
    simp at hx
    subst hx
    show (f a ++ cellsOf f l).set (0 * n + j) v = f y ++ cellsOf f l
    rw [Nat.zero_mul, Nat.zero_add, List.set_append_left _ _ (by rw [h]; exact hj), hv]
  | a :: l, i + 1, x, y, hx, j, v, hv, hj => by
    show (f a ++ cellsOf f l).set ((i + 1) * n + j) v = f a ++ cellsOf f (l.set i y)
    have hk : (i + 1) * n + j = (f a).length + (i * n + j) := by rw [h, Nat.add_mul]; omega
    rw [hk, List.set_append_right _ _ (by omega)]
    rw [Nat.add_sub_cancel_left, cellsOf_set h l i x y (by simpa using hx) j v hv hj]
theorem made_rows {α : Type} {f : α → List Value} {n : Nat} (hf : ∀ x, (f x).length = n) (hn : 0 < n) (x : α) (zs : Array Value) (hz : zs.toList = f x) (N : Nat) : madeCells zs (N * n) = (cellsOf f (List.replicate N x)).toArray := by
  have hs : zs.size = n := by rw [← Array.length_toList, hz, hf]
  apply Array.ext_getElem?
  intro i
  by_cases hi : i < N * n
  · have h1 : i / n < N := (Nat.div_lt_iff_lt_mul hn).2 hi
    have h2 : i % n < n := Nat.mod_lt _ hn
    have h3 : i / n * n + i % n = i := by rw [Nat.mul_comm]; exact Nat.div_add_mod i n
    have h4 := cellsOf_at hf (List.replicate N x) (i / n) x (by simp [h1]) (i % n) (zs[i % n]!) (by
      rw [← hz, Array.getElem?_toList, getElem!_pos zs (i % n) (by omega)]
      exact Array.getElem?_eq_getElem (by omega))
    rw [h3] at h4
    have h5 : (cellsOf f (List.replicate N x)).toArray[i]? = some (zs[i % n]!) := by rw [List.getElem?_toArray]; exact h4
    rw [h5]
    simp [madeCells, hs, hi]
  · rw [Array.getElem?_eq_none (by rw [size_madeCells]; omega), Array.getElem?_eq_none (by simp [cellsOf_length hf]; omega)]

def matchP (t : Tree) (l : List Int) : Prop := rightT t = true ∧ l.length ≤ 255 ∧ takes t l

end Go.Proofs.YtihnmamejfoeeaaGreatDoor
