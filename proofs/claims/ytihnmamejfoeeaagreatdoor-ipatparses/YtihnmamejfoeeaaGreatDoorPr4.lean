/-
  Walks: text, Print.
-/
import Derived.Test.YtihnmamejfoeeaaGreatDoorPr3
namespace Go.Proofs.YtihnmamejfoeeaaGreatDoor
open Go.RowKit

theorem len2 {k : Int} {S N : Nat} (h : okAlone k S N = true) (hk : k = 1) : S ≤ 256 := by
  rw [okAlone, if_pos hk] at h
  simp at h
  exact h.2

set_option maxRecDepth 100000 in
set_option maxHeartbeats 8000000 in
theorem text_any (m : Nat) : ∀ (t : Tree) (x : PC) (p : Nat) (w : World), size t ≤ m → size t ≤ 200 → kindsT t = true → goodT t → p ≤ 2 → HT w t x → TabP w →
    Calls Tryz.prog 24 #[x.v, .int .i64 p] w fun e w' => PostX t p w e w' := by
  induction m with
  | zero => intro t x p w h; have := size_pos t; omega
  | succ m ih =>
  intro t x p w hm hz hk hg hp hx htab
  have HLenT : Hid (∀ q, (textT t q).length ≤ 40000 * 200) := fun q => Nat.le_trans (text_len _ t (Nat.le_refl _) hz hk hg q) (Nat.mul_le_mul_left _ hz)
  obtain ⟨k, set, subs, rows, sa, sc, ba, bc, rfl, rfl, hS, hB, hT⟩ := hx.parts
  rw [size_mk] at hm hz
  rw [kindsT_mk] at hk
  simp only [Bool.and_eq_true] at hk
  obtain ⟨hg1, hg2⟩ := (goodT_mk _ _ _).1 hg
  have hlen := length_le_sizeL subs
  have HE : Hid (∀ (p : Nat) (t : Tree) (x : PC) (W : World), p ≤ 2 → t ∈ subs → HT W t x → TabP W → Calls Tryz.prog 24 #[x.v, .int .i64 p] W fun e w' => PostX t p W e w') := by
    intro p t x W hp ht h1 h2
    obtain ⟨i, hi⟩ := List.mem_iff_getElem?.1 ht
    exact ih t x p W (by have := size_le_of_at hi; omega) (by have := size_le_of_at hi; omega) (kindsT_of_at hk.2 hi) (hg2.at hi) hp h1 h2
  have HX : Hid (∀ q, textT (.mk k set subs) q = _) := fun q => textT_mk k set subs q
  have HB : Hid (RowT w (.slice ba subs.length bc) rows) := hB
  have HTT : Hid (HTs w subs rows) := hT
  have HSS : Hid (RowS w (.slice sa set.length sc) set) := hS
  have HTab : Hid (TabP w) := htab
  have HBx : Hid (Blk (w.alloc (.cells #[.int .i64 k, .slice sa set.length sc, .slice ba subs.length bc] 26)) w.heap.size #[.int .i64 k, .slice sa set.length sc, .slice ba subs.length bc] 26) := Blk.new _ _ _
  have HOk : Hid (okAlone k set.length subs.length = true) := hk.1
  unfold PostX
  by_cases c1 : k = 1
  · subst c1
    have HXq : Hid (textT (.mk 1 set subs) p = setX (nf set)) := by show _ = _; rw [HX.out p]; rfl
    have kn : ∀ W, Below w.heap.size w W → Calls Tryz.prog 38 #[.slice sa set.length sc] W fun e w' => ∃ u, e = .returned u ∧ RowS w' u (nf set) ∧ (nf set).length ≤ 1000 ∧ Below W.heap.size W w' := fun W g => norm_row _ set W (by have := len2 hk.1 rfl; omega) hg1 (HSS.out.bel g)
    have kx : ∀ u W, RowS W u (nf set) → (nf set).length ≤ 1000 → TabP W → Calls Tryz.prog 37 #[u] W fun e w' => e = .returned (str (setX (nf set))) ∧ Below W.heap.size W w' := fun u W h1 h2 h3 => setText_any u (nf set) W h1 (nf_ok hg1).1 h2 h3
    rw [HXq.out]
    generalize set.length = S at *
    generalize subs.length = N at *
    clear hx htab hm hz hk hg hg1 hg2 hS hB hT ih hlen HX HE HLenT HXq
    go_enter Tryz.func24, Tryz.ntmps24
    go_wp2_with (first
      | (go_at_call 38; refine (kn _ (bel_alloc _ _)).mono ?_; rintro _ w3 ⟨u3, rfl, r3, l3, g3⟩; have B3 : Hid (Below w.heap.size w w3) := bstep (bel_alloc _ _) g3; have R3 : Hid (RowS w3 u3 (nf set)) := r3; have L3 : Hid ((nf set).length ≤ 1000) := l3; clear g3 r3 l3)
      | (go_at_call 37; refine (kx _ _ R3.out L3.out (HTab.out.bel' B3.out)).mono ?_; rintro _ w4 ⟨rfl, g4⟩; have B4 : Hid (Below w.heap.size w w4) := bstep B3.out g4; clear g4))
    go_ret
    exact ⟨rfl, B4.out⟩
  by_cases c4 : k = 4
  · subst c4
    have hN1 : subs.length = 1 := by
      have := hk.1
      simp [okAlone] at this
      exact this.2
    obtain ⟨t0, rfl⟩ := List.length_eq_one_iff.1 hN1
    have HXq : Hid (textT (.mk 4 set [t0]) p = textT t0 2 ++ [42]) := by show _ = _; rw [HX.out p]; simp [textsT_cons]
    obtain ⟨r, rest, rfl, hr, hrest⟩ := (HTs_cons _ _ _ _).1 HTT.out
    obtain ⟨rb, ro, rfl, hrb, q0, q1, q2⟩ := RowX.cs3 HB.out (k := 0) rfl
    simp only [Nat.zero_mul, Nat.add_zero] at q0 q1 q2
    have HR : Hid (HT w t0 r) := hr
    have kt : ∀ W, Below w.heap.size w W → Calls Tryz.prog 24 #[r.v, .int .i64 2] W fun e w' => PostX t0 2 W e w' := fun W g => HE.out 2 t0 r W (Nat.le_refl _) (by simp) (HT.bel g HR.out) (HTab.out.bel' g)
    have hl0 : (textT t0 2).length ≤ 100000000 := by have h1 := HLenT.out p; rw [HXq.out] at h1; simp at h1; omega
    rw [HXq.out]
    generalize set.length = S at *
    obtain ⟨rk, ⟨r1, r2, r3⟩, r4, r5, r6⟩ := r
    simp only at q0 q1 q2
    clear hx htab hm hz hk hg hg1 hg2 hS hB hT ih hlen HX HE HLenT HXq hr hrest hN1
    go_enter Tryz.func24, Tryz.ntmps24
    go_wp2_with (go_at_call 24; refine (kt _ (bel_alloc _ _)).mono ?_; rintro _ w3 ⟨rfl, g3⟩; have B3 : Hid (Below w.heap.size w w3) := bstep (bel_alloc _ _) g3; clear g3)
    go_ret
    refine ⟨?_, B3.out⟩
    rw [str_lit #[42], str_app]
    rfl
  have HXq : Hid (textT (.mk k set subs) p = if subs.length = 1 then (textsT subs p).headD [] else if k = 3 then (if subs.length = 0 then [33] else brX (decide (p ≠ 0)) (Lib.join (textsT subs 1) [124])) else brX (decide (p = 2)) (Lib.join (textsT subs 2) [95])) := by show _ = _; rw [HX.out p, if_neg c1, if_neg c4]
  have e1 : (k == 1) = false := by simpa using c1
  have e4 : (k == 4) = false := by simpa using c4
  by_cases cN : subs.length = 1
  · obtain ⟨t0, rfl⟩ := List.length_eq_one_iff.1 cN
    have HXp : Hid (textT (.mk k set [t0]) p = textT t0 p) := by show _ = _; rw [HXq.out]; simp [textsT_cons]
    obtain ⟨r, rest, rfl, hr, hrest⟩ := (HTs_cons _ _ _ _).1 HTT.out
    obtain ⟨rb, ro, rfl, hrb, q0, q1, q2⟩ := RowX.cs3 HB.out (k := 0) rfl
    simp only [Nat.zero_mul, Nat.add_zero] at q0 q1 q2
    have HR : Hid (HT w t0 r) := hr
    have kt : ∀ W, Below w.heap.size w W → Calls Tryz.prog 24 #[r.v, .int .i64 p] W fun e w' => PostX t0 p W e w' := fun W g => HE.out p t0 r W hp (by simp) (HT.bel g HR.out) (HTab.out.bel' g)
    rw [HXp.out]
    generalize set.length = S at *
    obtain ⟨rk, ⟨r1, r2, r3⟩, r4, r5, r6⟩ := r
    simp only at q0 q1 q2
    clear hx htab hm hz hk hg hg1 hg2 hS hB hT ih hlen HX HE HLenT HXq HXp hr hrest cN c1 c4
    go_enter Tryz.func24, Tryz.ntmps24
    go_wp2_with (go_at_call 24; refine (kt _ (bel_alloc _ _)).mono ?_; rintro _ w3 ⟨rfl, g3⟩; have B3 : Hid (Below w.heap.size w w3) := bstep (bel_alloc _ _) g3; clear g3)
    go_ret
    exact ⟨rfl, B3.out⟩
  have kj : ∀ (q : Nat) (sep : UInt8) (W : World), q ≤ 2 → (Lib.join (textsT subs q) [sep]).length ≤ 100000000 → Below w.heap.size w W → Calls Tryz.prog 40 #[.slice ba subs.length bc, str [sep], .int .i64 q] W fun e w' => e = .returned (str (Lib.join (textsT subs q) [sep])) ∧ Below W.heap.size W w' := fun q sep W hq hl g => joined_any subs rows ba bc q [sep] W (by omega) (HB.out.bel g) (HTs.bel g HTT.out) (HTab.out.bel' g) hl (fun t x W' h1 h2 h3 => HE.out q t x W' hq h1 h2 h3)
  have hsub : ∀ (q : Nat) (x : Bs), (x.length ≤ (brX (decide (q ≠ 0)) x).length) ∧ (x.length ≤ (brX (decide (q = 2)) x).length) := by
    intro q x
    constructor <;> (unfold brX; split <;> simp <;> omega)
  by_cases c3 : k = 3
  · subst c3
    by_cases c0 : subs.length = 0
    · have HXp : Hid (textT (.mk 3 set subs) p = [33]) := by show _ = _; rw [HXq.out, if_neg cN, if_pos rfl, if_pos c0]
      have e0 : ((subs.length : Int) == 0) = true := by simp; exact List.length_eq_zero_iff.1 c0
      have e2 : ((subs.length : Int) == 1) = false := by simp <;> omega
      rw [HXp.out]
      generalize set.length = S at *
      generalize subs.length = N at *
      clear hx htab hm hz hk hg hg1 hg2 hS hB hT ih hlen HX HE HLenT HXq HXp cN c1 c4 kj hsub c0
      go_enter Tryz.func24, Tryz.ntmps24
      go_wp2_with fail
      go_ret
      exact ⟨rfl, bel_alloc _ _⟩
    · have HXp : Hid (textT (.mk 3 set subs) p = brX (decide (p ≠ 0)) (Lib.join (textsT subs 1) [124])) := by show _ = _; rw [HXq.out, if_neg cN, if_pos rfl, if_neg c0]
      have hjl : (Lib.join (textsT subs 1) [124]).length ≤ 100000000 := by have h1 := HLenT.out p; rw [HXp.out] at h1; have h2 := (hsub p (Lib.join (textsT subs 1) [124])).1; omega
      have kj1 := fun W g => kj 1 124 W (by omega) hjl g
      obtain ⟨q, hq⟩ : ∃ q, q = decide (p ≠ 0) := ⟨_, rfl⟩
      have kb : ∀ W, Calls Tryz.prog 39 #[str (Lib.join (textsT subs 1) [124]), .bool ((p : Int) != 0)] W fun e w' => e = .returned (str (brX q (Lib.join (textsT subs 1) [124]))) ∧ w' = W := fun W => by
        have e : ((p : Int) != 0) = q := by rw [hq]; apply Bool.eq_iff_iff.2; simp
        rw [e]
        exact brack_any _ _ W (by omega)
      rw [← hq] at HXp
      clear hq
      have e0 : ((subs.length : Int) == 0) = false := by simp; intro h; exact c0 (by simp [h])
      have e2 : ((subs.length : Int) == 1) = false := by simp <;> omega
      rw [HXp.out]
      generalize set.length = S at *
      generalize subs.length = N at *
      clear hx htab hm hz hk hg hg1 hg2 hS hB hT ih hlen HX HE HLenT HXq HXp cN c1 c4 kj hsub c0 hjl
      go_enter Tryz.func24, Tryz.ntmps24
      go_wp2_with (first
        | (go_at_call 40; refine (kj1 _ (bel_alloc _ _)).mono ?_; rintro _ w3 ⟨rfl, g3⟩; have B3 : Hid (Below w.heap.size w w3) := bstep (bel_alloc _ _) g3; clear g3)
        | (go_at_call 39; refine (kb _).mono ?_; rintro _ w4 ⟨rfl, rfl⟩))
      go_ret
      exact ⟨rfl, B3.out⟩
  · have hk2 : k = 2 := by
      rcases okAlone_split hk.1 with ⟨h, _⟩ | ⟨h, _⟩ | ⟨h, _⟩ | ⟨h, _⟩
      · exact absurd h c1
      · exact h
      · exact absurd h c3
      · exact absurd h c4
    subst hk2
    have HXp : Hid (textT (.mk 2 set subs) p = brX (decide (p = 2)) (Lib.join (textsT subs 2) [95])) := by show _ = _; rw [HXq.out, if_neg cN, if_neg (by decide)]
    have hjl : (Lib.join (textsT subs 2) [95]).length ≤ 100000000 := by have h1 := HLenT.out p; rw [HXp.out] at h1; have h2 := (hsub p (Lib.join (textsT subs 2) [95])).2; omega
    have kj1 := fun W g => kj 2 95 W (by omega) hjl g
    have kb : ∀ W, Calls Tryz.prog 39 #[str (Lib.join (textsT subs 2) [95]), .bool ((p : Int) == 2)] W fun e w' => e = .returned (str (brX (decide (p = 2)) (Lib.join (textsT subs 2) [95]))) ∧ w' = W := fun W => by
      have e : ((p : Int) == 2) = decide (p = 2) := by apply Bool.eq_iff_iff.2; simp <;> omega
      rw [e]
      exact brack_any _ _ W (by omega)
    have e2 : ((subs.length : Int) == 1) = false := by simp <;> omega
    rw [HXp.out]
    generalize set.length = S at *
    generalize subs.length = N at *
    clear hx htab hm hz hk hg hg1 hg2 hS hB hT ih hlen HX HE HLenT HXq HXp cN c1 c4 kj hsub hjl c3 e1 e4
    go_enter Tryz.func24, Tryz.ntmps24
    go_wp2_with (first
      | (go_at_call 40; refine (kj1 _ (bel_alloc _ _)).mono ?_; rintro _ w3 ⟨rfl, g3⟩; have B3 : Hid (Below w.heap.size w w3) := bstep (bel_alloc _ _) g3; clear g3)
      | (go_at_call 39; refine (kb _).mono ?_; rintro _ w4 ⟨rfl, rfl⟩))
    go_ret
    exact ⟨rfl, B3.out⟩

/-- What Print answers. -/
noncomputable def printM (t : Tree) : Bs × Int := if rightT t = true then (wholeX t, 0) else ([], 4)

set_option maxRecDepth 100000 in
set_option maxHeartbeats 4000000 in
theorem print_any (t : Tree) (x : PC) (w : World) (hok : okT t) (hg : goodT t) (hx : HT w t x) (htab : TabP w) :
    Calls Tryz.prog 11 #[x.v] w fun e w' => e = .returned (.tuple #[str (printM t).1, .int .i64 (printM t).2]) ∧ Below w.heap.size w w' := by
  have kr := fun W h => right_any t x W hok h
  have HX : Hid (HT w t x) := hx
  have HTab : Hid (TabP w) := htab
  obtain ⟨xk, ⟨x1, x2, x3⟩, x4, x5, x6⟩ := x
  have HBx : Hid (Blk (w.alloc (.cells #[.int .i64 xk, .slice x1 x2 x3, .slice x4 x5 x6] 26)) w.heap.size #[.int .i64 xk, .slice x1 x2 x3, .slice x4 x5 x6] 26) := Blk.new _ _ _
  cases hr : rightT t with
  | true =>
    rw [hr] at kr
    obtain ⟨hz, _, hk⟩ := right_parts hr
    have HP : Hid (printM t = (wholeX t, 0)) := by show _ = _; unfold printM; rw [if_pos hr]
    have kt : ∀ W, Below w.heap.size w W → Calls Tryz.prog 24 #[PC.v ⟨xk, ⟨x1, x2, x3⟩, ⟨x4, x5, x6⟩⟩, .int .i64 0] W fun e w' => PostX t 0 W e w' := fun W g => text_any _ t _ 0 W (Nat.le_refl _) hz hk hg (by omega) (HT.bel g HX.out) (HTab.out.bel' g)
    have hl0 : (textT t 0).length ≤ 100000000 := by have := text_len _ t (Nat.le_refl _) hz hk hg 0; omega
    have HW : Hid (wholeX t = 94 :: (textT t 0 ++ [36])) := rfl
    rw [HP.out, HW.out]
    clear hx htab hok hg hr hz hk HP HW
    go_enter Tryz.func11, Tryz.ntmps11
    go_wp2_with (first
      | (go_at_call 23; refine (kr _ (HX.out.gr ((Gr.refl _).alloc _))).mono ?_; rintro _ w2 ⟨rfl, gw⟩; have G2 : Hid (Gr w w2) := ((Gr.refl _).alloc _).trans gw; obtain ⟨e0, e1, e2⟩ : w2.cell? ⟨w.heap.size, 0, none⟩ = some (.int .i64 xk) ∧ w2.cell? ⟨w.heap.size, 1, none⟩ = some (.slice x1 x2 x3) ∧ w2.cell? ⟨w.heap.size, 2, none⟩ = some (.slice x4 x5 x6) := ⟨(HBx.out.gr gw).c 0, (HBx.out.gr gw).c 1, (HBx.out.gr gw).c 2⟩; clear gw)
      | (go_at_call 24; refine (kt _ G2.out.below).mono ?_; rintro _ w3 ⟨rfl, g3⟩; have B3 : Hid (Below w.heap.size w w3) := bstep G2.out.below g3; clear g3))
    refine bodyPost_ret (v := .tuple #[str (94 :: (textT t 0 ++ [36])), .int .i64 0]) ?_ rfl ⟨rfl, B3.out⟩
    simp [results, Tryz.results11, go_sem]
    rw [str_lit #[94], str_lit #[36], str_app, str_app]
    simp
  | false =>
    rw [hr] at kr
    have HP : Hid (printM t = ([], 4)) := by show _ = _; unfold printM; rw [if_neg (by rw [hr]; decide)]
    rw [HP.out]
    clear hx htab hok hg hr HP
    go_enter Tryz.func11, Tryz.ntmps11
    go_wp2_with (go_at_call 23; refine (kr _ (HX.out.gr ((Gr.refl _).alloc _))).mono ?_; rintro _ w2 ⟨rfl, gw⟩; have G2 : Hid (Gr w w2) := ((Gr.refl _).alloc _).trans gw; clear gw)
    refine bodyPost_ret (v := .tuple #[str [], .int .i64 4]) ?_ rfl ⟨rfl, G2.out.below⟩
    simp [results, Tryz.results11, go_sem]

end Go.Proofs.YtihnmamejfoeeaaGreatDoor
