/-
  Walks: text, Print.
-/
import Derived.Test.YtjjlkjfhhpogaaaGreatDoorPr3
namespace Go.Proofs.YtjjlkjfhhpogaaaGreatDoor
open Go.RowKit

theorem len2 {k : Int} {S N : Nat} (h : okAlone k S N = true) (hk : k = 1) : S ≤ 256 := by
  rw [okAlone, if_pos hk] at h
  simp at h
  exact h.2

set_option maxRecDepth 100000 in
set_option maxHeartbeats 8000000 in
theorem text_any (y : Sty) (hy : okY y) (m : Nat) : ∀ (t : Tree) (x : PC) (p : Nat) (w : World), size t ≤ m → size t ≤ 200 → kindsT t = true → goodT t → p ≤ 2 → HT w t x → TabP w →
    Calls Tryz.prog 53 #[.agg (syc y), x.v, .int .i64 p] w fun e w' => PostX y t p w e w' := by
  induction m with
  | zero => intro t x p w h; have := size_pos t; omega
  | succ m ih =>
  intro t x p w hm hz hk hg hp hx htab
  have HLenT : Hid (∀ q, (textT y t q).length ≤ 40000 * 200) := fun q => Nat.le_trans (text_len y hy _ t (Nat.le_refl _) hz hk hg q) (Nat.mul_le_mul_left _ hz)
  obtain ⟨k, set, subs, rows, sa, sc, ba, bc, rfl, rfl, hS, hB, hT⟩ := hx.parts
  rw [size_mk] at hm hz
  rw [kindsT_mk] at hk
  simp only [Bool.and_eq_true] at hk
  obtain ⟨hg1, hg2⟩ := (goodT_mk _ _ _).1 hg
  have hlen := length_le_sizeL subs
  have HE : Hid (∀ (p : Nat) (t : Tree) (x : PC) (W : World), p ≤ 2 → t ∈ subs → HT W t x → TabP W → Calls Tryz.prog 53 #[.agg (syc y), x.v, .int .i64 p] W fun e w' => PostX y t p W e w') := by
    intro p t x W hp ht h1 h2
    obtain ⟨i, hi⟩ := List.mem_iff_getElem?.1 ht
    exact ih t x p W (by have := size_le_of_at hi; omega) (by have := size_le_of_at hi; omega) (kindsT_of_at hk.2 hi) (hg2.at hi) hp h1 h2
  have HX : Hid (∀ q, textT y (.mk k set subs) q = _) := fun q => textT_mk y k set subs q
  have HB : Hid (RowT w (.slice ba subs.length bc) rows) := hB
  have HTT : Hid (HTs w subs rows) := hT
  have HSS : Hid (RowS w (.slice sa set.length sc) set) := hS
  have HTab : Hid (TabP w) := htab
  have HBp : Hid (Blk ((w.alloc (.cells #[str y.bw, str y.op, str y.cl] 64)).alloc (.cells #[.int .i64 k, .slice sa set.length sc, .slice ba subs.length bc] 26)) (w.heap.size + 1) #[.int .i64 k, .slice sa set.length sc, .slice ba subs.length bc] 26) := Blk.new' _ _ _ _ (by simp)
  have HBy : Hid (BlkY ((w.alloc (.cells #[str y.bw, str y.op, str y.cl] 64)).alloc (.cells #[.int .i64 k, .slice sa set.length sc, .slice ba subs.length bc] 26)) w.heap.size y) := (Blk.new _ _ _).alloc _
  have HB0 : Hid (Below w.heap.size w ((w.alloc (.cells #[str y.bw, str y.op, str y.cl] 64)).alloc (.cells #[.int .i64 k, .slice sa set.length sc, .slice ba subs.length bc] 26))) := bstep (bel_alloc _ _) (bel_alloc _ _)
  have HOk : Hid (okAlone k set.length subs.length = true) := hk.1
  unfold PostX
  by_cases c1 : k = 1
  · subst c1
    have HXq : Hid (textT y (.mk 1 set subs) p = setX y (nf set)) := by show _ = _; rw [HX.out p]; rfl
    have kn : ∀ W, Below w.heap.size w W → Calls Tryz.prog 71 #[.slice sa set.length sc] W fun e w' => ∃ u, e = .returned u ∧ RowS w' u (nf set) ∧ (nf set).length ≤ 1000 ∧ Below W.heap.size W w' := fun W g => norm_row _ set W (by have := len2 hk.1 rfl; omega) hg1 (HSS.out.bel g)
    have kx : ∀ u W, RowS W u (nf set) → (nf set).length ≤ 1000 → TabP W → Calls Tryz.prog 70 #[.agg #[str y.bw, str y.op, str y.cl], u] W fun e w' => e = .returned (str (setX y (nf set))) ∧ Below W.heap.size W w' := fun u W h1 h2 h3 => setText_any y hy u (nf set) W h1 (nf_ok hg1).1 h2 h3
    rw [HXq.out]
    generalize set.length = S at *
    generalize subs.length = N at *
    clear hx htab hm hz hk hg hg1 hg2 hS hB hT ih hlen HX HE HLenT HXq
    go_enter Tryz.func53, Tryz.ntmps53
    go_upto_region 2 with fail
    generalize hW0 : World.alloc _ _ = W0 at HBp HBy HB0 ⊢
    have CB : Hid (Below w.heap.size w W0) := HB0.out
    have CP : Hid (Blk W0 (w.heap.size + 1) #[.int .i64 1, .slice sa S sc, .slice ba N bc] 26) := HBp.out
    have CY : Hid (BlkY W0 w.heap.size y) := HBy.out
    clear HBp HBy HB0 hW0
    obtain ⟨s0, s1, s2⟩ := BlkY.cs (bw := y.bw) (op := y.op) (cl := y.cl) CY.out
    have e_0 := CP.out.c 0
    have e_1 := CP.out.c 1
    have e_2 := CP.out.c 2
    simp at e_0 e_1 e_2
    have bl0 := CP.out.lt
    have bl1 := CY.out.lt
    go_region_law
      (first
        | (go_simp; go_at_call 71; refine (kn _ (below_drewN CB.out 1)).mono ?_; rintro _ w3 ⟨u3, rfl, r3, l3, g3⟩; have B3 : Hid (Below w.heap.size w w3) := bstep (below_drewN CB.out 1) g3; have R3 : Hid (RowS w3 u3 (nf set)) := r3; have L3 : Hid ((nf set).length ≤ 1000) := l3; obtain ⟨v0, v1, v2⟩ := BlkY.cs (bw := y.bw) (op := y.op) (cl := y.cl) (CY.out.bel (bstep (below_drewN (Below.refl _ _) 1) g3)); clear g3 r3 l3)
        | (go_simp; go_at_call 70; refine (kx _ _ R3.out L3.out (HTab.out.bel' B3.out)).mono ?_; rintro _ w4 ⟨rfl, g4⟩; have B4 : Hid (Below w.heap.size w w4) := bstep B3.out g4; clear g4)
        | (go_at_call 70; refine (kx _ _ R3.out L3.out (HTab.out.bel' B3.out)).mono ?_; rintro _ w4 ⟨rfl, g4⟩; have B4 : Hid (Below w.heap.size w w4) := bstep B3.out g4; clear g4))
    all_goals
      go_wp2_with fail
      go_ret
      exact ⟨rfl, B4.out⟩
  by_cases c4 : k = 4
  · subst c4
    have hN1 : subs.length = 1 := by
      have := hk.1
      simp [okAlone] at this
      exact this.2
    obtain ⟨t0, rfl⟩ := List.length_eq_one_iff.1 hN1
    have HXq : Hid (textT y (.mk 4 set [t0]) p = textT y t0 2 ++ [42]) := by show _ = _; rw [HX.out p]; simp [textsT_cons]
    obtain ⟨r, rest, rfl, hr, hrest⟩ := (HTs_cons _ _ _ _).1 HTT.out
    obtain ⟨rb, ro, rfl, hrb, q0, q1, q2⟩ := RowX.cs3 HB.out (k := 0) rfl
    simp only [Nat.zero_mul, Nat.add_zero] at q0 q1 q2
    have HR : Hid (HT w t0 r) := hr
    have kt : ∀ W, Below w.heap.size w W → Calls Tryz.prog 53 #[.agg #[str y.bw, str y.op, str y.cl], r.v, .int .i64 2] W fun e w' => PostX y t0 2 W e w' := fun W g => HE.out 2 t0 r W (Nat.le_refl _) (by simp) (HT.bel g HR.out) (HTab.out.bel' g)
    have hl0 : (textT y t0 2).length ≤ 100000000 := by have h1 := HLenT.out p; rw [HXq.out] at h1; simp at h1; omega
    rw [HXq.out]
    generalize set.length = S at *
    obtain ⟨rk, ⟨r1, r2, r3⟩, r4, r5, r6⟩ := r
    simp only at q0 q1 q2
    clear hx htab hm hz hk hg hg1 hg2 hS hB hT ih hlen HX HE HLenT HXq hr hrest hN1
    go_enter Tryz.func53, Tryz.ntmps53
    go_upto_region 4 with fail
    generalize hW0 : World.alloc _ _ = W0 at HBp HBy HB0 ⊢
    have CB : Hid (Below w.heap.size w W0) := HB0.out
    have CP : Hid (Blk W0 (w.heap.size + 1) #[.int .i64 4, .slice sa S sc, .slice (some ⟨rb, ro, none⟩) 1 bc] 26) := HBp.out
    have CY : Hid (BlkY W0 w.heap.size y) := HBy.out
    clear HBp HBy HB0 hW0
    obtain ⟨s0, s1, s2⟩ := BlkY.cs (bw := y.bw) (op := y.op) (cl := y.cl) CY.out
    have e_0 := CP.out.c 0
    have e_1 := CP.out.c 1
    have e_2 := CP.out.c 2
    simp at e_0 e_1 e_2
    have bl0 := CP.out.lt
    have bl1 := CY.out.lt
    have q0' := (CB.out.cell (by exact hrb)).trans q0
    have q1' := (CB.out.cell (by exact hrb)).trans q1
    have q2' := (CB.out.cell (by exact hrb)).trans q2
    have hl1 : ¬ 9223372036854775807 < (textT y t0 2).length + 1 := by omega
    go_region_law
      (first
        | (go_simp; go_at_call 53; refine (kt _ (below_drewN CB.out 1)).mono ?_; rintro _ w3 ⟨rfl, g3⟩; have B3 : Hid (Below w.heap.size w w3) := bstep (below_drewN CB.out 1) g3; clear g3))
    all_goals
      go_wp2_with fail
      go_ret
      refine ⟨?_, B3.out⟩
      rw [str_lit #[42], str_app]
      rfl
  have HXq : Hid (textT y (.mk k set subs) p = if subs.length = 1 then (textsT y subs p).headD [] else if k = 3 then (if subs.length = 0 then [33] else brX (decide (p ≠ 0)) (Lib.join (textsT y subs 1) [124])) else brX (decide (p = 2)) (Lib.join (textsT y subs 2) y.bw)) := by show _ = _; rw [HX.out p, if_neg c1, if_neg c4]
  have e1 : (k == 1) = false := by simpa using c1
  have e4 : (k == 4) = false := by simpa using c4
  by_cases cN : subs.length = 1
  · obtain ⟨t0, rfl⟩ := List.length_eq_one_iff.1 cN
    have HXp : Hid (textT y (.mk k set [t0]) p = textT y t0 p) := by show _ = _; rw [HXq.out]; simp [textsT_cons]
    obtain ⟨r, rest, rfl, hr, hrest⟩ := (HTs_cons _ _ _ _).1 HTT.out
    obtain ⟨rb, ro, rfl, hrb, q0, q1, q2⟩ := RowX.cs3 HB.out (k := 0) rfl
    simp only [Nat.zero_mul, Nat.add_zero] at q0 q1 q2
    have HR : Hid (HT w t0 r) := hr
    have kt : ∀ W, Below w.heap.size w W → Calls Tryz.prog 53 #[.agg #[str y.bw, str y.op, str y.cl], r.v, .int .i64 p] W fun e w' => PostX y t0 p W e w' := fun W g => HE.out p t0 r W hp (by simp) (HT.bel g HR.out) (HTab.out.bel' g)
    rw [HXp.out]
    generalize set.length = S at *
    obtain ⟨rk, ⟨r1, r2, r3⟩, r4, r5, r6⟩ := r
    simp only at q0 q1 q2
    clear hx htab hm hz hk hg hg1 hg2 hS hB hT ih hlen HX HE HLenT HXq HXp hr hrest cN c1 c4
    go_enter Tryz.func53, Tryz.ntmps53
    go_upto_region 6 with fail
    generalize hW0 : World.alloc _ _ = W0 at HBp HBy HB0 ⊢
    have CB : Hid (Below w.heap.size w W0) := HB0.out
    have CP : Hid (Blk W0 (w.heap.size + 1) #[.int .i64 k, .slice sa S sc, .slice (some ⟨rb, ro, none⟩) 1 bc] 26) := HBp.out
    have CY : Hid (BlkY W0 w.heap.size y) := HBy.out
    clear HBp HBy HB0 hW0
    obtain ⟨s0, s1, s2⟩ := BlkY.cs (bw := y.bw) (op := y.op) (cl := y.cl) CY.out
    have e_0 := CP.out.c 0
    have e_1 := CP.out.c 1
    have e_2 := CP.out.c 2
    simp at e_0 e_1 e_2
    have bl0 := CP.out.lt
    have bl1 := CY.out.lt
    have q0' := (CB.out.cell (by exact hrb)).trans q0
    have q1' := (CB.out.cell (by exact hrb)).trans q1
    have q2' := (CB.out.cell (by exact hrb)).trans q2
    go_region_law
      (first
        | (go_simp; go_at_call 53; refine (kt _ (below_drewN CB.out 1)).mono ?_; rintro _ w3 ⟨rfl, g3⟩; have B3 : Hid (Below w.heap.size w w3) := bstep (below_drewN CB.out 1) g3; clear g3))
    all_goals
      go_wp2_with fail
      go_ret
      exact ⟨rfl, B3.out⟩
  have kj : ∀ (q : Nat) (sep : Bs) (W : World), q ≤ 2 → (Lib.join (textsT y subs q) sep).length ≤ 100000000 → Below w.heap.size w W → Calls Tryz.prog 73 #[.agg #[str y.bw, str y.op, str y.cl], .slice ba subs.length bc, str sep, .int .i64 q] W fun e w' => e = .returned (str (Lib.join (textsT y subs q) sep)) ∧ Below W.heap.size W w' := fun q sep W hq hl g => joined_any y subs rows ba bc q sep W (by omega) (HB.out.bel g) (HTs.bel g HTT.out) (HTab.out.bel' g) hl (fun t x W' h1 h2 h3 => HE.out q t x W' hq h1 h2 h3)
  have hsub : ∀ (q : Nat) (x : Bs), (x.length ≤ (brX (decide (q ≠ 0)) x).length) ∧ (x.length ≤ (brX (decide (q = 2)) x).length) := by
    intro q x
    constructor <;> (unfold brX; split <;> simp <;> omega)
  by_cases c3 : k = 3
  · subst c3
    by_cases c0 : subs.length = 0
    · have HXp : Hid (textT y (.mk 3 set subs) p = [33]) := by show _ = _; rw [HXq.out, if_neg cN, if_pos rfl, if_pos c0]
      have e0 : ((subs.length : Int) == 0) = true := by simp; exact List.length_eq_zero_iff.1 c0
      have e2 : ((subs.length : Int) == 1) = false := by simp <;> omega
      rw [HXp.out]
      generalize set.length = S at *
      generalize subs.length = N at *
      clear hx htab hm hz hk hg hg1 hg2 hS hB hT ih hlen HX HE HLenT HXq HXp cN c1 c4 kj hsub c0
      go_enter Tryz.func53, Tryz.ntmps53
      go_wp2_with fail
      go_ret
      exact ⟨rfl, HB0.out⟩
    · have HXp : Hid (textT y (.mk 3 set subs) p = brX (decide (p ≠ 0)) (Lib.join (textsT y subs 1) [124])) := by show _ = _; rw [HXq.out, if_neg cN, if_pos rfl, if_neg c0]
      have hjl : (Lib.join (textsT y subs 1) [124]).length ≤ 100000000 := by have h1 := HLenT.out p; rw [HXp.out] at h1; have h2 := (hsub p (Lib.join (textsT y subs 1) [124])).1; omega
      have kj1 := fun W g => kj 1 [124] W (by omega) hjl g
      obtain ⟨q, hq⟩ : ∃ q, q = decide (p ≠ 0) := ⟨_, rfl⟩
      have kb : ∀ W, Calls Tryz.prog 72 #[str (Lib.join (textsT y subs 1) [124]), .bool ((p : Int) != 0)] W fun e w' => e = .returned (str (brX q (Lib.join (textsT y subs 1) [124]))) ∧ w' = W := fun W => by
        have e : ((p : Int) != 0) = q := by rw [hq]; apply Bool.eq_iff_iff.2; simp
        rw [e]
        exact brack_any _ _ W (by omega)
      rw [← hq] at HXp
      clear hq
      have e0 : ((subs.length : Int) == 0) = false := by simp; intro h; exact c0 (by simp [h])
      have e2 : ((subs.length : Int) == 1) = false := by simp <;> omega
      rw [HXp.out]
      generalize set.length = S at *
      generalize subs.length = N at *
      clear hx htab hm hz hk hg hg1 hg2 hS hB hT ih hlen HX HE HLenT HXq HXp cN c1 c4 kj hsub c0 hjl
      go_enter Tryz.func53, Tryz.ntmps53
      go_wp2_with (first
        | (go_at_call 73; refine (kj1 _ HB0.out).mono ?_; rintro _ w3 ⟨rfl, g3⟩; have B3 : Hid (Below w.heap.size w w3) := bstep HB0.out g3; clear g3)
        | (go_at_call 72; refine (kb _).mono ?_; rintro _ w4 ⟨rfl, rfl⟩))
      go_ret
      exact ⟨rfl, B3.out⟩
  · have hk2 : k = 2 := by
      rcases okAlone_split hk.1 with ⟨h, _⟩ | ⟨h, _⟩ | ⟨h, _⟩ | ⟨h, _⟩
      · exact absurd h c1
      · exact h
      · exact absurd h c3
      · exact absurd h c4
    subst hk2
    have HXp : Hid (textT y (.mk 2 set subs) p = brX (decide (p = 2)) (Lib.join (textsT y subs 2) y.bw)) := by show _ = _; rw [HXq.out, if_neg cN, if_neg (by decide)]
    have hjl : (Lib.join (textsT y subs 2) y.bw).length ≤ 100000000 := by have h1 := HLenT.out p; rw [HXp.out] at h1; have h2 := (hsub p (Lib.join (textsT y subs 2) y.bw)).2; omega
    have kj1 := fun W g => kj 2 y.bw W (by omega) hjl g
    have kb : ∀ W, Calls Tryz.prog 72 #[str (Lib.join (textsT y subs 2) y.bw), .bool ((p : Int) == 2)] W fun e w' => e = .returned (str (brX (decide (p = 2)) (Lib.join (textsT y subs 2) y.bw))) ∧ w' = W := fun W => by
      have e : ((p : Int) == 2) = decide (p = 2) := by apply Bool.eq_iff_iff.2; simp <;> omega
      rw [e]
      exact brack_any _ _ W (by omega)
    have e2 : ((subs.length : Int) == 1) = false := by simp <;> omega
    rw [HXp.out]
    generalize set.length = S at *
    generalize subs.length = N at *
    clear hx htab hm hz hk hg hg1 hg2 hS hB hT ih hlen HX HE HLenT HXq HXp cN c1 c4 kj hsub hjl c3 e1 e4
    go_enter Tryz.func53, Tryz.ntmps53
    go_wp2_with (first
      | (go_at_call 73; refine (kj1 _ HB0.out).mono ?_; rintro _ w3 ⟨rfl, g3⟩; have B3 : Hid (Below w.heap.size w w3) := bstep HB0.out g3; clear g3)
      | (go_at_call 72; refine (kb _).mono ?_; rintro _ w4 ⟨rfl, rfl⟩))
    go_ret
    exact ⟨rfl, B3.out⟩

/-- What Text comes to. -/
theorem textAll_any (y : Sty) (hy : okY y) (t : Tree) (x : PC) (w : World) (hz : size t ≤ 200) (hk : kindsT t = true) (hg : goodT t) (hx : HT w t x) (htab : TabP w) :
    Calls Tryz.prog 36 #[.agg (syc y), x.v] w fun e w' => PostX y t 0 w e w' := by
  have HX : Hid (HT w t x) := hx
  have HTab : Hid (TabP w) := htab
  obtain ⟨xk, ⟨x1, x2, x3⟩, x4, x5, x6⟩ := x
  have kt : ∀ W, Below w.heap.size w W → Calls Tryz.prog 53 #[.agg #[str y.bw, str y.op, str y.cl], PC.v ⟨xk, ⟨x1, x2, x3⟩, ⟨x4, x5, x6⟩⟩, .int .i64 0] W fun e w' => PostX y t 0 W e w' := fun W g => text_any y hy _ t _ 0 W (Nat.le_refl _) hz hk hg (by omega) (HT.bel g HX.out) (HTab.out.bel' g)
  have HB0 : Hid (Below w.heap.size w ((w.alloc (.cells #[str y.bw, str y.op, str y.cl] 64)).alloc (.cells #[.int .i64 xk, .slice x1 x2 x3, .slice x4 x5 x6] 26))) := bstep (bel_alloc _ _) (bel_alloc _ _)
  clear hx htab
  go_enter Tryz.func36, Tryz.ntmps36
  go_wp2_with (go_at_call 53; refine (kt _ HB0.out).mono ?_; rintro _ w3 ⟨rfl, g3⟩; have B3 : Hid (Below w.heap.size w w3) := bstep HB0.out g3; clear g3)
  go_ret
  exact ⟨rfl, B3.out⟩

/-- What the two dialects' Print answer. -/
noncomputable def printM (t : Tree) : Bs × Int := if rightT t = true then (wholeX t, 0) else ([], 4)
noncomputable def jprintM (t : Tree) : Bs × Int := if rightT t = true then (textT styJ t 0, 0) else ([], 4)

set_option maxRecDepth 100000 in
set_option maxHeartbeats 4000000 in
theorem print_any (t : Tree) (x : PC) (w : World) (hok : okT t) (hg : goodT t) (hx : HT w t x) (htab : TabP w) :
    Calls Tryz.prog 16 #[x.v] w fun e w' => e = .returned (.tuple #[str (printM t).1, .int .i64 (printM t).2]) ∧ Below w.heap.size w w' := by
  have kr := fun W h => right_any t x W hok h
  have HX : Hid (HT w t x) := hx
  have HTab : Hid (TabP w) := htab
  obtain ⟨xk, ⟨x1, x2, x3⟩, x4, x5, x6⟩ := x
  have HBx : Hid (Blk (w.alloc (.cells #[.int .i64 xk, .slice x1 x2 x3, .slice x4 x5 x6] 26)) w.heap.size #[.int .i64 xk, .slice x1 x2 x3, .slice x4 x5 x6] 26) := Blk.new _ _ _
  cases hr : rightT t with
  | true =>
    rw [hr] at kr
    obtain ⟨hz, _, hk⟩ := right_parts hr
    have HP : Hid (printM t = (94 :: (textT styI t 0 ++ [36]), 0)) := by show _ = _; unfold printM; rw [if_pos hr]; try rfl
    have kt : ∀ W, Below w.heap.size w W → Calls Tryz.prog 36 #[.agg #[.string ⟨#[95]⟩, .string ⟨#[91]⟩, .string ⟨#[93]⟩], PC.v ⟨xk, ⟨x1, x2, x3⟩, ⟨x4, x5, x6⟩⟩] W fun e w' => PostX styI t 0 W e w' := fun W g => textAll_any styI okY_I t _ W hz hk hg (HT.bel g HX.out) (HTab.out.bel' g)
    have hl0 : (textT styI t 0).length ≤ 100000000 := by have := text_len styI okY_I _ t (Nat.le_refl _) hz hk hg 0; omega
    rw [HP.out]
    clear hx htab hok hg hr hz hk HP
    go_enter Tryz.func16, Tryz.ntmps16
    go_wp2_with (first
      | (go_at_call 18; refine (kr _ (HX.out.gr ((Gr.refl _).alloc _))).mono ?_; rintro _ w2 ⟨rfl, gw⟩; have G2 : Hid (Gr w w2) := ((Gr.refl _).alloc _).trans gw; have P2 : Hid (Blk (w2.alloc (.cells #[.string ⟨#[95]⟩, .string ⟨#[91]⟩, .string ⟨#[93]⟩] 64)) w.heap.size #[.int .i64 xk, .slice x1 x2 x3, .slice x4 x5 x6] 26) := (HBx.out.gr gw).alloc _; have B2 : Hid (Below w.heap.size w (w2.alloc (.cells #[.string ⟨#[95]⟩, .string ⟨#[91]⟩, .string ⟨#[93]⟩] 64))) := bstep G2.out.below (bel_alloc _ _); obtain ⟨e0, e1, e2⟩ := BlkT.cs (x := ⟨xk, ⟨x1, x2, x3⟩, ⟨x4, x5, x6⟩⟩) P2.out; simp only at e0 e1 e2; clear gw)
      | (go_at_call 36; refine (kt _ B2.out).mono ?_; rintro _ w3 ⟨rfl, g3⟩; have B3 : Hid (Below w.heap.size w w3) := bstep B2.out g3; clear g3))
    refine bodyPost_ret (v := .tuple #[str (94 :: (textT styI t 0 ++ [36])), .int .i64 0]) ?_ rfl ⟨rfl, B3.out⟩
    simp [results, Tryz.results16, go_sem]
    rw [str_lit #[94], str_lit #[36], str_app, str_app]
    simp
  | false =>
    rw [hr] at kr
    have HP : Hid (printM t = ([], 4)) := by show _ = _; unfold printM; rw [if_neg (by rw [hr]; decide)]
    rw [HP.out]
    clear hx htab hok hg hr HP
    go_enter Tryz.func16, Tryz.ntmps16
    go_wp2_with (go_at_call 18; refine (kr _ (HX.out.gr ((Gr.refl _).alloc _))).mono ?_; rintro _ w2 ⟨rfl, gw⟩; have G2 : Hid (Gr w w2) := ((Gr.refl _).alloc _).trans gw; clear gw)
    refine bodyPost_ret (v := .tuple #[str [], .int .i64 4]) ?_ rfl ⟨rfl, G2.out.below⟩
    simp [results, Tryz.results16, go_sem]

set_option maxRecDepth 100000 in
set_option maxHeartbeats 4000000 in
theorem jprint_any (t : Tree) (x : PC) (w : World) (hok : okT t) (hg : goodT t) (hx : HT w t x) (htab : TabP w) :
    Calls Tryz.prog 21 #[x.v] w fun e w' => e = .returned (.tuple #[str (jprintM t).1, .int .i64 (jprintM t).2]) ∧ Below w.heap.size w w' := by
  have kr := fun W h => right_any t x W hok h
  have HX : Hid (HT w t x) := hx
  have HTab : Hid (TabP w) := htab
  obtain ⟨xk, ⟨x1, x2, x3⟩, x4, x5, x6⟩ := x
  have HBx : Hid (Blk (w.alloc (.cells #[.int .i64 xk, .slice x1 x2 x3, .slice x4 x5 x6] 26)) w.heap.size #[.int .i64 xk, .slice x1 x2 x3, .slice x4 x5 x6] 26) := Blk.new _ _ _
  cases hr : rightT t with
  | true =>
    rw [hr] at kr
    obtain ⟨hz, _, hk⟩ := right_parts hr
    have HP : Hid (jprintM t = (textT styJ t 0, 0)) := by show _ = _; unfold jprintM; rw [if_pos hr]; try rfl
    have kt : ∀ W, Below w.heap.size w W → Calls Tryz.prog 36 #[.agg #[.string ⟨#[32]⟩, .string ⟨#[]⟩, .string ⟨#[]⟩], PC.v ⟨xk, ⟨x1, x2, x3⟩, ⟨x4, x5, x6⟩⟩] W fun e w' => PostX styJ t 0 W e w' := fun W g => textAll_any styJ okY_J t _ W hz hk hg (HT.bel g HX.out) (HTab.out.bel' g)
    have hl0 : (textT styJ t 0).length ≤ 100000000 := by have := text_len styJ okY_J _ t (Nat.le_refl _) hz hk hg 0; omega
    rw [HP.out]
    clear hx htab hok hg hr hz hk HP
    go_enter Tryz.func21, Tryz.ntmps21
    go_wp2_with (first
      | (go_at_call 18; refine (kr _ (HX.out.gr ((Gr.refl _).alloc _))).mono ?_; rintro _ w2 ⟨rfl, gw⟩; have G2 : Hid (Gr w w2) := ((Gr.refl _).alloc _).trans gw; have P2 : Hid (Blk (w2.alloc (.cells #[.string ⟨#[32]⟩, .string ⟨#[]⟩, .string ⟨#[]⟩] 64)) w.heap.size #[.int .i64 xk, .slice x1 x2 x3, .slice x4 x5 x6] 26) := (HBx.out.gr gw).alloc _; have B2 : Hid (Below w.heap.size w (w2.alloc (.cells #[.string ⟨#[32]⟩, .string ⟨#[]⟩, .string ⟨#[]⟩] 64))) := bstep G2.out.below (bel_alloc _ _); obtain ⟨e0, e1, e2⟩ := BlkT.cs (x := ⟨xk, ⟨x1, x2, x3⟩, ⟨x4, x5, x6⟩⟩) P2.out; simp only at e0 e1 e2; clear gw)
      | (go_at_call 36; refine (kt _ B2.out).mono ?_; rintro _ w3 ⟨rfl, g3⟩; have B3 : Hid (Below w.heap.size w w3) := bstep B2.out g3; clear g3))
    refine bodyPost_ret (v := .tuple #[str (textT styJ t 0), .int .i64 0]) ?_ rfl ⟨rfl, B3.out⟩
    simp [results, Tryz.results21, go_sem]
  | false =>
    rw [hr] at kr
    have HP : Hid (jprintM t = ([], 4)) := by show _ = _; unfold jprintM; rw [if_neg (by rw [hr]; decide)]
    rw [HP.out]
    clear hx htab hok hg hr HP
    go_enter Tryz.func21, Tryz.ntmps21
    go_wp2_with (go_at_call 18; refine (kr _ (HX.out.gr ((Gr.refl _).alloc _))).mono ?_; rintro _ w2 ⟨rfl, gw⟩; have G2 : Hid (Gr w w2) := ((Gr.refl _).alloc _).trans gw; clear gw)
    refine bodyPost_ret (v := .tuple #[str [], .int .i64 4]) ?_ rfl ⟨rfl, G2.out.below⟩
    simp [results, Tryz.results21, go_sem]

end Go.Proofs.YtjjlkjfhhpogaaaGreatDoor
