/-
  Walks: the document's text of a pattern, and Print.
-/
import Derived.Test.YtnohkbdmnalmcaaGreatDoorZo
import Derived.Test.YtnohkbdmnalmcaaGreatDoorPr4
import Derived.Test.YtnohkbdmnalmcaaGreatDoorKd
namespace Go.Proofs.YtnohkbdmnalmcaaGreatDoor
open Go.RowKit

theorem join_cut (a b : List Bs) (c : UInt8) : (Lib.join a [c]).length ≤ (Lib.join (a ++ b) [c]).length := by
  cases a with
  | nil => simp [Lib.join_nil]
  | cons y r =>
    rw [List.cons_append, Lib.join_cons, Lib.join_cons]
    simp [Lib.joinTail]
theorem join_take_le (xs : List Bs) (c : UInt8) (k : Nat) : (Lib.join (xs.take k) [c]).length ≤ (Lib.join xs [c]).length := by
  have := join_cut (xs.take k) (xs.drop k) c
  rwa [List.take_append_drop] at this
theorem join_step {xs : List Bs} {k : Nat} {x : Bs} (hx : xs[k]? = some x) (c : UInt8) : Lib.join (xs.take (k + 1)) [c] = if k = 0 then x else Lib.join (xs.take k) [c] ++ c :: x := by
  rw [List.take_add_one, hx, Option.toList_some, join_snoc]
  by_cases h : k = 0
  · subst h; simp
  · rw [if_neg h, if_neg]
    simp
    exact ⟨h, by rintro rfl; simp at hx⟩
theorem join_step_len {xs : List Bs} {k : Nat} {x : Bs} (hx : xs[k]? = some x) (c : UInt8) : x.length ≤ (Lib.join xs [c]).length := by
  have h1 := join_take_le xs c (k + 1)
  rw [join_step hx] at h1
  split at h1
  · exact h1
  · simp at h1; omega
theorem texts_at {yy : Sty} {ts : List Tree} {k : Nat} {t : Tree} (h : ts[k]? = some t) (q : Nat) : (textsT yy ts q)[k]? = some (textT yy t q) := by
  rw [textsT_map]; simp [h]

/-- Between the rounds: the style and the pattern in their boxes. -/
structure XZ (yy : Sty) (w : World) (cs : Array Value) (W : World) : Prop where
  bel : Below w.heap.size w W
  sty : Blk W w.heap.size (syc yy) 66
  box : Blk W (w.heap.size + 1) cs 26
theorem XZ.go {yy : Sty} {w : World} {cs : Array Value} {W W' : World} (h : XZ yy w cs W) (g : Below W.heap.size W W') : XZ yy w cs W' := ⟨bstep h.bel g, h.sty.bel g, h.box.bel g⟩
theorem XZ.start (yy : Sty) (w : World) (cs : Array Value) : XZ yy w cs ((w.alloc (.cells (syc yy) 66)).alloc (.cells cs 26)) := ⟨bstep (bel_alloc _ _) (bel_alloc _ _), (Blk.new _ _ _).alloc _, Blk.new' _ _ _ _ (by simp)⟩
theorem bdrew {b : Nat} {w W : World} (h : Below b w W) : Below b w W.drew := ⟨h.os, h.tape, h.output, h.size, h.block⟩
theorem BlkT3 {W : World} {b : Nat} {v0 v1 v2 : Value} {t : TypeId} (h : Blk W b #[v0, v1, v2] t) : W.cell? ⟨b, 0, none⟩ = some v0 ∧ W.cell? ⟨b, 1, none⟩ = some v1 ∧ W.cell? ⟨b, 2, none⟩ = some v2 :=
  ⟨h.c 0, h.c 1, h.c 2⟩
theorem bel2 (w : World) (o o' : Obj) : Below w.heap.size w ((w.alloc o).alloc o') := bstep (bel_alloc _ _) (bel_alloc _ _)

set_option maxRecDepth 100000 in
set_option maxHeartbeats 8000000 in
theorem rtext_any (c : UInt8) (op cl : Bs) (hy : okY ⟨[c], op, cl⟩) (m : Nat) : ∀ (t : Tree) (x : PC) (p : Nat) (w : World), size t ≤ m → size t ≤ 200 → kindsT t = true → goodT t → p ≤ 2 → HT w t x →
    Calls Tryz.prog 38 #[.agg #[str [c], str op, str cl], x.v, .int .i64 p] w fun e w' => PostX ⟨[c], op, cl⟩ t p w e w' := by
  induction m with
  | zero => intro t x p w h; have := size_pos t; omega
  | succ m ih =>
  intro t x p w hm hz hk hg hp hx
  have HLenT : Hid (∀ q, (textT ⟨[c], op, cl⟩ t q).length ≤ 40000 * 200) := fun q => Nat.le_trans (text_len _ hy _ t (Nat.le_refl _) hz hk hg q) (Nat.mul_le_mul_left _ hz)
  obtain ⟨k, set, subs, rows, sa, sc, ba, bc, rfl, rfl, hS, hB, hT⟩ := hx.parts
  rw [size_mk] at hm hz
  rw [kindsT_mk] at hk
  simp only [Bool.and_eq_true] at hk
  obtain ⟨hg1, hg2⟩ := (goodT_mk _ _ _).1 hg
  have hlen := length_le_sizeL subs
  have HE : Hid (∀ (p : Nat) (t : Tree) (x : PC) (W : World), p ≤ 2 → t ∈ subs → HT W t x → Calls Tryz.prog 38 #[.agg #[str [c], str op, str cl], x.v, .int .i64 p] W fun e w' => PostX ⟨[c], op, cl⟩ t p W e w') := by
    intro p t x W hp ht h1
    obtain ⟨i, hi⟩ := List.mem_iff_getElem?.1 ht
    exact ih t x p W (by have := size_le_of_at hi; omega) (by have := size_le_of_at hi; omega) (kindsT_of_at hk.2 hi) (hg2.at hi) hp h1
  have HX : Hid (∀ q, textT ⟨[c], op, cl⟩ (.mk k set subs) q = _) := fun q => textT_mk _ k set subs q
  have HB : Hid (RowT w (.slice ba subs.length bc) rows) := hB
  have HTT : Hid (HTs w subs rows) := hT
  have HSS : Hid (RowS w (.slice sa set.length sc) set) := hS
  have HOk : Hid (okAlone k set.length subs.length = true) := hk.1
  unfold PostX
  by_cases c1 : k = 1
  · subst c1
    have HXq : Hid (textT ⟨[c], op, cl⟩ (.mk 1 set subs) p = setX ⟨[c], op, cl⟩ (nf set)) := by show _ = _; rw [HX.out p]; rfl
    have kn : ∀ W, Below w.heap.size w W → Calls Tryz.prog 55 #[.agg #[str [c], str op, str cl], .slice sa set.length sc] W fun e w' => e = .returned (str (setX ⟨[c], op, cl⟩ (nf set))) ∧ Below W.heap.size W w' := fun W g => rone_any ⟨[c], op, cl⟩ hy _ set W (by have := len2 hk.1 rfl; omega) hg1 (HSS.out.bel g)
    rw [HXq.out]
    generalize set.length = S at *
    generalize subs.length = N at *
    clear hx hm hz hk hg hg1 hg2 hS hB hT ih hlen HX HE HLenT HXq
    go_enter Tryz.func38, Tryz.ntmps38
    go_wp2_with (go_at_call 55; refine (kn _ (bel2 _ _ _)).mono ?_; rintro _ w3 ⟨rfl, g3⟩; have B3 : Hid (Below w.heap.size w w3) := bstep (bel2 _ _ _) g3; clear g3)
    go_ret
    exact ⟨rfl, B3.out⟩
  by_cases c4 : k = 4
  · subst c4
    have hN1 : subs.length = 1 := by
      have := hk.1
      simp [okAlone] at this
      exact this.2
    obtain ⟨t0, rfl⟩ := List.length_eq_one_iff.1 hN1
    have HXq : Hid (textT ⟨[c], op, cl⟩ (.mk 4 set [t0]) p = textT ⟨[c], op, cl⟩ t0 2 ++ [42]) := by show _ = _; rw [HX.out p]; simp [textsT_cons]
    obtain ⟨r, rest, rfl, hr, hrest⟩ := (HTs_cons _ _ _ _).1 HTT.out
    obtain ⟨rb, ro, rfl, hrb, q0, q1, q2⟩ := RowX.cs3 HB.out (k := 0) rfl
    simp only [Nat.zero_mul, Nat.add_zero] at q0 q1 q2
    have HR : Hid (HT w t0 r) := hr
    have kt : ∀ W, Below w.heap.size w W → Calls Tryz.prog 38 #[.agg #[str [c], str op, str cl], r.v, .int .i64 2] W fun e w' => PostX ⟨[c], op, cl⟩ t0 2 W e w' := fun W g => HE.out 2 t0 r W (Nat.le_refl _) (by simp) (HT.bel g HR.out)
    have hl0 : (textT ⟨[c], op, cl⟩ t0 2).length ≤ 100000000 := by have h1 := HLenT.out p; rw [HXq.out] at h1; simp at h1; omega
    rw [HXq.out]
    generalize set.length = S at *
    obtain ⟨rk, ⟨r1, r2, r3⟩, r4, r5, r6⟩ := r
    simp only at q0 q1 q2
    clear hx hm hz hk hg hg1 hg2 hS hB hT ih hlen HX HE HLenT HXq hr hrest hN1
    have n1 : ¬ 9223372036854775807 < (textT ⟨[c], op, cl⟩ t0 2).length + 1 := by omega
    go_enter Tryz.func38, Tryz.ntmps38
    go_upto_region 4 with fail
    go_region_with (go_at_call 38; refine (kt _ (bdrew (bel2 _ _ _))).mono ?_; rintro _ w3 ⟨rfl, g3⟩; have B3 : Hid (Below w.heap.size w w3) := bstep (bdrew (bel2 _ _ _)) g3; clear g3)
    all_goals go_wp2_with fail
    all_goals go_ret
    all_goals refine ⟨?_, B3.out⟩
    all_goals rw [str_lit #[42], str_app]
    all_goals rfl
  have HXq : Hid (textT ⟨[c], op, cl⟩ (.mk k set subs) p = if subs.length = 1 then (textsT ⟨[c], op, cl⟩ subs p).headD [] else if k = 3 then (if subs.length = 0 then [33] else brX (decide (p ≠ 0)) (Lib.join (textsT ⟨[c], op, cl⟩ subs 1) [124])) else brX (decide (p = 2)) (Lib.join (textsT ⟨[c], op, cl⟩ subs 2) [c])) := by show _ = _; rw [HX.out p, if_neg c1, if_neg c4]
  have e1 : (k == 1) = false := by simpa using c1
  have e4 : (k == 4) = false := by simpa using c4
  by_cases cN : subs.length = 1
  · obtain ⟨t0, rfl⟩ := List.length_eq_one_iff.1 cN
    have HXp : Hid (textT ⟨[c], op, cl⟩ (.mk k set [t0]) p = textT ⟨[c], op, cl⟩ t0 p) := by show _ = _; rw [HXq.out]; simp [textsT_cons]
    obtain ⟨r, rest, rfl, hr, hrest⟩ := (HTs_cons _ _ _ _).1 HTT.out
    obtain ⟨rb, ro, rfl, hrb, q0, q1, q2⟩ := RowX.cs3 HB.out (k := 0) rfl
    simp only [Nat.zero_mul, Nat.add_zero] at q0 q1 q2
    have HR : Hid (HT w t0 r) := hr
    have kt : ∀ W, Below w.heap.size w W → Calls Tryz.prog 38 #[.agg #[str [c], str op, str cl], r.v, .int .i64 p] W fun e w' => PostX ⟨[c], op, cl⟩ t0 p W e w' := fun W g => HE.out p t0 r W hp (by simp) (HT.bel g HR.out)
    rw [HXp.out]
    generalize set.length = S at *
    obtain ⟨rk, ⟨r1, r2, r3⟩, r4, r5, r6⟩ := r
    simp only at q0 q1 q2
    clear hx hm hz hk hg hg1 hg2 hS hB hT ih hlen HX HE HLenT HXq HXp hr hrest cN c1 c4
    go_enter Tryz.func38, Tryz.ntmps38
    go_upto_region 6 with fail
    go_region_with (go_at_call 38; refine (kt _ (bdrew (bel2 _ _ _))).mono ?_; rintro _ w3 ⟨rfl, g3⟩; have B3 : Hid (Below w.heap.size w w3) := bstep (bdrew (bel2 _ _ _)) g3; clear g3)
    all_goals go_wp2_with fail
    all_goals go_ret
    all_goals exact ⟨rfl, B3.out⟩
  have hsub : ∀ (q : Nat) (x : Bs), (x.length ≤ (brX (decide (q ≠ 0)) x).length) ∧ (x.length ≤ (brX (decide (q = 2)) x).length) := by
    intro q x
    constructor <;> (unfold brX; split <;> simp <;> omega)
  by_cases c3 : k = 3
  · subst c3
    by_cases c0 : subs.length = 0
    · have HXp : Hid (textT ⟨[c], op, cl⟩ (.mk 3 set subs) p = [33]) := by show _ = _; rw [HXq.out, if_neg cN, if_pos rfl, if_pos c0]
      have e0 : ((subs.length : Int) == 0) = true := by simp; exact List.length_eq_zero_iff.1 c0
      have e2 : ((subs.length : Int) == 1) = false := by simp <;> omega
      rw [HXp.out]
      generalize set.length = S at *
      generalize subs.length = N at *
      clear hx hm hz hk hg hg1 hg2 hS hB hT ih hlen HX HE HLenT HXq HXp cN c1 c4 hsub c0
      go_enter Tryz.func38, Tryz.ntmps38
      go_wp2_with fail
      go_ret
      exact ⟨rfl, bel2 _ _ _⟩
    have HXp : Hid (textT ⟨[c], op, cl⟩ (.mk 3 set subs) p = brX (decide (p ≠ 0)) (Lib.join (textsT ⟨[c], op, cl⟩ subs 1) [124])) := by show _ = _; rw [HXq.out, if_neg cN, if_pos rfl, if_neg c0]
    have e0 : ((subs.length : Int) == 0) = false := by simp; intro h; exact c0 (by simp [h])
    have hjl : (Lib.join (textsT ⟨[c], op, cl⟩ subs 1) [124]).length ≤ 100000000 := by have h1 := HLenT.out p; rw [HXp.out] at h1; have h2 := (hsub p (Lib.join (textsT ⟨[c], op, cl⟩ subs 1) [124])).1; omega
    have e2 : ((subs.length : Int) == 1) = false := by simp <;> omega
    have HTL : Hid ((textsT ⟨[c], op, cl⟩ subs 1).length = subs.length) := textsT_len' _ _ _
    have HLL : Hid (∀ (j : Nat) (s : Tree), subs[j]? = some s → ∃ r, rows[j]? = some r ∧ HT w s r) := fun j s h => HTT.out.at h
    rw [HXp.out]
    generalize set.length = S at *
    obtain ⟨N, hN⟩ : ∃ N, N = subs.length := ⟨_, rfl⟩
    have HNl : Hid (N = subs.length) := hN
    have hN3 : subs.length ≤ 1000 := by omega
    rw [← hN] at HB e0 e2 HTL hN3 c0 ⊢
    clear hx hm hz hk hg hg1 hg2 hS hB hT ih hlen HX HLenT HXq HXp c1 c4 hsub hN HSS HTT cN HOk
    have HJ : Hid ((Lib.join (textsT ⟨[c], op, cl⟩ subs 1) [124]).length ≤ 100000000) := hjl
    clear hjl
    have HX0 : Hid (XZ ⟨[c], op, cl⟩ w #[.int .i64 3, .slice sa S sc, .slice ba N bc] ((w.alloc (.cells (syc ⟨[c], op, cl⟩) 66)).alloc (.cells #[.int .i64 3, .slice sa S sc, .slice ba N bc] 26))) := XZ.start _ _ _
    go_enter Tryz.func38, Tryz.ntmps38
    go_upto_region 11 with fail
    generalize hW : World.alloc _ _ = W0 at HX0
    clear hW
    obtain ⟨a0, a1, a2⟩ := BlkT3 HX0.out.box
    go_wp2_with fail
    clear a0 a1 a2
    go_loopw [7, 63] (fun v7 vi wr => ∃ (j : Nat), j ≤ N ∧ vi = .int .i64 j ∧ v7 = str (Lib.join ((textsT ⟨[c], op, cl⟩ subs 1).take j) [124]) ∧ Hid (XZ ⟨[c], op, cl⟩ w #[.int .i64 3, .slice sa S sc, .slice ba N bc] wr)) (fun _ vi _ => N - (intOf vi).toNat)
    case atStart => exact ⟨0, Nat.zero_le _, rfl, rfl, HX0⟩
    case round =>
      clear HX0
      obtain ⟨j, hj, rfl, rfl, HI⟩ := hrel
      obtain ⟨a0, a1, a2⟩ := BlkT3 HI.out.box
      have dl := HI.out.box.lt
      have dl2 : w.heap.size + 1 < wr.heap.size + 1 := Nat.lt_succ_of_lt dl
      by_cases hlt : j < N
      case neg =>
        have hjN : j = N := by omega
        have hle : ¬ (j : Int) < (N : Int) := by omega
        have HEq : Hid ((textsT ⟨[c], op, cl⟩ subs 1).take j = textsT ⟨[c], op, cl⟩ subs 1) := by show _ = _; rw [List.take_of_length_le (by have := HTL.out; omega)]
        rw [HEq.out]
        have hJ := HJ.out
        clear HE
        obtain ⟨J, hJe⟩ : ∃ J, J = Lib.join (textsT ⟨[c], op, cl⟩ subs 1) [124] := ⟨_, rfl⟩
        have HJe : Hid (J = Lib.join (textsT ⟨[c], op, cl⟩ subs 1) [124]) := hJe
        rw [← hJe] at hJ ⊢
        clear hJe
        have m1 : ¬ 9223372036854775807 < 1 + J.length := by omega
        have m2 : ¬ 9223372036854775807 < 1 + J.length + 1 := by omega
        have e0 : (0 : Int) < (N : Int) := by omega
        by_cases p2 : p = 2
        · subst p2
          go_wp2_with fail
          go_ret
          rw [← HJe.out]
          refine ⟨?_, HI.out.bel⟩
          rw [str_lit #[40], str_lit #[41], str_app, str_app]
          rfl
        · have f2 : ((p : Int) == 2) = false := by simp; omega
          by_cases p1 : p = 1
          · subst p1
            go_wp2_with fail
            go_ret
            rw [← HJe.out]
            refine ⟨?_, HI.out.bel⟩
            rw [str_lit #[40], str_lit #[41], str_app, str_app]
            rfl
          · have p0 : p = 0 := by omega
            subst p0
            go_wp2_with fail
            go_ret
            rw [← HJe.out]
            exact ⟨rfl, HI.out.bel⟩

      have hltI : (j : Int) < (N : Int) := by omega
      obtain ⟨s, hs⟩ : ∃ s, subs[j]? = some s := ⟨_, List.getElem?_eq_getElem (by have := HNl.out; omega)⟩
      obtain ⟨r, hr, hrt⟩ := HLL.out j s hs
      have HRt : Hid (HT w s r) := hrt
      obtain ⟨b, off, rfl, hb, q0, q1, q2⟩ := RowX.cs3 (RowX.bel HB.out HI.out.bel) hr
      have hP := Nat.le_trans (join_take_le (textsT ⟨[c], op, cl⟩ subs 1) 124 j) HJ.out
      have hS2 := Nat.le_trans (join_step_len (texts_at hs 1) 124) HJ.out
      have HNx : Hid (Lib.join ((textsT ⟨[c], op, cl⟩ subs 1).take (j + 1)) [124] = if j = 0 then textT ⟨[c], op, cl⟩ s 1 else Lib.join ((textsT ⟨[c], op, cl⟩ subs 1).take j) [124] ++ 124 :: textT ⟨[c], op, cl⟩ s 1) := join_step (texts_at hs 1) 124
      have kt : ∀ W, Below w.heap.size w W → Calls Tryz.prog 38 #[.agg #[str [c], str op, str cl], r.v, .int .i64 1] W fun e w' => e = .returned (str (textT ⟨[c], op, cl⟩ s 1)) ∧ Below W.heap.size W w' := fun W g => HE.out 1 s r W (by omega) (List.mem_of_getElem? hs) (HT.bel g HRt.out)
      have PN : Hid (j = 0 → Lib.join ((textsT ⟨[c], op, cl⟩ subs 1).take j) [124] = []) := by
        intro e
        rw [e]
        rfl
      clear hrt hr hs
      generalize Lib.join ((textsT ⟨[c], op, cl⟩ subs 1).take j) [124] = P at hP HNx PN ⊢
      generalize textT ⟨[c], op, cl⟩ s 1 = X at hS2 HNx kt
      obtain ⟨rk, ⟨r1, r2, r3⟩, r4, r5, r6⟩ := r
      simp only at q0 q1 q2
      have HS0 : Hid (XZ ⟨[c], op, cl⟩ w #[.int .i64 3, .slice sa S sc, .slice (some ⟨b, off, none⟩) N bc] (wr.alloc (.cells #[.int .i64 rk, .slice r1 r2 r3, .slice r4 r5 r6] 26))) := HI.out.go (bel_alloc _ _)
      have y0 := (HS0.out.sty).c 0
      have y1 := (HS0.out.sty).c 1
      have y2 := (HS0.out.sty).c 2
      have y3 := HS0.out.sty.frozen
      simp at y0 y1 y2
      by_cases c5 : j = 0
      case pos =>
        have e5 : ¬ (0 : Int) < (j : Int) := by omega
        have hPn : P = [] := PN.out c5
        subst hPn
        rw [if_pos c5] at HNx
        have n1 : ¬ 9223372036854775807 < 0 + X.length := by omega
        clear c5 PN
        go_wp2_with (go_at_call 38; refine (kt _ HS0.out.bel).mono ?_; rintro _ w8 ⟨rfl, gw⟩; have I8 : Hid (XZ ⟨[c], op, cl⟩ w #[.int .i64 3, .slice sa S sc, .slice (some ⟨b, off, none⟩) N bc] w8) := HS0.out.go gw; clear gw)
        go_roundw
        case rel =>
          refine ⟨j + 1, by omega, by go_num, ?_, I8⟩
          rw [HNx.out]
          apply congrArg Value.string
          apply ByteArray.ext
          simp
        case measure => simp [intOf]; omega
      case neg =>
        have e5 : (0 : Int) < (j : Int) := by omega
        rw [if_neg c5] at HNx
        have n1 : ¬ 9223372036854775807 < P.length + 1 := by omega
        have n2 : ¬ 9223372036854775807 < P.length + 1 + X.length := by omega
        clear c5 PN
        go_wp2_with (go_at_call 38; refine (kt _ HS0.out.bel).mono ?_; rintro _ w8 ⟨rfl, gw⟩; have I8 : Hid (XZ ⟨[c], op, cl⟩ w #[.int .i64 3, .slice sa S sc, .slice (some ⟨b, off, none⟩) N bc] w8) := HS0.out.go gw; clear gw)
        go_roundw
        case rel =>
          refine ⟨j + 1, by omega, by go_num, ?_, I8⟩
          rw [HNx.out]
          rw [str_lit #[124], str_app, str_app]
          simp
        case measure => simp [intOf]; omega
  have hk2 : k = 2 := by
    rcases okAlone_split hk.1 with ⟨h, _⟩ | ⟨h, _⟩ | ⟨h, _⟩ | ⟨h, _⟩
    · exact absurd h c1
    · exact h
    · exact absurd h c3
    · exact absurd h c4
  subst hk2
  have HXp : Hid (textT ⟨[c], op, cl⟩ (.mk 2 set subs) p = brX (decide (p = 2)) (Lib.join (textsT ⟨[c], op, cl⟩ subs 2) [c])) := by show _ = _; rw [HXq.out, if_neg cN, if_neg (by decide)]
  by_cases c0 : subs.length = 0 ∧ p = 2
  · obtain ⟨c0, rfl⟩ := c0
    have hs0 : subs = [] := List.length_eq_zero_iff.1 c0
    subst hs0
    rw [HXp.out]
    generalize set.length = S at *
    clear hx hm hz hk hg hg1 hg2 hS hB hT ih hlen HX HE HLenT HXq HXp cN c1 c4 hsub c0 c3
    go_enter Tryz.func38, Tryz.ntmps38
    go_wp2_with fail
    go_ret
    exact ⟨rfl, bel2 _ _ _⟩
  have c02 : p = 2 → subs.length ≠ 0 := fun h h' => c0 ⟨h', h⟩
  by_cases cz : subs.length = 0
  case pos =>
    have p2 : ¬ p = 2 := fun h => c0 ⟨cz, h⟩
    have hs0 : subs = [] := List.length_eq_zero_iff.1 cz
    subst hs0
    have f2 : ((p : Int) == 2) = false := by simp; omega
    have f3 : decide (p = 2) = false := by simp; omega
    rw [HXp.out, f3]
    generalize set.length = S at *
    clear hx hm hz hk hg hg1 hg2 hS hB hT ih hlen HX HE HLenT HXq HXp cN c1 c4 hsub c0 c3 c02 cz p2
    go_enter Tryz.func38, Tryz.ntmps38
    have HX0 : Hid (XZ ⟨[c], op, cl⟩ w #[.int .i64 2, .slice sa S sc, .slice ba 0 bc] ((w.alloc (.cells (syc ⟨[c], op, cl⟩) 66)).alloc (.cells #[.int .i64 2, .slice sa S sc, .slice ba 0 bc] 26))) := XZ.start _ _ _
    go_upto_region 11 with fail
    generalize hW : World.alloc _ _ = W0 at HX0
    clear hW
    obtain ⟨a0, a1, a2⟩ := BlkT3 HX0.out.box
    go_wp2_with fail
    clear a0 a1 a2
    go_loopw [7, 63] (fun v7 vi wr => vi = .int .i64 0 ∧ v7 = .string ⟨#[]⟩ ∧ Hid (XZ ⟨[c], op, cl⟩ w #[.int .i64 2, .slice sa S sc, .slice ba 0 bc] wr)) (fun _ _ _ => 0)
    case atStart => exact ⟨rfl, rfl, HX0⟩
    case round =>
      clear HX0
      obtain ⟨rfl, rfl, HI⟩ := hrel
      obtain ⟨a0, a1, a2⟩ := BlkT3 HI.out.box
      go_wp2_with fail
      go_ret
      exact ⟨rfl, HI.out.bel⟩
  case neg =>
    have e0 : ((subs.length : Int) == 0) = false := by simp; intro h; exact cz (by simp [h])
    have c02 : p = 2 → 0 < subs.length := fun _ => by omega
    have hjl : (Lib.join (textsT ⟨[c], op, cl⟩ subs 2) [c]).length ≤ 100000000 := by have h1 := HLenT.out p; rw [HXp.out] at h1; have h2 := (hsub p (Lib.join (textsT ⟨[c], op, cl⟩ subs 2) [c])).2; omega
    have e2 : ((subs.length : Int) == 1) = false := by simp <;> omega
    have HTL : Hid ((textsT ⟨[c], op, cl⟩ subs 2).length = subs.length) := textsT_len' _ _ _
    have HLL : Hid (∀ (j : Nat) (s : Tree), subs[j]? = some s → ∃ r, rows[j]? = some r ∧ HT w s r) := fun j s h => HTT.out.at h
    rw [HXp.out]
    generalize set.length = S at *
    obtain ⟨N, hN⟩ : ∃ N, N = subs.length := ⟨_, rfl⟩
    have HNl : Hid (N = subs.length) := hN
    have hN3 : subs.length ≤ 1000 := by omega
    rw [← hN] at HB e0 e2 HTL hN3 c0 ⊢ c02
    clear hx hm hz hk hg hg1 hg2 hS hB hT ih hlen HX HLenT HXq HXp c1 c4 hsub hN HSS HTT cN HOk
    have HJ : Hid ((Lib.join (textsT ⟨[c], op, cl⟩ subs 2) [c]).length ≤ 100000000) := hjl
    clear hjl
    have HX0 : Hid (XZ ⟨[c], op, cl⟩ w #[.int .i64 2, .slice sa S sc, .slice ba N bc] ((w.alloc (.cells (syc ⟨[c], op, cl⟩) 66)).alloc (.cells #[.int .i64 2, .slice sa S sc, .slice ba N bc] 26))) := XZ.start _ _ _
    go_enter Tryz.func38, Tryz.ntmps38
    go_upto_region 11 with fail
    generalize hW : World.alloc _ _ = W0 at HX0
    clear hW
    obtain ⟨a0, a1, a2⟩ := BlkT3 HX0.out.box
    go_wp2_with fail
    clear a0 a1 a2
    go_loopw [7, 63] (fun v7 vi wr => ∃ (j : Nat), j ≤ N ∧ vi = .int .i64 j ∧ v7 = str (Lib.join ((textsT ⟨[c], op, cl⟩ subs 2).take j) [c]) ∧ Hid (XZ ⟨[c], op, cl⟩ w #[.int .i64 2, .slice sa S sc, .slice ba N bc] wr)) (fun _ vi _ => N - (intOf vi).toNat)
    case atStart => exact ⟨0, Nat.zero_le _, rfl, rfl, HX0⟩
    case round =>
      clear HX0
      obtain ⟨j, hj, rfl, rfl, HI⟩ := hrel
      obtain ⟨a0, a1, a2⟩ := BlkT3 HI.out.box
      have dl := HI.out.box.lt
      have dl2 : w.heap.size + 1 < wr.heap.size + 1 := Nat.lt_succ_of_lt dl
      by_cases hlt : j < N
      case neg =>
        have hjN : j = N := by omega
        have hle : ¬ (j : Int) < (N : Int) := by omega
        have HEq : Hid ((textsT ⟨[c], op, cl⟩ subs 2).take j = textsT ⟨[c], op, cl⟩ subs 2) := by show _ = _; rw [List.take_of_length_le (by have := HTL.out; omega)]
        rw [HEq.out]
        have hJ := HJ.out
        clear HE
        obtain ⟨J, hJe⟩ : ∃ J, J = Lib.join (textsT ⟨[c], op, cl⟩ subs 2) [c] := ⟨_, rfl⟩
        have HJe : Hid (J = Lib.join (textsT ⟨[c], op, cl⟩ subs 2) [c]) := hJe
        rw [← hJe] at hJ ⊢
        clear hJe
        have m1 : ¬ 9223372036854775807 < 1 + J.length := by omega
        have m2 : ¬ 9223372036854775807 < 1 + J.length + 1 := by omega
        by_cases p2 : p = 2
        · subst p2
          have e0 : (0 : Int) < (N : Int) := by have := c02 rfl; omega
          go_wp2_with fail
          go_ret
          rw [← HJe.out]
          refine ⟨?_, HI.out.bel⟩
          rw [str_lit #[40], str_lit #[41], str_app, str_app]
          rfl
        · have f2 : ((p : Int) == 2) = false := by simp; omega
          have f3 : decide (p = 2) = false := by simp; omega
          by_cases c0 : N = 0
          · subst c0
            go_wp2_with fail
            go_ret
            rw [← HJe.out]
            exact ⟨rfl, HI.out.bel⟩
          · have e0 : (0 : Int) < (N : Int) := by omega
            by_cases p1 : p = 1
            · subst p1
              go_wp2_with fail
              go_ret
              rw [← HJe.out]
              exact ⟨rfl, HI.out.bel⟩
            · have f1 : ((p : Int) == 1) = false := by simp; omega
              go_wp2_with fail
              go_ret
              rw [← HJe.out]
              exact ⟨rfl, HI.out.bel⟩

      have hltI : (j : Int) < (N : Int) := by omega
      obtain ⟨s, hs⟩ : ∃ s, subs[j]? = some s := ⟨_, List.getElem?_eq_getElem (by have := HNl.out; omega)⟩
      obtain ⟨r, hr, hrt⟩ := HLL.out j s hs
      have HRt : Hid (HT w s r) := hrt
      obtain ⟨b, off, rfl, hb, q0, q1, q2⟩ := RowX.cs3 (RowX.bel HB.out HI.out.bel) hr
      have hP := Nat.le_trans (join_take_le (textsT ⟨[c], op, cl⟩ subs 2) c j) HJ.out
      have hS2 := Nat.le_trans (join_step_len (texts_at hs 2) c) HJ.out
      have HNx : Hid (Lib.join ((textsT ⟨[c], op, cl⟩ subs 2).take (j + 1)) [c] = if j = 0 then textT ⟨[c], op, cl⟩ s 2 else Lib.join ((textsT ⟨[c], op, cl⟩ subs 2).take j) [c] ++ c :: textT ⟨[c], op, cl⟩ s 2) := join_step (texts_at hs 2) c
      have kt : ∀ W, Below w.heap.size w W → Calls Tryz.prog 38 #[.agg #[str [c], str op, str cl], r.v, .int .i64 2] W fun e w' => e = .returned (str (textT ⟨[c], op, cl⟩ s 2)) ∧ Below W.heap.size W w' := fun W g => HE.out 2 s r W (by omega) (List.mem_of_getElem? hs) (HT.bel g HRt.out)
      have PN : Hid (j = 0 → Lib.join ((textsT ⟨[c], op, cl⟩ subs 2).take j) [c] = []) := by
        intro e
        rw [e]
        rfl
      clear hrt hr hs
      generalize Lib.join ((textsT ⟨[c], op, cl⟩ subs 2).take j) [c] = P at hP HNx PN ⊢
      generalize textT ⟨[c], op, cl⟩ s 2 = X at hS2 HNx kt
      obtain ⟨rk, ⟨r1, r2, r3⟩, r4, r5, r6⟩ := r
      simp only at q0 q1 q2
      have HS0 : Hid (XZ ⟨[c], op, cl⟩ w #[.int .i64 2, .slice sa S sc, .slice (some ⟨b, off, none⟩) N bc] (wr.alloc (.cells #[.int .i64 rk, .slice r1 r2 r3, .slice r4 r5 r6] 26))) := HI.out.go (bel_alloc _ _)
      have y0 := (HS0.out.sty).c 0
      have y1 := (HS0.out.sty).c 1
      have y2 := (HS0.out.sty).c 2
      have y3 := HS0.out.sty.frozen
      simp at y0 y1 y2
      by_cases c5 : j = 0
      case pos =>
        have e5 : ¬ (0 : Int) < (j : Int) := by omega
        have hPn : P = [] := PN.out c5
        subst hPn
        rw [if_pos c5] at HNx
        have n1 : ¬ 9223372036854775807 < 0 + X.length := by omega
        clear c5 PN
        go_wp2_with (go_at_call 38; refine (kt _ HS0.out.bel).mono ?_; rintro _ w8 ⟨rfl, gw⟩; have I8 : Hid (XZ ⟨[c], op, cl⟩ w #[.int .i64 2, .slice sa S sc, .slice (some ⟨b, off, none⟩) N bc] w8) := HS0.out.go gw; clear gw)
        go_roundw
        case rel =>
          refine ⟨j + 1, by omega, by go_num, ?_, I8⟩
          rw [HNx.out]
          apply congrArg Value.string
          apply ByteArray.ext
          simp
        case measure => simp [intOf]; omega
      case neg =>
        have e5 : (0 : Int) < (j : Int) := by omega
        rw [if_neg c5] at HNx
        have n1 : ¬ 9223372036854775807 < P.length + 1 := by omega
        have n2 : ¬ 9223372036854775807 < P.length + 1 + X.length := by omega
        clear c5 PN
        go_wp2_with (go_at_call 38; refine (kt _ HS0.out.bel).mono ?_; rintro _ w8 ⟨rfl, gw⟩; have I8 : Hid (XZ ⟨[c], op, cl⟩ w #[.int .i64 2, .slice sa S sc, .slice (some ⟨b, off, none⟩) N bc] w8) := HS0.out.go gw; clear gw)
        go_roundw
        case rel =>
          refine ⟨j + 1, by omega, by go_num, ?_, I8⟩
          rw [HNx.out]
          rw [str_app, str_app]
          simp
        case measure => simp [intOf]; omega

end Go.Proofs.YtnohkbdmnalmcaaGreatDoor
