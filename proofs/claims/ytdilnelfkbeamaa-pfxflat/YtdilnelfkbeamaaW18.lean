/-
  The walk of the document's Flat.
-/
import Derived.Test.YtdilnelfkbeamaaW17
import Derived.Test.YtdilnelfkbeamaaW12
import Derived.Test.YtdilnelfkbeamaaApp2
import Derived.Deep.RegionHeld3
namespace Go.Proofs.Ytdilnelfkbeamaa
open Go.RowKit

set_option maxRecDepth 100000 in
set_option maxHeartbeats 8000000 in
theorem rflat_any (v : Value) (l : List En) (w : World) (hg : GoodE l) (hl : l.length ≤ 100000) (hv : RowE w v l) :
    Calls Try.prog 23 #[v] w fun e w' => ∃ v', e = .returned (.tuple #[v', .int .i64 (flatV l).2]) ∧ OwnG w.heap.size w' v' (flatV l).1 ∧ Below w.heap.size w w' := by
  obtain ⟨ao, cap, rfl⟩ := hv.form
  have HV : Hid (RowE w (.slice ao l.length cap) l) := hv
  have HGd : Hid (GoodE l) := hg
  obtain ⟨N, hN⟩ : ∃ N : Nat, N = l.length := ⟨_, rfl⟩
  have HN : Hid (N = l.length) := hN
  rw [← hN] at HV hl ⊢
  clear hv hg hN
  have HNil : Hid (flatL (l.drop N) = some []) := by
    show flatL (l.drop N) = some []
    rw [HN.out, List.drop_length]
    rfl
  go_enter Try.func23, Try.ntmps23
  go_wp2_with fail
  go_loopw [4, 5] (fun vo vi wr => ∃ (j : Nat) (i : Int) (out : List Rg), j ≤ N ∧ Hid (i = j - 1) ∧ vi = .int .i64 i ∧ Hid (flatL (l.drop j) = some out) ∧ Hid (OwnG w.heap.size wr vo out) ∧ Hid (Below w.heap.size w wr)) (fun _ vi _ => (intOf vi + 1).toNat)
  case atStart => exact ⟨N, _, [], Nat.le_refl _, rfl, by go_num, HNil, OwnX.nil _ _ _ _ _, Below.refl _ _⟩
  case round =>
    obtain ⟨j, i, out, hj, HI, rfl, HF, HO, HB⟩ := hrel
    obtain ⟨ao4, cap4, hv4⟩ := HO.out.form
    obtain ⟨n4, hn4⟩ : ∃ n4, n4 = out.length := ⟨_, rfl⟩
    rw [← hn4] at hv4
    subst hv4
    have HN4 : Hid (n4 = out.length) := hn4
    clear hn4
    cases j with
    | zero =>
      have hi : i = -1 := by have := HI.out; omega
      subst hi
      have HFl : Hid (flatV l = (out, 0)) := by
        have := HF.out
        rw [List.drop_zero] at this
        show flatV l = (out, 0)
        unfold flatV
        rw [this]
      go_wp2_with fail
      refine bodyPost_ret (v := .tuple #[.slice ao4 n4 cap4, .int .i64 0]) (by simp [results, Try.results23, go_sem]) rfl ?_
      rw [HFl.out]
      exact ⟨_, rfl, HO.out, HB.out⟩
    | succ k =>
      have hi : i = k := by have := HI.out; omega
      subst hi
      clear HI
      obtain ⟨e, he⟩ : ∃ e, l[k]? = some e := ⟨_, List.getElem?_eq_getElem (by have := HN.out; omega)⟩
      have HE : Hid (l[k]? = some e) := he
      obtain ⟨b, off, rfl, hb, d0, d1, d2, d3, d4⟩ := (HV.out.bel HB.out).cs5 he
      have HEn : Hid (Num e.rg.addr) := HGd.out.at he
      have hf := flatL_facts (fun x hx => HGd.out x (List.mem_of_mem_drop hx)) HF.out
      have hn1024 : n4 ≤ 1024 := by have := HN4.out; have := hf.1; omega
      have HOG : Hid (GoodG out) := hf.2.1
      have HOR : Hid (∀ x ∈ out, rightR x = true) := hf.2.2
      have HFS : Hid (flatL (l.drop k) = if 1024 < (stepF out e).length then none else some (stepF out e)) := flatL_step HE.out HF.out
      have kr := fun W => rrightR_any e.rg.addr e.rg.len e.rg.ge e.rg.le HEn.out W
      clear he hf HNil
      obtain ⟨dn, g0, g1, g2, g3⟩ := e
      simp only at d0 d1 d2 d3 d4 kr
      obtain ⟨q, hq⟩ : ∃ q, q = rightR ⟨g0, g1, g2, g3⟩ := ⟨_, rfl⟩
      rw [← hq] at kr
      have HQ : Hid (q = rightR ⟨g0, g1, g2, g3⟩) := hq
      clear hq
      cases q
      case false =>
        have HW : Hid (flatL (l.drop k) = some out) := by
          have h1 := HFS.out
          rw [stepF_wrong HOR.out HQ.out.symm] at h1
          rw [if_neg (by have := HN4.out; omega)] at h1
          exact h1
        go_wp2_with (go_at_call 12; refine (kr _).mono ?_; rintro _ w1 ⟨rfl, gw⟩; have G1 : Hid (Gr wr w1) := gw; clear gw)
        go_roundw
        case rel => exact ⟨k, (k : Int) - 1, out, by omega, rfl, by go_num, HW, HO.out.gr G1.out, HB.out.trans (G1.out.below.mono HB.out.size)⟩
        case measure => simp [intOf]
      have HST : Hid (stepF out ⟨dn, g0, g1, g2, g3⟩ = (out.flatMap fun y => minusR y ⟨g0, g1, g2, g3⟩) ++ (if !dn then [⟨g0, g1, g2, g3⟩] else [])) := by
        show (out.flatMap fun y => minusR y ⟨g0, g1, g2, g3⟩) ++ (if !dn && rightR ⟨g0, g1, g2, g3⟩ then [⟨g0, g1, g2, g3⟩] else []) = _
        rw [← HQ.out, Bool.and_true]
      go_wp2_with fail
      refine (kr _).mono ?_
      rintro _ w1 ⟨rfl, gw⟩
      have BW1 : Hid (Below w.heap.size w w1) := HB.out.trans (gw.below.mono HB.out.size)
      have HO1 : Hid (OwnG w.heap.size w1 (.slice ao4 n4 cap4) out) := HO.out.gr gw
      clear gw d0 d1 d2 d3 d4 kr hb HO HB
      go_wp2_with fail
      go_loopw [6, 25] (fun v6 vi wq => ∃ t : Nat, t ≤ n4 ∧ vi = .int .i64 t ∧ Hid (OwnG w1.heap.size wq v6 ((out.take t).flatMap fun y => minusR y ⟨g0, g1, g2, g3⟩)) ∧ Hid (Below w1.heap.size w1 wq)) (fun _ vi _ => n4 - (intOf vi).toNat)
      case atStart => exact ⟨0, Nat.zero_le _, rfl, OwnX.nil _ _ _ _ _, Below.refl _ _⟩
      case round =>
        obtain ⟨t, ht, rfl, HO6, HB6⟩ := hrel
        have HL6 : Hid (((out.take t).flatMap fun y => minusR y ⟨g0, g1, g2, g3⟩).length ≤ 900000) := by
          have h1 := flatMap_len (l := out.take t) ⟨g0, g1, g2, g3⟩
          have h2 : (out.take t).length ≤ out.length := by simp; omega
          have := HN4.out
          show ((out.take t).flatMap fun y => minusR y ⟨g0, g1, g2, g3⟩).length ≤ 900000
          omega
        obtain ⟨ao6, cap6, hv6⟩ := HO6.out.form
        obtain ⟨n6, hn6⟩ : ∃ n6, n6 = ((out.take t).flatMap fun y => minusR y ⟨g0, g1, g2, g3⟩).length := ⟨_, rfl⟩
        rw [← hn6] at hv6
        subst hv6
        have HN6 : Hid (n6 = ((out.take t).flatMap fun y => minusR y ⟨g0, g1, g2, g3⟩).length) := hn6
        clear hn6
        have HBW : Hid (Below w.heap.size w wr) := BW1.out.trans (HB6.out.mono BW1.out.size)
        obtain ⟨hbl, e0, e1, e2, e3, e4⟩ := (HV.out.bel HBW.out).cs5' HE.out
        simp only at e0 e1 e2 e3 e4
        by_cases hlt : t < n4
        case neg =>
          have ht2 : out.take t = out := List.take_of_length_le (by have := HN4.out; omega)
          rw [ht2] at HO6 HL6 HN6
          clear ht2
          generalize (out.flatMap fun y => minusR y ⟨g0, g1, g2, g3⟩) = X at *
          obtain ⟨n7, hn7⟩ : ∃ n7, X.length + 1 = n7 := ⟨_, rfl⟩
          have HN7 : Hid (X.length + 1 = n7) := hn7
          clear hn7
          cases dn
          case true =>
            by_cases h1024 : (1024 : Int) < n6
            · go_wp2_with fail
              refine bodyPost_ret (v := .tuple #[.slice none 0 0, .int .i64 6]) (by simp [results, Try.results23, go_sem]) rfl ?_
              have HFl : flatV l = ([], 6) := by
                have h1 := HFS.out
                rw [HST.out] at h1
                simp only [Bool.not_true, Bool.false_eq_true, if_false] at h1
                rw [if_pos (by have := HN6.out; simp; omega)] at h1
                unfold flatV
                rw [flatL_drop k l h1]
              rw [HFl]
              exact ⟨_, rfl, OwnX.nil _ _ _ _ _, HBW.out⟩
            · go_wp2_with fail
              go_roundw
              case rel =>
                refine ⟨k, (k : Int) - 1, X, by omega, rfl, by go_num, ?_, HO6.out.lower BW1.out.size, HBW⟩
                have h1 := HFS.out
                rw [HST.out] at h1
                simp only [Bool.not_true, Bool.false_eq_true, if_false] at h1
                rw [if_neg (by have := HN6.out; simp; omega)] at h1
                simpa [Hid] using h1
              case measure => simp [intOf]
          case false =>
            by_cases h1024 : (1024 : Int) < n7
            · go_wp2_with (at_builtin; refine wp_appG rfl _ _ rfl w1.heap.size (.slice ao6 n6 cap6) X rfl (HO6.out.alloc _) ⟨g0, g1, g2, g3⟩ _ rfl (Blk.new' _ _ _ _ (by simp)) (Nat.le_trans HL6.out (by decide)) (Nat.le_trans HB6.out.size (by simp)) ?_; intro gb capb w9 how9 hgr9 _ _; have HO9 : Hid (OwnG w1.heap.size w9 (.slice (some ⟨gb, 0, none⟩) (X.length + 1) capb) (X ++ [⟨g0, g1, g2, g3⟩])) := how9; have HB9 : Hid (Below w1.heap.size w1 w9) := (HB6.out.alloc HB6.out.size _).grown hgr9 (Nat.le_trans HB6.out.size (by simp)) (fun k hk => (HO6.out.lt hk).1); clear how9 hgr9; rw [HN7.out] at HO9 ⊢)
              refine bodyPost_ret (v := .tuple #[.slice none 0 0, .int .i64 6]) (by simp [results, Try.results23, go_sem]) rfl ?_
              have HFl : flatV l = ([], 6) := by
                have h1 := HFS.out
                rw [HST.out] at h1
                simp only [Bool.not_false, if_true] at h1
                rw [if_pos (by have := HN7.out; simp; omega)] at h1
                unfold flatV
                rw [flatL_drop k l h1]
              rw [HFl]
              exact ⟨_, rfl, OwnX.nil _ _ _ _ _, BW1.out.trans (HB9.out.mono BW1.out.size)⟩
            · go_wp2_with (at_builtin; refine wp_appG rfl _ _ rfl w1.heap.size (.slice ao6 n6 cap6) X rfl (HO6.out.alloc _) ⟨g0, g1, g2, g3⟩ _ rfl (Blk.new' _ _ _ _ (by simp)) (Nat.le_trans HL6.out (by decide)) (Nat.le_trans HB6.out.size (by simp)) ?_; intro gb capb w9 how9 hgr9 _ _; have HO9 : Hid (OwnG w1.heap.size w9 (.slice (some ⟨gb, 0, none⟩) (X.length + 1) capb) (X ++ [⟨g0, g1, g2, g3⟩])) := how9; have HB9 : Hid (Below w1.heap.size w1 w9) := (HB6.out.alloc HB6.out.size _).grown hgr9 (Nat.le_trans HB6.out.size (by simp)) (fun k hk => (HO6.out.lt hk).1); clear how9 hgr9; rw [HN7.out] at HO9 ⊢)
              go_roundw
              case rel =>
                refine ⟨k, (k : Int) - 1, X ++ [(⟨g0, g1, g2, g3⟩ : Rg)], by omega, rfl, by go_num, ?_, HO9.out.lower BW1.out.size, BW1.out.trans (HB9.out.mono BW1.out.size)⟩
                have h1 := HFS.out
                rw [HST.out] at h1
                simp only [Bool.not_false, if_true] at h1
                rw [if_neg (by have := HN7.out; simp; omega)] at h1
                exact h1
              case measure => simp [intOf]
        obtain ⟨y, hy⟩ : ∃ y, out[t]? = some y := ⟨_, List.getElem?_eq_getElem (by have := HN4.out; omega)⟩
        obtain ⟨b5, off5, rfl, hb5, p0, p1, p2, p3⟩ := ((HO1.out.row encG_len).bel HB6.out).cs4 hy
        have km := fun W => rminus_any y ⟨g0, g1, g2, g3⟩ (HOG.out.at hy) HEn.out W
        have HTK : Hid (((out.take (t + 1)).flatMap fun y => minusR y ⟨g0, g1, g2, g3⟩) = ((out.take t).flatMap fun y => minusR y ⟨g0, g1, g2, g3⟩) ++ minusR y ⟨g0, g1, g2, g3⟩) := flatMap_take _ hy
        have HML : Hid ((minusR y ⟨g0, g1, g2, g3⟩).length ≤ 34) := minusR_len _ _
        obtain ⟨y0, y1, y2, y3⟩ := y
        simp only at p0 p1 p2 p3
        obtain ⟨W7, hW7⟩ : ∃ W7, W7 = wr.alloc (.cells #[.int .u32 y0, .int .i64 y1, .int .i64 y2, .int .i64 y3] 28) := ⟨_, rfl⟩
        have HY7 : Hid (BlkG W7 wr.heap.size y0 y1 y2 y3) := by rw [hW7]; exact Blk.new _ _ _
        have HG7 : Hid (Gr wr W7) := by rw [hW7]; exact (Gr.refl _).alloc _
        have HW7 : Hid (wr.alloc (.cells #[.int .u32 y0, .int .i64 y1, .int .i64 y2, .int .i64 y3] 28) = W7) := hW7.symm
        have HO7 : Hid (OwnG w1.heap.size W7 (.slice ao6 n6 cap6) ((out.take t).flatMap fun y => minusR y ⟨g0, g1, g2, g3⟩)) := HO6.out.gr HG7.out
        have HB7 : Hid (Below w1.heap.size w1 W7) := HB6.out.trans (HG7.out.below.mono HB6.out.size)
        have HNE : Hid ((Value.slice ao6 n6 cap6).ownBlock ≠ some wr.heap.size) := HO6.out.notAt (Nat.le_refl _)
        clear hW7 hy
        generalize minusR ⟨y0, y1, y2, y3⟩ ⟨g0, g1, g2, g3⟩ = R at *
        generalize ((out.take t).flatMap fun y => minusR y ⟨g0, g1, g2, g3⟩) = X at *
        go_wp2_with fail
        rw [HW7.out]
        clear HW7 p0 p1 p2 p3 hb5 e0 e1 e2 e3 e4 hbl
        obtain ⟨hbl, e0, e1, e2, e3, e4⟩ := (HV.out.bel (BW1.out.trans (HB7.out.mono BW1.out.size))).cs5' HE.out
        simp only at e0 e1 e2 e3 e4
        obtain ⟨c0, c1, c2, c3⟩ := BlkG.cs HY7.out
        have hk0 : (0 : Int) ≤ (k : Int) := by omega
        have hkN : (k : Int) < (N : Int) := by omega
        go_region_held3 (fun w' => w'.cell? ⟨wr.heap.size, 0, none⟩ = some (.int .u32 y0) ∧ w'.cell? ⟨wr.heap.size, 1, none⟩ = some (.int .i64 y1) ∧ w'.cell? ⟨wr.heap.size, 2, none⟩ = some (.int .i64 y2) ∧ w'.cell? ⟨wr.heap.size, 3, none⟩ = some (.int .i64 y3) ∧ w'.cell? ⟨b, off + k * 5 + 1, none⟩ = some (.int .u32 g0) ∧ w'.cell? ⟨b, off + k * 5 + 2, none⟩ = some (.int .i64 g1) ∧ w'.cell? ⟨b, off + k * 5 + 3, none⟩ = some (.int .i64 g2) ∧ w'.cell? ⟨b, off + k * 5 + 4, none⟩ = some (.int .i64 g3)) (go_keep)
          (first
            | (go_at_call 21; (with_reducible refine (km _).mono ?_); rintro _ w8 ⟨v8, rfl, o8, bb⟩; have BB8 : Hid (Below W7.heap.size W7 w8) := ⟨bb.os, bb.tape, bb.output, bb.size, bb.block⟩; have R8 : Hid (RowG w8 v8 R) := o8.row encG_len; clear bb o8; obtain ⟨s0, s1, s2, s3⟩ := BlkG.cs (HY7.out.bel BB8.out); obtain ⟨hb8, t0, t1, t2, t3, t4⟩ := (HV.out.bel (bstep (BW1.out.trans (HB7.out.mono BW1.out.size)) BB8.out)).cs5' HE.out; simp only at t0 t1 t2 t3 t4)
            | (refine step_appGall (by rfl) _ _ (by rfl) w1.heap.size (.slice ao6 n6 cap6) X (by rfl) (HO7.out.bel BB8.out) v8 R (by rfl) R8.out (by have := HL6.out; have := HML.out; omega) (Nat.le_trans HB7.out.size BB8.out.size) ?_; intro v9 w9 ow9 gr9; have HO9 : Hid (OwnG w1.heap.size w9 v9 (X ++ R)) := ow9; have HB9 : Hid (Below w1.heap.size w1 w9) := (HB7.out.trans (BB8.out.mono HB7.out.size)).grown gr9 (Nat.le_trans HB7.out.size BB8.out.size) (fun k hk => (HO7.out.lt hk).1); obtain ⟨i0, i1, i2, i3⟩ := BlkG.cs ((HY7.out.bel BB8.out).grown gr9 HNE.out); obtain ⟨hb9, j0, j1, j2, j3, j4⟩ := (HV.out.bel (BW1.out.trans (HB9.out.mono BW1.out.size))).cs5' HE.out; simp only at j0 j1 j2 j3 j4; clear ow9 gr9))
        go_wp2_with fail
        go_roundw
        case rel => exact ⟨t + 1, by omega, by go_num, by rw [HTK.out]; exact HO9, HB9⟩
        case measure => simp [intOf]; omega

end Go.Proofs.Ytdilnelfkbeamaa
