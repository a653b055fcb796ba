/-
  The walks of the document's begins and Alike.
-/
import Derived.Test.YtdilnelfkbeamaaW19
import Derived.Test.YtdilnelfkbeamaaW14
import Derived.Test.YtdilnelfkbeamaaL6
import Derived.Test.YtdilnelfkbeamaaBx
namespace Go.Proofs.Ytdilnelfkbeamaa
open Go.RowKit

theorem begRaw_take {l : List Rg} {k : Nat} {x : Rg} (hx : l[k]? = some x) : begRaw (l.take (k + 1)) = begRaw (l.take k) ++ begPiece x := by
  unfold begRaw
  rw [take_succ_of hx, List.flatMap_append]
  simp

theorem begRaw_len (l : List Rg) : (begRaw l).length ≤ 1 + 2 * l.length := by
  unfold begRaw
  induction l with
  | nil => simp
  | cons a l ih =>
    have h1 : (begPiece a).length ≤ 2 := by
      unfold begPiece
      split
      · split <;> simp
      · simp
    simp only [List.flatMap_cons, List.length_cons, List.length_append] at *
    omega

set_option maxRecDepth 100000 in
set_option maxHeartbeats 8000000 in
theorem begins_any (v : Value) (l : List Rg) (w : World) (hl : l.length ≤ 64) (hg : GoodG l) (hv : RowG w v l) :
    Calls Try.prog 36 #[v] w fun e w' => ∃ u r, e = .returned u ∧ IsSet (begRaw l) r ∧ r.length ≤ 129 ∧ Own1 w.heap.size w' u r ∧ Below w.heap.size w w' := by
  obtain ⟨ao, cap, rfl⟩ := hv.form
  obtain ⟨N, hN⟩ : ∃ N : Nat, N = l.length := ⟨_, rfl⟩
  have HN : Hid (N = l.length) := hN
  have HV : Hid (RowG w (.slice ao N cap) l) := by rw [hN]; exact hv
  have HGd : Hid (GoodG l) := hg
  rw [← hN] at hl ⊢
  clear hv hg hN
  have HO0 : Hid (Own1 w.heap.size (w.alloc (.cells #[.int .u32 0] 23)) (.slice (some ⟨w.heap.size, 0, none⟩) 1 1) [0]) := Own1.one w 0
  have HB0 : Hid (Below w.heap.size w (w.alloc (.cells #[.int .u32 0] 23))) := (Below.refl _ _).alloc (Nat.le_refl _) _
  go_enter Try.func36, Try.ntmps36
  go_wp2_with fail
  go_loopw [3, 12] (fun vo vi wr => ∃ k : Nat, k ≤ N ∧ vi = .int .i64 k ∧ Hid (Own1 w.heap.size wr vo (begRaw (l.take k))) ∧ Hid (Below w.heap.size w wr)) (fun _ vi _ => N - (intOf vi).toNat)
  case atStart => exact ⟨0, Nat.zero_le _, rfl, HO0, HB0⟩
  case round =>
    obtain ⟨k, hk, rfl, HO, HB⟩ := hrel
    have HLk : Hid ((begRaw (l.take k)).length ≤ 129) := by
      have h1 := begRaw_len (l.take k)
      have h2 : (l.take k).length ≤ l.length := by simp; omega
      have := HN.out
      show (begRaw (l.take k)).length ≤ 129
      omega
    obtain ⟨ao5, cap5, hv5⟩ := HO.out.form
    obtain ⟨n5, hn5⟩ : ∃ n5, n5 = (begRaw (l.take k)).length := ⟨_, rfl⟩
    rw [← hn5] at hv5
    subst hv5
    clear hn5 HO0 HB0
    by_cases hlt : k < N
    case neg =>
      have hk2 : l.take k = l := List.take_of_length_le (by have := HN.out; omega)
      rw [hk2] at HO HLk
      clear hk2
      have ks := sorted_any (.slice ao5 n5 cap5) (begRaw l) wr (Nat.le_trans HLk.out (by decide)) (Row1.of_owns HO.out)
      go_wp2_with fail
      refine ks.mono ?_
      rintro _ w1 ⟨u, r, rfl, h1, h2, h3, h4⟩
      go_wp2_with fail
      go_ret
      exact ⟨_, r, rfl, h1, Nat.le_trans h2 HLk.out, h3.lower HB.out.size, HB.out.trans (h4.mono HB.out.size)⟩
    obtain ⟨y, hy⟩ : ∃ y, l[k]? = some y := ⟨_, List.getElem?_eq_getElem (by have := HN.out; omega)⟩
    obtain ⟨b, off, rfl, hb, d0, d1, d2, d3⟩ := (HV.out.bel HB.out).cs4 hy
    have hyn := HGd.out.at hy
    have kl := fun W => rrightR_any y.addr y.len y.ge y.le hyn W
    have HT : Hid (begRaw (l.take (k + 1)) = begRaw (l.take k) ++ begPiece y) := begRaw_take hy
    have HLN : Hid (rightR y = true → 0 ≤ y.len ∧ y.len ≤ 32) := fun h => rightP_len (rightR_iff.1 h).1
    have HBP : Hid (begPiece y = if rightR y then y.addr :: (if y.addr + sz y.len < 4294967296 then [y.addr + sz y.len] else []) else []) := rfl
    obtain ⟨y0, y1, y2, y3⟩ := y
    simp only at d0 d1 d2 d3 kl hyn
    clear hy
    obtain ⟨X, hX⟩ : ∃ X, X = begRaw (l.take k) := ⟨_, rfl⟩
    rw [← hX] at HO HLk HT
    clear hX
    obtain ⟨W7, hW7⟩ : ∃ W7, W7 = wr.alloc (.cells #[.int .u32 y0, .int .i64 y1, .int .i64 y2, .int .i64 y3] 28) := ⟨_, rfl⟩
    have HY7 : Hid (BlkG W7 wr.heap.size y0 y1 y2 y3) := by rw [hW7]; exact Blk.new _ _ _
    have HG7 : Hid (Gr wr W7) := by rw [hW7]; exact (Gr.refl _).alloc _
    have HW7 : Hid (wr.alloc (.cells #[.int .u32 y0, .int .i64 y1, .int .i64 y2, .int .i64 y3] 28) = W7) := hW7.symm
    have HNE : Hid ((Value.slice ao5 n5 cap5).ownBlock ≠ some wr.heap.size) := HO.out.notAt (Nat.le_refl _)
    clear hW7
    generalize begPiece ⟨y0, y1, y2, y3⟩ = BP at *
    generalize rightR ⟨y0, y1, y2, y3⟩ = q at *
    go_wp2_with fail
    rw [HW7.out]
    clear HW7 d0 d1 d2 d3
    refine (kl _).mono ?_
    rintro _ w8 ⟨rfl, gw⟩
    have HG8 : Hid (Gr wr w8) := HG7.out.trans gw
    have HY8 : Hid (BlkG w8 wr.heap.size y0 y1 y2 y3) := HY7.out.gr gw
    have HO8 : Hid (Own1 w.heap.size w8 (.slice ao5 n5 cap5) X) := HO.out.gr HG8.out
    have HB8 : Hid (Below w.heap.size w w8) := HB.out.trans (HG8.out.below.mono HB.out.size)
    clear gw HG7 HY7 kl
    cases q
    case false =>
      go_wp2_with fail
      go_roundw
      case rel => exact ⟨k + 1, by omega, by go_num, by rw [HT.out, HBP.out, if_neg (by decide), List.append_nil]; exact HO8, HB8⟩
      case measure => simp [intOf]; omega
    obtain ⟨hl0, hl1⟩ := HLN.out rfl
    obtain ⟨Y1, rfl⟩ : ∃ Y1 : Nat, y1 = Y1 := ⟨y1.toNat, by omega⟩
    have hsz : sz (Y1 : Int) = szN (32 - Y1) := by
      unfold sz
      rw [clampL_of (by omega) (by omega)]
      congr 1
      omega
    obtain ⟨s, hs⟩ : ∃ s, s = szN (32 - Y1) := ⟨_, rfl⟩
    have HBP2 : Hid (BP = y0 :: (if y0 + s < 4294967296 then [y0 + s] else [])) := by
      have := HBP.out
      rw [if_pos rfl] at this
      rw [hsz, ← hs] at this
      exact this
    have HSz : Hid (s = szN (32 - Y1)) := hs
    clear hsz hs HBP
    obtain ⟨c0, c1, c2, c3⟩ := BlkG.cs HY8.out
    have hY32 : Y1 ≤ 32 := by omega
    have HLk2 : Hid ((X ++ [y0]).length ≤ 1000) := by have := HLk.out; show (X ++ [y0]).length ≤ 1000; simp; omega
    have yn0 := hyn.1
    have yn1 := hyn.2
    go_wp2_with (at_builtin; refine wp_app1 rfl _ _ rfl w.heap.size (.slice ao5 n5 cap5) X rfl (HO8.out.alloc _) y0 _ rfl (by simp [go_sem]) (Nat.le_trans HLk.out (by decide)) (Nat.le_trans HB8.out.size (by simp)) ?_; intro gx cx wx hx1 hbx1 _ _ _ hoth; have HQ1 : Hid (Own1 w.heap.size wx (.slice (some ⟨gx, 0, none⟩) (X.length + 1) cx) (X ++ [y0])) := hx1; have HBQ1 : Hid (Below w.heap.size w wx) := (HB8.out.alloc HB8.out.size _).trans hbx1; clear hx1 hbx1; have HYx : Hid (BlkG wx wr.heap.size y0 Y1 y2 y3) := (hoth wr.heap.size (by have := HY8.out.lt; simp; omega) HNE.out).trans (HY8.out.alloc _); clear hoth; obtain ⟨i0, i1, i2, i3⟩ := BlkG.cs HYx.out)
    go_loop [6, 7] (fun vs vi => ∃ j : Nat, Y1 ≤ j ∧ j ≤ 32 ∧ vs = .int .u64 (szN (j - Y1)) ∧ vi = .int .i64 j) (fun _ i => 32 - (intOf i).toNat)
    case atStart => exact ⟨Y1, Nat.le_refl _, by omega, by simp [szN], rfl⟩
    case round =>
      obtain ⟨j, hj0, hj1, rfl, rfl⟩ := hrel
      by_cases hj32 : j < 32
      · obtain ⟨t, ht⟩ : ∃ t, t = szN (j - Y1) := ⟨_, rfl⟩
        have HS : Hid (szN (j + 1 - Y1) = 2 * t) := by
          show szN (j + 1 - Y1) = 2 * t
          rw [show j + 1 - Y1 = (j - Y1) + 1 by omega, szN_succ, ht]
        have u1 : 1 ≤ t := by rw [ht]; exact szN_pos _
        have u2 : t ≤ 4294967296 := by rw [ht]; exact szN_le _ (by omega)
        rw [← ht]
        clear ht
        go_wp2_with fail
        go_round
        case rel => exact ⟨j + 1, by omega, by omega, by rw [HS.out], by go_num⟩
        case measure => simp [intOf]; omega
      · have e : j = 32 := by omega
        subst e
        have s1 : 1 ≤ s := by rw [HSz.out]; exact szN_pos _
        have s2 : s ≤ 4294967296 := by rw [HSz.out]; exact szN_le _ (by omega)
        rw [← HSz.out]
        by_cases hb : y0 + s < 4294967296
        · go_wp2_with (at_builtin; refine wp_app1 rfl _ _ rfl w.heap.size (.slice (some ⟨gx, 0, none⟩) (X.length + 1) cx) (X ++ [y0]) rfl (HQ1.out.alloc _) (y0 + s) _ rfl (by simp [go_sem]) (Nat.le_trans HLk2.out (by decide)) (Nat.le_trans HBQ1.out.size (by simp)) ?_; intro gz cz wz hz1 hbz1 _ _ _ _; have HQ2 : Hid (Own1 w.heap.size wz (.slice (some ⟨gz, 0, none⟩) ((X ++ [y0]).length + 1) cz) ((X ++ [y0]) ++ [(y0 + s)])) := hz1; have HBQ2 : Hid (Below w.heap.size w wz) := (HBQ1.out.alloc HBQ1.out.size _).trans hbz1; clear hz1 hbz1)
          go_roundw
          case rel => exact ⟨k + 1, by omega, by go_num, by rw [HT.out, HBP2.out, if_pos hb]; have := HQ2.out; simp only [List.append_assoc, List.cons_append, List.nil_append, List.length_append, List.length_cons, List.length_nil] at this; exact this, HBQ2⟩
          case measure => simp [intOf]; omega
        · go_wp2_with fail
          go_roundw
          case rel => exact ⟨k + 1, by omega, by go_num, by rw [HT.out, HBP2.out, if_neg hb]; exact HQ1, HBQ1⟩
          case measure => simp [intOf]; omega

end Go.Proofs.Ytdilnelfkbeamaa
