/-
  slices.Sort's parts at uint32: breakPatterns: the numbers of the stretch are put about.
-/
import Derived.Test.YtdilnelfkbeamaaQs2
import Derived.Shelf.SlSortCmp.Xorshift
import Derived.Sort.LotD1
namespace Go.Proofs.Ytdilnelfkbeamaa
open Go.RowKit Go.Shelf
open Go.Sort (Holds putRow PermIn SortedIn ltInt swp size_swp swp_permIn permIn_refl permIn_trans xorNextN xorNextN_lt bitsLen)

/-- The call's own box of chance, beside the row. -/
structure XBx (w0 : World) (blk off : Nat) (d : Array Int) (xb X : Nat) (W : World) : Prop where
  sw : SWu w0 blk off d W
  new : w0.heap.size ≤ xb
  cell : W.cell? ⟨xb, 0, none⟩ = some (.int .u64 X)
  fz : W.frozen? ⟨xb, 0, none⟩ = false
  hi : X < 18446744073709551616

theorem XBx.start {w0 : World} {blk off : Nat} {d : Array Int} {W : World} (h : SWu w0 blk off d W) (l : Nat) (hl : l < 18446744073709551616) (T : TypeId) : XBx w0 blk off d W.heap.size l (W.alloc (.cells #[.int .u64 l] T)) :=
  ⟨h.alloc _, h.le, by simp [go_sem], by simp [go_sem], hl⟩

theorem XBx.next {w0 : World} {blk off : Nat} {d : Array Int} {xb X : Nat} {W : World} (h : XBx w0 blk off d xb X W) (n : Nat) : XBx w0 blk off d xb (xorNextN X) ((W.setCell ⟨xb, 0, none⟩ (.int .u64 (xorNextN X : Nat))).drewN n) :=
  ⟨(h.sw.setCell_new xb 0 _ h.new).drewN n, h.new, World.cell?_setCell_same _ _ _ h.cell, by show (W.setCell _ _).frozen? _ = _; rw [World.frozen?_setCell]; exact h.fz, xorNextN_lt _ h.hi⟩

theorem XBx.swapped {w0 : World} {blk off : Nat} {d d0 : Array Int} {xb X : Nat} {W : World} (h : XBx w0 blk off d xb X W) (R : RowU w0 blk off d0) (i j : Nat) (hi : i < d.size) (hj : j < d.size) :
    XBx w0 blk off (swp d i j) xb X ((W.setCell ⟨blk, off + i, none⟩ (.int .u32 d[j]!)).setCell ⟨blk, off + j, none⟩ (.int .u32 d[i]!)).drew := by
  have hb := R.hblk
  have hn := h.new
  have k := box_kept_swap1 (show xb ≠ blk by omega) h.cell h.fz (off + i) (off + j) (.int .u32 d[j]!) (.int .u32 d[i]!)
  exact ⟨h.sw.swapped R i j hi hj, h.new, k.1, k.2, h.hi⟩

set_option maxHeartbeats 2000000 in
theorem break_any (w0 : World) (blk off cap a l : Nat) (d0 d : Array Int) (W : World) (R : RowU w0 blk off d0) (hs : d.size = d0.size) (hb : a + l ≤ d.size) (hsz : d.size < 4611686018427387904) (h : SWu w0 blk off d W) :
    Calls Try.prog 50 #[.slice (some ⟨blk, off, none⟩) d.size cap, .int .i64 a, .int .i64 ((a : Int) + l)] W fun e W' =>
      e = .returned (.tuple #[]) ∧ ∃ d', PermIn a (a + l) d d' ∧ SWu w0 blk off d' W' := by
  have HS : Hid (d.size = d0.size) := hs
  clear hs
  by_cases h8 : 8 ≤ l
  · have B0 := XBx.start h l (by omega) 91
    have hnp : ∀ W, Calls Try.prog 60 #[.int .i64 l] W fun e w' => e = .returned (.int .u64 ((1 <<< bitsLen l : Nat) : Int)) ∧ w' = W := fun W => AnyF.nextPowerOfTwo Try.pow2 l (by omega) W
    obtain ⟨M, hM⟩ : ∃ M : Nat, M = 1 <<< bitsLen l := ⟨_, rfl⟩
    have hM2 : M ≤ 2 * l := by rw [hM, Nat.one_shiftLeft]; exact Go.Sort.two_pow_bitsLen_le (by omega)
    have hM0 : 0 < M := by rw [hM, Nat.one_shiftLeft]; exact Nat.two_pow_pos _
    rw [← hM] at hnp
    clear hM h
    obtain ⟨m, rfl⟩ : ∃ m, M = m + 1 := ⟨M - 1, by omega⟩
    go_enter Try.func50, Try.ntmps50
    have el : (a : Int) + l - a = l := by omega
    go_wp2_with fail
    refine (hnp _).mono ?_
    rintro e w1 ⟨rfl, rfl⟩
    go_wp2_with fail
    go_loopw [9] (fun vi wr => ∃ (p : Nat) (dk : Array Int) (X : Nat), vi = .int .i64 p ∧ a + l / 4 * 2 ≤ p + 1 ∧ p ≤ a + l / 4 * 2 + 2 ∧ dk.size = d.size ∧ PermIn a (a + l) d dk ∧ XBx w0 blk off dk W.heap.size X wr) (fun vi _ => (((a + l / 4 * 2 + 2 : Nat) : Int) - intOf vi).toNat)
    case atStart => exact ⟨a + l / 4 * 2 - 1, d, l, by congr 1; omega, by omega, by omega, rfl, permIn_refl _ _ _, B0⟩
    case round =>
      obtain ⟨p, dk, X, rfl, hpl, hpu, hsk, hP, hB⟩ := hrel
      clear B0 hnp
      by_cases ht3 : p ≤ a + l / 4 * 2 + 1
      · have hnx : Calls Try.prog 61 #[.pointer (some ⟨W.heap.size, 0, none⟩)] wr fun e w' => e = .returned (.int .u64 (xorNextN X : Nat)) ∧ w' = (wr.setCell ⟨W.heap.size, 0, none⟩ (.int .u64 (xorNextN X : Nat))).drewN 3 :=
          AnyF.xorshift_Next Try.xors W.heap.size 0 X hB.hi wr hB.cell hB.fz
        have hB' := hB.next 3
        clear hB
        generalize xorNextN X = Y at hnx hB'
        have hY := hB'.hi
        have hand : bits .and .u64 (Y : Int) (m : Int) = ((Y &&& m : Nat) : Int) := bits_and_u64_nat _ _ hY (by omega)
        have hO : Y &&& m ≤ m := Nat.and_le_right
        generalize (Y &&& m) = O at hand hO
        have HSK : Hid (dk.size = d.size) := hsk
        clear hsk
        go_wp2_with fail
        refine hnx.mono ?_
        rintro e w2 ⟨rfl, hw2⟩
        rw [← hw2] at hB'
        clear hw2 hnx
        have FIN : ∀ q : Nat, a ≤ q → q < a + l → PermIn a (a + l) d (swp dk p q) := fun q h1 h2 => permIn_trans _ _ _ _ _ hP (swp_permIn dk a (a + l) p q (by omega) (by omega) h1 h2 (by have := HSK.out; omega))
        obtain ⟨G, hG, hcw, hfw⟩ := fam R hB'.sw (HSK.out.trans HS.out)
        rw [HSK.out] at hcw hfw
        by_cases hOl : O < l
        · obtain ⟨q, hq⟩ : ∃ q : Nat, q = a + O := ⟨_, rfl⟩
          have hq' : (a : Int) + O = q := by omega
          have hql : q < a + l := by omega
          have haq : a ≤ q := by omega
          have hsw := hB'.swapped R p q (by have := HSK.out; omega) (by have := HSK.out; omega)
          rw [← hG, ← hG] at hsw
          have HP : Hid (PermIn a (a + l) d (swp dk p q)) := FIN q haq hql
          have HZ : Hid ((swp dk p q).size = d.size) := by show (swp dk p q).size = d.size; rw [size_swp]; exact HSK.out
          obtain ⟨u2, hc2⟩ := hB'.sw.c2 R (HSK.out.trans HS.out) p q (by have := HSK.out; omega) (by have := HSK.out; omega) (.int .u32 (G q))
          clear hG hP FIN hq hB'
          go_wp2_with fail
          go_region
          go_wp2_with fail
          go_roundw
          case rel => exact ⟨p + 1, swp dk p q, Y, by go_num, by omega, by omega, HZ.out, HP.out, hsw⟩
          case measure => simp [intOf]; omega
        · obtain ⟨O', hO'⟩ : ∃ O', O' = O - l := ⟨O - l, rfl⟩
          have hO2 : (O : Int) - l = O' := by omega
          obtain ⟨q, hq⟩ : ∃ q : Nat, q = a + O' := ⟨_, rfl⟩
          have hq' : (a : Int) + O' = q := by omega
          have hql : q < a + l := by omega
          have haq : a ≤ q := by omega
          have hsw := hB'.swapped R p q (by have := HSK.out; omega) (by have := HSK.out; omega)
          rw [← hG, ← hG] at hsw
          have HP : Hid (PermIn a (a + l) d (swp dk p q)) := FIN q haq hql
          have HZ : Hid ((swp dk p q).size = d.size) := by show (swp dk p q).size = d.size; rw [size_swp]; exact HSK.out
          obtain ⟨u2, hc2⟩ := hB'.sw.c2 R (HSK.out.trans HS.out) p q (by have := HSK.out; omega) (by have := HSK.out; omega) (.int .u32 (G q))
          clear hG hP FIN hq hB' hO'
          go_wp2_with fail
          go_region
          go_wp2_with fail
          go_roundw
          case rel => exact ⟨p + 1, swp dk p q, Y, by go_num, by omega, by omega, HZ.out, HP.out, hsw⟩
          case measure => simp [intOf]; omega
      · go_wp2_with fail
        go_end0
        exact ⟨rfl, dk, hP, hB.sw⟩
  · go_enter Try.func50, Try.ntmps50
    go_wp2_with fail
    go_end0
    exact ⟨rfl, d, permIn_refl _ _ _, h⟩
end Go.Proofs.Ytdilnelfkbeamaa
