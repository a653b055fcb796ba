/-
  The walks of without and of Flat.
-/
import Derived.Test.YtdilnelfkbeamaaW10
import Derived.Test.YtdilnelfkbeamaaMath3
namespace Go.Proofs.Ytdilnelfkbeamaa
open Go.RowKit

/-- The four cells of a row's range. -/
theorem RowX.cs4 {w : World} {ao : Option Addr} {n cap : Nat} {l : List Rg} (h : RowG w (.slice ao n cap) l) {k : Nat} {x : Rg} (hx : l[k]? = some x) :
    ∃ b off, ao = some ⟨b, off, none⟩ ∧ b < w.heap.size ∧ w.cell? ⟨b, off + k * 4, none⟩ = some (.int .u32 x.addr) ∧ w.cell? ⟨b, off + k * 4 + 1, none⟩ = some (.int .i64 x.len) ∧ w.cell? ⟨b, off + k * 4 + 2, none⟩ = some (.int .i64 x.ge) ∧ w.cell? ⟨b, off + k * 4 + 3, none⟩ = some (.int .i64 x.le) := by
  obtain ⟨b, off, e, hb, hc⟩ := h.at hx
  exact ⟨b, off, e, hb, hc 0 _ rfl, hc 1 _ rfl, hc 2 _ rfl, hc 3 _ rfl⟩

/-- The five cells of a row's entry. -/
theorem RowX.cs5 {w : World} {ao : Option Addr} {n cap : Nat} {l : List En} (h : RowE w (.slice ao n cap) l) {k : Nat} {x : En} (hx : l[k]? = some x) :
    ∃ b off, ao = some ⟨b, off, none⟩ ∧ b < w.heap.size ∧ w.cell? ⟨b, off + k * 5, none⟩ = some (.bool x.deny) ∧ w.cell? ⟨b, off + k * 5 + 1, none⟩ = some (.int .u32 x.rg.addr) ∧ w.cell? ⟨b, off + k * 5 + 2, none⟩ = some (.int .i64 x.rg.len) ∧ w.cell? ⟨b, off + k * 5 + 3, none⟩ = some (.int .i64 x.rg.ge) ∧ w.cell? ⟨b, off + k * 5 + 4, none⟩ = some (.int .i64 x.rg.le) := by
  obtain ⟨b, off, e, hb, hc⟩ := h.at hx
  exact ⟨b, off, e, hb, hc 0 _ rfl, hc 1 _ rfl, hc 2 _ rfl, hc 3 _ rfl, hc 4 _ rfl⟩

theorem flatMap_take {l : List Rg} {k : Nat} {x : Rg} (f : Rg → List Rg) (hx : l[k]? = some x) : (l.take (k + 1)).flatMap f = (l.take k).flatMap f ++ f x := by
  rw [take_succ_of hx, List.flatMap_append]
  simp

set_option maxHeartbeats 2000000 in
theorem without_any (x : Rg) (v : Value) (l : List Rg) (w : World) (hx : Num x.addr) (hg : GoodG l) (hl : l.length ≤ 1024) (hv : RowG w v l) :
    Calls Try.prog 33 #[v, gv x] w fun e w' => ∃ v', e = .returned v' ∧ OwnG w.heap.size w' v' (l.flatMap fun y => minusR y x) ∧ Below w.heap.size w w' := by
  obtain ⟨ao, cap, rfl⟩ := hv.form
  obtain ⟨x0, x1, x2, x3⟩ := x
  obtain ⟨W, hW⟩ : ∃ W, W = w.alloc (.cells #[.int .u32 x0, .int .i64 x1, .int .i64 x2, .int .i64 x3] 28) := ⟨_, rfl⟩
  have HX : Hid (BlkG W w.heap.size x0 x1 x2 x3) := by rw [hW]; exact Blk.new _ _ _
  have HG : Hid (Gr w W) := by rw [hW]; exact (Gr.refl _).alloc _
  have HS : Hid (W.heap.size = w.heap.size + 1) := by rw [hW]; simp [Hid]
  have HV : Hid (RowG W (.slice ao l.length cap) l) := hv.gr HG.out
  have HGd : Hid (GoodG l) := hg
  have HW2 : Hid (w.alloc (.cells #[.int .u32 x0, .int .i64 x1, .int .i64 x2, .int .i64 x3] 28) = W) := hW.symm
  clear hW hg hv
  go_enter Try.func33, Try.ntmps33
  go_wp2_with fail
  rw [HW2.out]
  clear HW2
  go_loopw [5, 10] (fun vo vi wr => ∃ k : Nat, k ≤ l.length ∧ vi = .int .i64 k ∧ Hid (OwnG W.heap.size wr vo ((l.take k).flatMap fun y => minusR y ⟨x0, x1, x2, x3⟩)) ∧ Hid (Below W.heap.size W wr)) (fun _ vi _ => l.length - (intOf vi).toNat)
  case atStart => exact ⟨0, Nat.zero_le _, rfl, OwnX.nil _ _ _ _ _, Below.refl _ _⟩
  case round =>
    obtain ⟨k, hk, rfl, HO, HB⟩ := hrel
    obtain ⟨ao5, cap5, hv5⟩ := HO.out.form
    have HLk : Hid (((l.take k).flatMap fun y => minusR y ⟨x0, x1, x2, x3⟩).length ≤ 900000) := by
      have h1 := flatMap_len (l := l.take k) ⟨x0, x1, x2, x3⟩
      have h2 : (l.take k).length ≤ l.length := by simp; omega
      show ((l.take k).flatMap fun y => minusR y ⟨x0, x1, x2, x3⟩).length ≤ 900000
      omega
    generalize ((l.take k).flatMap fun y => minusR y ⟨x0, x1, x2, x3⟩).length = n5 at hv5
    subst hv5
    by_cases hlt : k < l.length
    case neg =>
      have e : k = l.length := by omega
      subst e
      go_wp2_with fail
      go_ret
      refine ⟨_, rfl, ?_, HG.out.below.trans (HB.out.mono HG.out.below.size)⟩
      have := HO.out
      rw [List.take_length] at this
      exact this.lower HG.out.below.size
    obtain ⟨y, hy⟩ : ∃ y, l[k]? = some y := ⟨_, List.getElem?_eq_getElem hlt⟩
    obtain ⟨b, off, rfl, hb, d0, d1, d2, d3⟩ := (HV.out.bel HB.out).cs4 hy
    have HY : Hid (l[k]? = some y) := hy
    have HYn : Hid (Num y.addr) := HGd.out.at hy
    obtain ⟨c0, c1, c2, c3⟩ := BlkG.cs (HX.out.bel HB.out)
    have HSz : Hid (W.heap.size ≤ (wr.alloc (.cells #[.int .u32 y.addr, .int .i64 y.len, .int .i64 y.ge, .int .i64 y.le] 28)).heap.size) := by
      have := HB.out.size
      show W.heap.size ≤ (wr.alloc (.cells #[.int .u32 y.addr, .int .i64 y.len, .int .i64 y.ge, .int .i64 y.le] 28)).heap.size
      simp
      omega
    have lt0 : w.heap.size < wr.heap.size := by have := HB.out.size; have := HS.out; omega
    clear hy
    go_wp2_with (go_at_call 32; refine (addMinus_any y ⟨x0, x1, x2, x3⟩ W.heap.size _ _ _ HYn.out hx (HO.out.alloc _) HSz.out HLk.out).mono ?_; rintro e2 w2 ⟨v2, rfl, h1, h2⟩; have H1 : Hid (OwnG W.heap.size w2 v2 _) := h1; have H2 : Hid (Below W.heap.size W w2) := (HB.out.alloc HB.out.size _).trans h2; clear h1 h2)
    go_roundw
    case rel => exact ⟨k + 1, by omega, by go_num, by rw [flatMap_take _ HY.out]; exact H1, H2⟩
    case measure => simp [intOf]; omega

end Go.Proofs.Ytdilnelfkbeamaa
