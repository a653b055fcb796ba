/-
  The walks of behind and of cuts.
-/
import Derived.Test.YtdilnelfkbeamaaApp2
import Derived.Test.YtdilnelfkbeamaaW7
import Derived.Test.YtdilnelfkbeamaaMath4
import Derived.Test.YtdilnelfkbeamaaSrt
import Derived.Deep.RegionHeld3
namespace Go.Proofs.Ytdilnelfkbeamaa
open Go.RowKit

theorem wrap_pow32 (t : Nat) (ht : t ≤ 32) : IntKind.u32.wrap ((2 : Int) ^ t) = szN t % 4294967296 := by
  have : ∀ t : Fin 33, IntKind.u32.wrap ((2 : Int) ^ t.val) = szN t.val % 4294967296 := by decide +kernel
  exact this ⟨t, by omega⟩

set_option maxHeartbeats 1000000 in
theorem behind_any (a : Int) (l : Nat) (ge le : Int) (hl : l ≤ 32) (w : World) :
    Calls Try.prog 42 #[.agg #[.int .u32 a, .int .i64 l]] w fun e' w' => e' = .returned (.int .u32 (behind ⟨a, l, ge, le⟩)) ∧ Gr w w' := by
  obtain ⟨t, ht⟩ : ∃ t : Nat, (32 : Int) - l = t := ⟨32 - l, by omega⟩
  have hs := wrap_pow32 t (by omega)
  have hwt : IntKind.i64.wrap (t : Int) = t := by rw [IntKind.wrap_i64]; omega
  have hb : IntKind.u32.wrap (a + szN t % 4294967296) = behind ⟨a, l, ge, le⟩ := by
    have e : sz (l : Int) = szN t := by
      unfold sz
      rw [clampL_of (by omega) (by omega)]
      congr 1
      omega
    unfold behind
    simp only
    rw [e, IntKind.wrap_u32]
    omega
  generalize behind ⟨a, l, ge, le⟩ = B at *
  generalize szN t % 4294967296 = s at *
  obtain ⟨W, hW⟩ : ∃ W, W = w.alloc (.cells #[.int .u32 a, .int .i64 l] 25) := ⟨_, rfl⟩
  have HB : Hid (BlkP W w.heap.size a l) := by rw [hW]; exact Blk.new _ _ _
  have HW : Hid (Gr w W) := by rw [hW]; exact (Gr.refl _).alloc _
  obtain ⟨c0, c1⟩ := BlkP.cs HB.out
  go_enter Try.func42, Try.ntmps42
  go_wp2_with fail
  rw [← hW]
  clear hW
  go_region_held3 (fun w' => w'.cell? ⟨w.heap.size, 0, none⟩ = some (.int .u32 a) ∧ w'.cell? ⟨w.heap.size, 1, none⟩ = some (.int .i64 l)) (go_keep) (fail)
  go_wp2_with fail
  go_ret
  exact ⟨rfl, HW.out.drewN 1⟩

/-- One range more is looked at. -/
theorem cutsRaw_take {l : List Rg} {k : Nat} {x : Rg} (n : Int) (hx : l[k]? = some x) : cutsRaw (l.take (k + 1)) n = cutsRaw (l.take k) n ++ (if hasLen x n then [x.addr, behind x] else []) := by
  unfold cutsRaw
  rw [take_succ_of hx, List.flatMap_append]
  simp

theorem cutsRaw_len (l : List Rg) (n : Int) : (cutsRaw l n).length ≤ 1 + 2 * l.length := by
  unfold cutsRaw
  induction l with
  | nil => simp
  | cons a l ih =>
    simp only [List.flatMap_cons, List.length_cons, List.length_append] at *
    split <;> simp only [List.length_cons, List.length_nil] <;> omega

theorem Own1.bel {base : Nat} {w w' : World} {v : Value} {l : List Int} (h : Own1 base w v l) (hB : Below w.heap.size w w') : Own1 base w' v l := by
  refine ⟨h.1, ?_⟩
  rcases h.2 with h' | ⟨g, cap, cur, rfl, hb, hg, h1⟩
  · exact .inl h'
  · exact .inr ⟨g, cap, cur, rfl, hb, (hB.block g (Array.getElem?_eq_some_iff.1 hg).1).trans hg, h1⟩
theorem Own1.gr {base : Nat} {w w' : World} {v : Value} {l : List Int} (h : Own1 base w v l) (k : Gr w w') : Own1 base w' v l := h.bel k.below
theorem Own1.lt {base : Nat} {w : World} {v : Value} {l : List Int} (h : Own1 base w v l) {g : Nat} (hg : v.ownBlock = some g) : base ≤ g ∧ g < w.heap.size := World.ownsRow.lt h g hg
theorem Own1.one (w : World) (x : Int) : Own1 w.heap.size (w.alloc (.cells #[.int .u32 x] 23)) (.slice (some ⟨w.heap.size, 0, none⟩) 1 1) [x] :=
  ⟨rfl, .inr ⟨w.heap.size, 1, #[.int .u32 x], rfl, Nat.le_refl _, heap_alloc_new w _, Nat.le_refl _, by decide, rfl, rfl⟩⟩

theorem IsSet.of_perm {l l' r : List Int} (h : IsSet l' r) (p : l'.Perm l) : IsSet l r := ⟨h.1, fun x => (h.2 x).trans p.mem_iff⟩

set_option maxHeartbeats 4000000 in
theorem cuts_any (v : Value) (l : List Rg) (n : Int) (w : World) (hl : l.length ≤ 64) (hg : GoodG l) (hv : RowG w v l) :
    Calls Try.prog 34 #[v, .int .i64 n] w fun e w' => ∃ u r, e = .returned u ∧ IsSet (cutsRaw l n) r ∧ r.length ≤ 129 ∧ Own1 w.heap.size w' u r ∧ Below w.heap.size w w' := by
  obtain ⟨ao, cap, rfl⟩ := hv.form
  obtain ⟨N, hN⟩ : ∃ N : Nat, N = l.length := ⟨_, rfl⟩
  have HN : Hid (N = l.length) := hN
  have HV : Hid (RowG w (.slice ao N cap) l) := by rw [hN]; exact hv
  have HGd : Hid (GoodG l) := hg
  rw [← hN] at hl ⊢
  clear hv hg hN
  have HO0 : Hid (Own1 w.heap.size (w.alloc (.cells #[.int .u32 0] 23)) (.slice (some ⟨w.heap.size, 0, none⟩) 1 1) [0]) := Own1.one w 0
  have HB0 : Hid (Below w.heap.size w (w.alloc (.cells #[.int .u32 0] 23))) := (Below.refl _ _).alloc (Nat.le_refl _) _
  go_enter Try.func34, Try.ntmps34
  go_wp2_with fail
  go_loopw [5, 11] (fun vo vi wr => ∃ k : Nat, k ≤ N ∧ vi = .int .i64 k ∧ Hid (Own1 w.heap.size wr vo (cutsRaw (l.take k) n)) ∧ Hid (Below w.heap.size w wr)) (fun _ vi _ => N - (intOf vi).toNat)
  case atStart => exact ⟨0, Nat.zero_le _, rfl, HO0, HB0⟩
  case round =>
    obtain ⟨k, hk, rfl, HO, HB⟩ := hrel
    have HLk : Hid ((cutsRaw (l.take k) n).length ≤ 129) := by
      have h1 := cutsRaw_len (l.take k) n
      have h2 : (l.take k).length ≤ l.length := by simp; omega
      have := HN.out
      show (cutsRaw (l.take k) n).length ≤ 129
      omega
    obtain ⟨ao5, cap5, hv5⟩ := HO.out.form
    obtain ⟨n5, hn5⟩ : ∃ n5, n5 = (cutsRaw (l.take k) n).length := ⟨_, rfl⟩
    rw [← hn5] at hv5
    subst hv5
    have HN5 : Hid (n5 = (cutsRaw (l.take k) n).length) := hn5
    clear hn5 HO0 HB0
    by_cases hlt : k < N
    case neg =>
      have hk2 : l.take k = l := List.take_of_length_le (by have := HN.out; omega)
      rw [hk2] at HO HLk HN5
      clear hk2
      have ks := sort_own w.heap.size (.slice ao5 n5 cap5) (cutsRaw l n) wr (Nat.le_trans HLk.out (by decide)) HO.out
      go_wp2_with fail
      refine ks.mono ?_
      rintro _ w1 ⟨rfl, l', hp, hs, o1, g1⟩
      have B1 : Hid (Below w.heap.size w w1) := HB.out.grown g1 HB.out.size (fun k hk => (HO.out.lt hk).1)
      have hl' : l'.length ≤ 129 := by rw [hp.length_eq]; exact HLk.out
      have kc := compact_own w.heap.size (.slice ao5 n5 cap5) l' w1 (Nat.le_trans hl' (by decide)) hs o1
      have HP : Hid (l'.Perm (cutsRaw l n)) := hp
      have HL' : Hid (l'.length ≤ 129) := hl'
      have HO1 : Hid (Own1 w.heap.size w1 (.slice ao5 n5 cap5) l') := o1
      clear g1 hs o1 hp hl' ks
      go_wp2_with fail
      refine kc.mono ?_
      rintro _ w2 ⟨u, r, rfl, h1, h2, h3, h4, h5⟩
      go_wp2_with fail
      go_ret
      exact ⟨_, r, rfl, h1.of_perm HP.out, Nat.le_trans h2 HL'.out, h3, B1.out.grown h5 B1.out.size (fun k hk => (HO1.out.lt hk).1)⟩
    obtain ⟨y, hy⟩ : ∃ y, l[k]? = some y := ⟨_, List.getElem?_eq_getElem (by have := HN.out; omega)⟩
    obtain ⟨b, off, rfl, hb, d0, d1, d2, d3⟩ := (HV.out.bel HB.out).cs4 hy
    have kl := fun W => hasLength_any y.addr y.len y.ge y.le n (HGd.out.at hy) W
    have HT : Hid (cutsRaw (l.take (k + 1)) n = cutsRaw (l.take k) n ++ (if hasLen y n then [y.addr, behind y] else [])) := cutsRaw_take n hy
    have HLN : Hid (hasLen y n = true → 0 ≤ y.len ∧ y.len ≤ 32) := fun h => rightP_len (rightR_iff.1 (hasLen_iff.1 h).1).1
    obtain ⟨y0, y1, y2, y3⟩ := y
    simp only at d0 d1 d2 d3 kl
    clear hy
    obtain ⟨X, hX⟩ : ∃ X, X = cutsRaw (l.take k) n := ⟨_, rfl⟩
    rw [← hX] at HO HLk HN5 HT
    clear hX
    obtain ⟨W7, hW7⟩ : ∃ W7, W7 = wr.alloc (.cells #[.int .u32 y0, .int .i64 y1, .int .i64 y2, .int .i64 y3] 28) := ⟨_, rfl⟩
    have HY7 : Hid (BlkG W7 wr.heap.size y0 y1 y2 y3) := by rw [hW7]; exact Blk.new _ _ _
    have HG7 : Hid (Gr wr W7) := by rw [hW7]; exact (Gr.refl _).alloc _
    have HW7 : Hid (wr.alloc (.cells #[.int .u32 y0, .int .i64 y1, .int .i64 y2, .int .i64 y3] 28) = W7) := hW7.symm
    have HNE : Hid ((Value.slice ao5 n5 cap5).ownBlock ≠ some wr.heap.size) := HO.out.notAt (Nat.le_refl _)
    clear hW7
    obtain ⟨q, hq⟩ : ∃ q, q = hasLen ⟨y0, y1, y2, y3⟩ n := ⟨_, rfl⟩
    rw [← hq] at kl HT HLN
    clear hq
    go_wp2_with fail
    rw [HW7.out]
    clear HW7 d0 d1 d2 d3
    refine (kl _).mono ?_
    rintro _ w8 ⟨rfl, gw⟩
    have HG8 : Hid (Gr wr w8) := HG7.out.trans gw
    have HY8 : Hid (BlkG w8 wr.heap.size y0 y1 y2 y3) := HY7.out.gr gw
    have HO8 : Hid (Own1 w.heap.size w8 (.slice ao5 n5 cap5) X) := HO.out.gr HG8.out
    have HB8 : Hid (Below w.heap.size w w8) := HB.out.trans (HG8.out.below.mono HB.out.size)
    clear gw HG7 HY7 kl
    cases q
    case false =>
      go_wp2_with fail
      go_roundw
      case rel => exact ⟨k + 1, by omega, by go_num, by rw [HT.out, if_neg (by decide), List.append_nil]; exact HO8, HB8⟩
      case measure => simp [intOf]; omega
    obtain ⟨hl0, hl1⟩ := HLN.out rfl
    obtain ⟨Y1, rfl⟩ : ∃ Y1 : Nat, y1 = Y1 := ⟨y1.toNat, by omega⟩
    have kb := fun W => behind_any y0 Y1 y2 y3 (by omega) W
    generalize behind ⟨y0, Y1, y2, y3⟩ = Bh at *
    obtain ⟨c0, c1, c2, c3⟩ := BlkG.cs HY8.out
    go_wp2_with fail
    go_region_held3 (fun w' => w'.cell? ⟨wr.heap.size, 0, none⟩ = some (.int .u32 y0) ∧ w'.cell? ⟨wr.heap.size, 1, none⟩ = some (.int .i64 Y1)) (go_keep)
      (first
        | (go_at_call 42; (with_reducible refine (kb _).mono ?_); rintro _ w9 ⟨rfl, gw⟩; have HG9 : Hid (Gr w8 w9) := ((Gr.refl w8).drewN 1).trans gw; clear gw; obtain ⟨s0, s1, s2, s3⟩ := BlkG.cs (HY8.out.gr HG9.out); have sl := (HY8.out.gr HG9.out).lt)
        | (refine step_app2 (by rfl) _ _ (by rfl) w.heap.size (.slice ao5 n5 cap5) X (by rfl) ((HO8.out.gr HG9.out).alloc _) y0 Bh w9.heap.size (by rfl) (Blk.new _ _ _) (Nat.le_trans HLk.out (by decide)) (Nat.le_trans (Nat.le_trans HB8.out.size HG9.out.below.size) (by simp)) ?_; intro va wa owa gra; have HOa : Hid (Own1 w.heap.size wa va (X ++ [y0, Bh])) := owa; have HBa : Hid (Below w.heap.size w wa) := ((HB8.out.trans (HG9.out.below.mono HB8.out.size)).alloc (Nat.le_trans HB8.out.size HG9.out.below.size) _).grown gra (Nat.le_trans (Nat.le_trans HB8.out.size HG9.out.below.size) (by simp)) (fun k hk => (HO8.out.lt hk).1); obtain ⟨i0, i1, i2, i3⟩ := BlkG.cs (((HY8.out.gr HG9.out).alloc _).grown gra HNE.out); clear owa gra))
    go_wp2_with fail
    go_roundw
    case rel => exact ⟨k + 1, by omega, by go_num, by rw [HT.out, if_pos trivial]; exact HOa, HBa⟩
    case measure => simp [intOf]; omega

end Go.Proofs.Ytdilnelfkbeamaa
