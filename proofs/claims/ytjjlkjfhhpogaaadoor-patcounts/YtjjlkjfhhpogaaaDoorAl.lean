/-
  The walk of alive: the document's examples hold.
-/
import Derived.Test.YtjjlkjfhhpogaaaDoorAm
import Derived.Test.YtjjlkjfhhpogaaaDoorTi
namespace Go.Proofs.YtjjlkjfhhpogaaaDoor
open Go.RowKit

set_option maxRecDepth 100000 in
set_option maxHeartbeats 1000000 in
theorem five_any (w : World) : Calls Tryd.prog 39 #[] w fun e w' => PostC fiveT w e w' := by
  go_enter Tryd.func39, Tryd.ntmps39
  go_wp2_with fail
  refine bodyPost_ret (v := PC.v ⟨1, ⟨some ⟨w.heap.size + 1, 0, none⟩, 1, 1⟩, ⟨none, 0, 0⟩⟩) ?_ rfl ⟨_, rfl, HO_one (Blk.new' _ _ _ _ (by simp)) rfl ⟨by omega, by simp⟩, ((Below.refl _ _).alloc (Nat.le_refl _) _).alloc (by simp) _⟩
  simp [results, Tryd.results39]
  exact run_ptv (x := ⟨1, ⟨some ⟨w.heap.size + 1, 0, none⟩, 1, 1⟩, ⟨none, 0, 0⟩⟩) ((Blk.new _ _ _).alloc _)



theorem row_lit {w : World} {b n : Nat} {l : List Int} {cs : Array Value} (hb : Blk w b cs 43) (hcs : cs.toList = cellsOf encN l) (hn : l.length = n) (hl : n ≤ 1000) : RowN w (.slice (some ⟨b, 0, none⟩) n n) l := by
  subst hn
  exact (OwnX.lit (t := 43) (base := 0) encN_len hb hcs (Nat.zero_le _) hl).row encN_len

theorem match_lit {t : Tree} {x : PC} {l : List Int} {b n : Nat} {W : World} {cs : Array Value} (hok : okT t) (hx : HT W t x) (hT : Tab W) (hb : Blk W b cs 43) (hcs : cs.toList = cellsOf encN l) (hn : l.length = n) (hl : n ≤ 1000) :
    Calls Tryd.prog 19 #[x.v, .slice (some ⟨b, 0, none⟩) n n] W fun e w' => (∃ q : Bool, e = .returned (.bool q) ∧ (q = true ↔ matchP t l)) ∧ Gr W w' :=
  match_any t x _ l W hok hx (row_lit hb hcs hn hl) hT (by omega)

theorem ok_five : okT fiveT := (okT_mk _ _ _).2 ⟨by simp, by simp, okL_nil.2 trivial⟩
theorem ok_any : okT anyT := (okT_mk _ _ _).2 ⟨by simp, by simp, okL_nil.2 trivial⟩
theorem ok_ex : okT exT := (okT_mk _ _ _).2 ⟨by simp, by simp, (okL_cons _ _).2 ⟨ok_five, (okL_cons _ _).2 ⟨okT_star ok_any, okL_nil.2 trivial⟩⟩⟩
theorem ok_oneTwo : okT oneTwo := okT_row ok_five (by omega) (by omega) false
theorem ok_none (k : Int) : okT (.mk k [] []) := (okT_mk _ _ _).2 ⟨by simp, by simp, okL_nil.2 trivial⟩

theorem bool_false {q : Bool} {p : Prop} (h : q = true ↔ p) (hp : ¬ p) : q = false := by
  cases q
  · rfl
  · exact absurd (h.1 rfl) hp

/-- Between the examples. -/
structure AV (w : World) (b1 : Nat) (px : PC) (b2 : Nat) (tx : PC) (W : World) : Prop where
  bel : Below w.heap.size w W
  hp : HT W exT px
  ht : HT W oneTwo tx
  p1 : Blk W b1 (encT px).toArray 25
  p2 : Blk W b2 (encT tx).toArray 25
  tab : Tab W
theorem AV.go {w : World} {b1 : Nat} {px : PC} {b2 : Nat} {tx : PC} {W W' : World} (h : AV w b1 px b2 tx W) (g : Below W.heap.size W W') : AV w b1 px b2 tx W' :=
  ⟨bstep h.bel g, HT.bel g h.hp, HT.bel g h.ht, h.p1.bel g, h.p2.bel g, h.tab.bel g⟩

set_option maxRecDepth 100000 in
set_option maxHeartbeats 8000000 in
theorem alive_any (w : World) (hT : Tab w) : Calls Tryd.prog 14 #[] w fun e w' => e = .returned (.bool true) ∧ Below w.heap.size w w' := by
  have k5 := fun W => five_any W
  have ka := fun W => any_any W
  have kt := fun x W h => times_any fiveT x 1 2 W ok_five h (by omega) (by omega)
  rw [times_five] at kt
  have HTb : Hid (Tab w) := hT
  clear hT
  go_enter Tryd.func14, Tryd.ntmps14
  go_upto_region 2 with (first
    | (go_at_call 39; refine (k5 _).mono ?_; rintro _ w1 ⟨⟨f0, ⟨f1, f2, f3⟩, f4, f5, f6⟩, rfl, ho1, bb1⟩; have H1 : Hid (HO (fun g => 0 ≤ g ∧ g < w1.heap.size) w1 fiveT ⟨f0, ⟨f1, f2, f3⟩, ⟨f4, f5, f6⟩⟩) := ho1.low (Nat.zero_le _); have B1 : Hid (Below w.heap.size w w1) := bb1; clear ho1 bb1)
    | (go_at_call 29; refine (ka _).mono ?_; rintro _ w2 ⟨⟨a0, ⟨a1, a2, a3⟩, a4, a5, a6⟩, rfl, ho2, bb2⟩; have H2 : Hid (HO (fun g => 0 ≤ g ∧ g < w2.heap.size) w2 anyT ⟨a0, ⟨a1, a2, a3⟩, ⟨a4, a5, a6⟩⟩) := ho2.low (Nat.zero_le _); have B2 : Hid (Below w1.heap.size w1 w2) := bb2; clear ho2 bb2))
  generalize hW3 : World.alloc _ _ = W3
  have HP3 : Hid (HT W3 exT ⟨2, ⟨none, 0, 0⟩, ⟨some ⟨w2.heap.size + 1, 0, none⟩, 2, 2⟩⟩) := by
    rw [← hW3]
    refine HT.bel (bel_alloc _ _) (HO.held (HO_sub2 (P := fun g => 0 ≤ g ∧ g < ((w2.alloc (.cells #[.int .i64 a0, .slice a1 a2 a3, .slice a4 a5 a6] 25)).alloc _).heap.size) (((H1.out.bel B2.out).bel (bel_alloc _ _)).bel (bel_alloc _ _)) ((HO_sub1 (k := 4) (H2.out.bel (bel_alloc _ _)) (Blk.new _ _ _) rfl ⟨Nat.zero_le _, by simp⟩).bel (bel_alloc _ _)) (Blk.new' _ _ _ _ (by simp)) rfl ⟨Nat.zero_le _, by simp⟩))
  have HB3 : Hid (Below w.heap.size w W3) := by
    rw [← hW3]
    exact bstep (bstep (bstep (bstep B1.out B2.out) (bel_alloc _ _)) (bel_alloc _ _)) (bel_alloc _ _)
  have HQ3 : Hid (Blk W3 (w2.heap.size + 1 + 1) (encT ⟨2, ⟨none, 0, 0⟩, ⟨some ⟨w2.heap.size + 1, 0, none⟩, 2, 2⟩⟩).toArray 25) := by
    rw [← hW3]
    exact Blk.new' _ _ _ _ (by simp)
  clear hW3 H1 H2 B1 B2 ka
  go_upto_region 3 with (first
    | (go_at_call 39; refine (k5 _).mono ?_; rintro _ w4 ⟨⟨g0, ⟨g1, g2, g3⟩, g4, g5, g6⟩, rfl, ho4, bb4⟩; have H4 : Hid (HT w4 fiveT ⟨g0, ⟨g1, g2, g3⟩, g4, g5, g6⟩) := ho4.held; have B4 : Hid (Below W3.heap.size W3 w4) := bb4; clear ho4 bb4)
    | (go_at_call 26; refine (kt _ _ H4.out).mono ?_; rintro _ w5 ⟨⟨t0, ⟨t1, t2, t3⟩, t4, t5, t6⟩, rfl, ho5, bb5⟩; have H5 : Hid (HT w5 oneTwo ⟨t0, ⟨t1, t2, t3⟩, ⟨t4, t5, t6⟩⟩) := ho5.held; have B5 : Hid (Below w4.heap.size w4 w5) := bb5; clear ho5 bb5))
  generalize hW6 : World.alloc _ _ = W6
  have V6 : Hid (AV w (w2.heap.size + 1 + 1) ⟨2, ⟨none, 0, 0⟩, ⟨some ⟨w2.heap.size + 1, 0, none⟩, 2, 2⟩⟩ w5.heap.size ⟨t0, ⟨t1, t2, t3⟩, ⟨t4, t5, t6⟩⟩ W6) := by
    have b35 : Below W3.heap.size W3 W6 := by rw [← hW6]; exact bstep (bstep B4.out B5.out) (bel_alloc _ _)
    exact ⟨bstep HB3.out b35, HT.bel b35 HP3.out, by rw [← hW6]; exact HT.bel (bel_alloc _ _) H5.out, HQ3.out.bel b35, by rw [← hW6]; exact Blk.new _ _ _, HTb.out.bel (bstep HB3.out b35)⟩
  clear hW6 HP3 HB3 HQ3 H4 B4 H5 B5 k5 kt
  obtain ⟨c60, c61, c62⟩ := BlkT.cs V6.out.p1
  simp only at c60 c61 c62
  have km1 : ∀ W, HT W exT ⟨2, ⟨none, 0, 0⟩, ⟨some ⟨w2.heap.size + 1, 0, none⟩, 2, 2⟩⟩ → Tab W → Calls Tryd.prog 19 #[PC.v ⟨2, ⟨none, 0, 0⟩, ⟨some ⟨w2.heap.size + 1, 0, none⟩, 2, 2⟩⟩, .slice (some ⟨W.heap.size, 0, none⟩) 1 1] (W.alloc (.cells #[.int .u32 5] 43)) fun e w' => (∃ q : Bool, e = .returned (.bool q) ∧ (q = true ↔ matchP exT [5])) ∧ Gr (W.alloc (.cells #[.int .u32 5] 43)) w' := fun W h1 h2 => match_lit (l := [5]) ok_ex (HT.bel (bel_alloc _ _) h1) (h2.bel (bel_alloc _ _)) (Blk.new _ _ _) rfl rfl (by omega)
  have km2 : ∀ W, HT W exT ⟨2, ⟨none, 0, 0⟩, ⟨some ⟨w2.heap.size + 1, 0, none⟩, 2, 2⟩⟩ → Tab W → Calls Tryd.prog 19 #[PC.v ⟨2, ⟨none, 0, 0⟩, ⟨some ⟨w2.heap.size + 1, 0, none⟩, 2, 2⟩⟩, .slice (some ⟨W.heap.size, 0, none⟩) 3 3] (W.alloc (.cells #[.int .u32 5, .int .u32 7, .int .u32 9] 43)) fun e w' => (∃ q : Bool, e = .returned (.bool q) ∧ (q = true ↔ matchP exT [5, 7, 9])) ∧ Gr (W.alloc (.cells #[.int .u32 5, .int .u32 7, .int .u32 9] 43)) w' := fun W h1 h2 => match_lit (l := [5, 7, 9]) ok_ex (HT.bel (bel_alloc _ _) h1) (h2.bel (bel_alloc _ _)) (Blk.new _ _ _) rfl rfl (by omega)
  have km3 : ∀ W, HT W exT ⟨2, ⟨none, 0, 0⟩, ⟨some ⟨w2.heap.size + 1, 0, none⟩, 2, 2⟩⟩ → Tab W → Calls Tryd.prog 19 #[PC.v ⟨2, ⟨none, 0, 0⟩, ⟨some ⟨w2.heap.size + 1, 0, none⟩, 2, 2⟩⟩, .slice (some ⟨W.heap.size, 0, none⟩) 1 1] (W.alloc (.cells #[.int .u32 7] 43)) fun e w' => (∃ q : Bool, e = .returned (.bool q) ∧ (q = true ↔ matchP exT [7])) ∧ Gr (W.alloc (.cells #[.int .u32 7] 43)) w' := fun W h1 h2 => match_lit (l := [7]) ok_ex (HT.bel (bel_alloc _ _) h1) (h2.bel (bel_alloc _ _)) (Blk.new _ _ _) rfl rfl (by omega)
  have km6 : ∀ W, HT W oneTwo ⟨t0, ⟨t1, t2, t3⟩, ⟨t4, t5, t6⟩⟩ → Tab W → Calls Tryd.prog 19 #[PC.v ⟨t0, ⟨t1, t2, t3⟩, ⟨t4, t5, t6⟩⟩, .slice (some ⟨W.heap.size, 0, none⟩) 2 2] (W.alloc (.cells #[.int .u32 5, .int .u32 5] 43)) fun e w' => (∃ q : Bool, e = .returned (.bool q) ∧ (q = true ↔ matchP oneTwo [5, 5])) ∧ Gr (W.alloc (.cells #[.int .u32 5, .int .u32 5] 43)) w' := fun W h1 h2 => match_lit (l := [5, 5]) ok_oneTwo (HT.bel (bel_alloc _ _) h1) (h2.bel (bel_alloc _ _)) (Blk.new _ _ _) rfl rfl (by omega)
  have km7 : ∀ W, HT W oneTwo ⟨t0, ⟨t1, t2, t3⟩, ⟨t4, t5, t6⟩⟩ → Tab W → Calls Tryd.prog 19 #[PC.v ⟨t0, ⟨t1, t2, t3⟩, ⟨t4, t5, t6⟩⟩, .slice none 0 0] W fun e w' => (∃ q : Bool, e = .returned (.bool q) ∧ (q = true ↔ matchP oneTwo [])) ∧ Gr W w' := fun W h1 h2 => match_any oneTwo _ _ [] W ok_oneTwo h1 (RowX.nil _ _ _) h2 (by simp)
  have kr : ∀ W, HT W exT ⟨2, ⟨none, 0, 0⟩, ⟨some ⟨w2.heap.size + 1, 0, none⟩, 2, 2⟩⟩ → Calls Tryd.prog 17 #[PC.v ⟨2, ⟨none, 0, 0⟩, ⟨some ⟨w2.heap.size + 1, 0, none⟩, 2, 2⟩⟩] W fun e w' => e = .returned (.bool true) ∧ Gr W w' := fun W h => by have := right_any exT ⟨2, ⟨none, 0, 0⟩, ⟨some ⟨w2.heap.size + 1, 0, none⟩, 2, 2⟩⟩ W ok_ex h; rw [right_ex] at this; exact this
  have km4 : ∀ W, Tab W → Calls Tryd.prog 21 #[.agg #[.int .i64 3, .slice none 0 0, .slice none 0 0]] W fun e w' => (∃ q : Bool, e = .returned (.bool q) ∧ (q = true ↔ matchP (.mk 3 [] []) [])) ∧ Gr W w' := fun W h => empty_any (.mk 3 [] []) ⟨3, ⟨none, 0, 0⟩, ⟨none, 0, 0⟩⟩ W (ok_none 3) (HO_none (P := fun _ => True) 3).held h
  have km5 : ∀ W, Tab W → Calls Tryd.prog 21 #[.agg #[.int .i64 2, .slice none 0 0, .slice none 0 0]] W fun e w' => (∃ q : Bool, e = .returned (.bool q) ∧ (q = true ↔ matchP (.mk 2 [] []) [])) ∧ Gr W w' := fun W h => empty_any (.mk 2 [] []) ⟨2, ⟨none, 0, 0⟩, ⟨none, 0, 0⟩⟩ W (ok_none 2) (HO_none (P := fun _ => True) 2).held h
  go_wp2_with (first
    | (go_at_call 19; (with_reducible refine (km7 _ V13.out.ht V13.out.tab).mono ?_); rintro _ w14 ⟨⟨q, rfl, hq⟩, gw⟩; have hqt : q = false := bool_false hq not_match_oneTwo; subst hqt; clear hq; have V14 : Hid (AV w (w2.heap.size + 1 + 1) ⟨2, ⟨none, 0, 0⟩, ⟨some ⟨w2.heap.size + 1, 0, none⟩, 2, 2⟩⟩ w5.heap.size ⟨t0, ⟨t1, t2, t3⟩, ⟨t4, t5, t6⟩⟩ w14) := V13.out.go gw.below; clear gw)
    | (go_at_call 19; (with_reducible refine (km6 _ V12.out.ht V12.out.tab).mono ?_); rintro _ w13 ⟨⟨q, rfl, hq⟩, gw⟩; have hqt : q = true := hq.2 match_oneTwo; subst hqt; clear hq; have V13 : Hid (AV w (w2.heap.size + 1 + 1) ⟨2, ⟨none, 0, 0⟩, ⟨some ⟨w2.heap.size + 1, 0, none⟩, 2, 2⟩⟩ w5.heap.size ⟨t0, ⟨t1, t2, t3⟩, ⟨t4, t5, t6⟩⟩ w13) := (V12.out.go (bel_alloc _ _)).go gw.below; clear gw; obtain ⟨c1320, c1321, c1322⟩ := BlkT.cs V13.out.p2)
    | (go_at_call 21; (with_reducible refine (km5 _ V11.out.tab).mono ?_); rintro _ w12 ⟨⟨q, rfl, hq⟩, gw⟩; have hqt : q = true := hq.2 match_cat; subst hqt; clear hq; have V12 : Hid (AV w (w2.heap.size + 1 + 1) ⟨2, ⟨none, 0, 0⟩, ⟨some ⟨w2.heap.size + 1, 0, none⟩, 2, 2⟩⟩ w5.heap.size ⟨t0, ⟨t1, t2, t3⟩, ⟨t4, t5, t6⟩⟩ w12) := V11.out.go gw.below; clear gw; obtain ⟨c1220, c1221, c1222⟩ := BlkT.cs V12.out.p2)
    | (go_at_call 21; (with_reducible refine (km4 _ V10.out.tab).mono ?_); rintro _ w11 ⟨⟨q, rfl, hq⟩, gw⟩; have hqt : q = false := bool_false hq match_alt; subst hqt; clear hq; have V11 : Hid (AV w (w2.heap.size + 1 + 1) ⟨2, ⟨none, 0, 0⟩, ⟨some ⟨w2.heap.size + 1, 0, none⟩, 2, 2⟩⟩ w5.heap.size ⟨t0, ⟨t1, t2, t3⟩, ⟨t4, t5, t6⟩⟩ w11) := V10.out.go gw.below; clear gw)
    | (go_at_call 19; (with_reducible refine (km3 _ V9.out.hp V9.out.tab).mono ?_); rintro _ w10 ⟨⟨q, rfl, hq⟩, gw⟩; have hqt : q = false := bool_false hq match_ex3; subst hqt; clear hq; have V10 : Hid (AV w (w2.heap.size + 1 + 1) ⟨2, ⟨none, 0, 0⟩, ⟨some ⟨w2.heap.size + 1, 0, none⟩, 2, 2⟩⟩ w5.heap.size ⟨t0, ⟨t1, t2, t3⟩, ⟨t4, t5, t6⟩⟩ w10) := (V9.out.go (bel_alloc _ _)).go gw.below; clear gw)
    | (go_at_call 19; (with_reducible refine (km2 _ V8.out.hp V8.out.tab).mono ?_); rintro _ w9 ⟨⟨q, rfl, hq⟩, gw⟩; have hqt : q = true := hq.2 match_ex2; subst hqt; clear hq; have V9 : Hid (AV w (w2.heap.size + 1 + 1) ⟨2, ⟨none, 0, 0⟩, ⟨some ⟨w2.heap.size + 1, 0, none⟩, 2, 2⟩⟩ w5.heap.size ⟨t0, ⟨t1, t2, t3⟩, ⟨t4, t5, t6⟩⟩ w9) := (V8.out.go (bel_alloc _ _)).go gw.below; clear gw; obtain ⟨c910, c911, c912⟩ := BlkT.cs V9.out.p1)
    | (go_at_call 19; (with_reducible refine (km1 _ V7.out.hp V7.out.tab).mono ?_); rintro _ w8 ⟨⟨q, rfl, hq⟩, gw⟩; have hqt : q = true := hq.2 match_ex1; subst hqt; clear hq; have V8 : Hid (AV w (w2.heap.size + 1 + 1) ⟨2, ⟨none, 0, 0⟩, ⟨some ⟨w2.heap.size + 1, 0, none⟩, 2, 2⟩⟩ w5.heap.size ⟨t0, ⟨t1, t2, t3⟩, ⟨t4, t5, t6⟩⟩ w8) := (V7.out.go (bel_alloc _ _)).go gw.below; clear gw; obtain ⟨c810, c811, c812⟩ := BlkT.cs V8.out.p1)
    | (go_at_call 17; (with_reducible refine (kr _ V6.out.hp).mono ?_); rintro _ w7 ⟨rfl, gw⟩; have V7 : Hid (AV w (w2.heap.size + 1 + 1) ⟨2, ⟨none, 0, 0⟩, ⟨some ⟨w2.heap.size + 1, 0, none⟩, 2, 2⟩⟩ w5.heap.size ⟨t0, ⟨t1, t2, t3⟩, ⟨t4, t5, t6⟩⟩ w7) := V6.out.go gw.below; clear gw; obtain ⟨c710, c711, c712⟩ := BlkT.cs V7.out.p1))
  go_ret
  exact ⟨rfl, V14.out.bel⟩

end Go.Proofs.YtjjlkjfhhpogaaaDoor
