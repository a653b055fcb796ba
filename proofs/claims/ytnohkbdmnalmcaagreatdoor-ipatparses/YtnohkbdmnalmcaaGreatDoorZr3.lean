/-
  Walks: the document's One, All, Fit, Star, Plus, Opt, Many.
-/
import Derived.Test.YtnohkbdmnalmcaaGreatDoorZr2
namespace Go.Proofs.YtnohkbdmnalmcaaGreatDoor
open Go.RowKit

set_option maxRecDepth 100000 in
set_option maxHeartbeats 1000000 in
theorem rone1_any {s : ByteArray} {b i : Nat} {l h : Int} {wr ou fu : Bool} {w : World} (hb : BlkQ w b s i wr ou fu) :
    Calls Tryz.prog 101 #[.pointer (some ⟨b, 0, none⟩), .int .u32 l, .int .u32 h] w fun e w' => ∃ r : PC, e = .returned r.v ∧ HO (fun g => w.heap.size ≤ g ∧ g < w'.heap.size) w' (.mk 1 [(l, h)] []) r ∧ Ex b w w' ∧ BlkQ w' b s i wr (ou || decide (h < l)) fu := by
  have HB : Hid (BlkQ w b s i wr ou fu) := hb
  have hlt := hb.lt
  have n1 : b ≠ w.heap.size := by omega
  have n2 : w.heap.size ≠ b := by omega
  have f3 := (HB.out.alloc (.cells #[.int .i64 0, .slice none 0 0, .slice none 0 0] 26)).frozen 3
  have c3 := (HB.out.alloc (.cells #[.int .i64 0, .slice none 0 0, .slice none 0 0] 26)).c 3
  simp at c3
  clear hb
  by_cases c1 : h < l
  · rw [decide_eq_true c1, Bool.or_true]
    go_enter Tryz.func101, Tryz.ntmps101
    go_wp2_with fail
    refine bodyPost_ret (v := PC.v ⟨1, ⟨some ⟨w.heap.size + 1, 0, none⟩, 1, 1⟩, ⟨none, 0, 0⟩⟩) ?_ rfl ⟨_, rfl, ?_, (((Ex.refl b w).setB 3 _).alloc _).alloc _, ?_⟩
    · simp [results, Tryz.results101]
      exact run_ptv (x := ⟨1, ⟨some ⟨w.heap.size + 1, 0, none⟩, 1, 1⟩, ⟨none, 0, 0⟩⟩) ((Blk.new' _ _ _ _ (by simp)).alloc _)
    · exact HO_one (Blk.new' _ _ _ _ (by simp)) rfl ⟨by omega, by simp⟩
    · exact ((HB.out.set 3 (.bool true)).alloc _).alloc _
  · rw [decide_eq_false c1, Bool.or_false]
    go_enter Tryz.func101, Tryz.ntmps101
    go_wp2_with fail
    refine bodyPost_ret (v := PC.v ⟨1, ⟨some ⟨w.heap.size + 1, 0, none⟩, 1, 1⟩, ⟨none, 0, 0⟩⟩) ?_ rfl ⟨_, rfl, ?_, ((Ex.refl b w).alloc _).alloc _, ?_⟩
    · simp [results, Tryz.results101]
      exact run_ptv (x := ⟨1, ⟨some ⟨w.heap.size + 1, 0, none⟩, 1, 1⟩, ⟨none, 0, 0⟩⟩) ((Blk.new' _ _ _ _ (by simp)).alloc _)
    · exact HO_one (Blk.new' _ _ _ _ (by simp)) rfl ⟨by omega, by simp⟩
    · exact (HB.out.alloc _).alloc _

set_option maxRecDepth 100000 in
set_option maxHeartbeats 1000000 in
theorem all_any (w : World) :
    Calls Tryz.prog 31 #[] w fun e w' => ∃ r : PC, e = .returned r.v ∧ HO (fun g => w.heap.size ≤ g ∧ g < w'.heap.size) w' allT r ∧ Gr w w' := by
  go_enter Tryz.func31, Tryz.ntmps31
  go_wp2_with fail
  refine bodyPost_ret (v := PC.v ⟨1, ⟨some ⟨w.heap.size + 1, 0, none⟩, 1, 1⟩, ⟨none, 0, 0⟩⟩) ?_ rfl ⟨_, rfl, ?_, ((Gr.refl _).alloc _).alloc _⟩
  · simp [results, Tryz.results31]
    exact run_ptv (x := ⟨1, ⟨some ⟨w.heap.size + 1, 0, none⟩, 1, 1⟩, ⟨none, 0, 0⟩⟩) ((Blk.new' _ _ _ _ (by simp)).alloc _)
  · exact HO_one (Blk.new' _ _ _ _ (by simp)) rfl ⟨by omega, by simp⟩

/-- A function's frame: its argument in its box, its result's cells. -/
structure KQ (w : World) (x : PC) (W : World) : Prop where
  bel : Below w.heap.size w W
  box : Blk W w.heap.size (encT x).toArray 26
  res : Blk W (w.heap.size + 1) (encT ⟨0, ⟨none, 0, 0⟩, ⟨none, 0, 0⟩⟩).toArray 26
theorem KQ.go {w : World} {x : PC} {W W' : World} (h : KQ w x W) (g : Below W.heap.size W W') : KQ w x W' := ⟨bstep h.bel g, h.box.bel g, h.res.bel g⟩
theorem KQ.start (w : World) (x : PC) : KQ w x ((w.alloc (.cells #[.int .i64 x.k, .slice x.s.a x.s.n x.s.c, .slice x.b.a x.b.n x.b.c] 26)).alloc (.cells #[.int .i64 0, .slice none 0 0, .slice none 0 0] 26)) :=
  ⟨bstep (bel_alloc _ _) (bel_alloc _ _), (Blk.new _ _ _).alloc _, Blk.new' _ _ _ _ (by simp)⟩
theorem kept_size {t : Tree} (hk : kindsT t = true) : keptM t = if size t ≤ 200 ∧ deep t ≤ 40 then (t, false) else (emT, true) := by
  unfold keptM rightT
  rw [hk]
  simp

set_option maxRecDepth 100000 in
set_option maxHeartbeats 2000000 in
theorem fit_any {P : Nat → Prop} {s : ByteArray} {b i : Nat} {wr ou fu : Bool} {t : Tree} {x : PC} {w : World} (hb : BlkQ w b s i wr ou fu) (hok : okT t) (hk : kindsT t = true) (hP : ∀ g, P g → g < w.heap.size) (hx : HO P w t x) :
    Calls Tryz.prog 52 #[.pointer (some ⟨b, 4, none⟩), x.v] w fun e w' => ∃ r : PC, e = .returned r.v ∧ HO P w' (keptM t).1 r ∧ Ex b w w' ∧ BlkQ w' b s i wr ou (fu || (keptM t).2) := by
  have HX : Hid (HO P w t x) := hx
  have HPp : Hid (∀ g, P g → g < w.heap.size) := hP
  have kr := fun W h => rsize_any _ t x W (Nat.le_refl _) hok h
  have HB : Hid (BlkQ w b s i wr ou fu) := hb
  have hlt := hb.lt
  have hds := deep_le_size t
  have HK : Hid (keptM t = if size t ≤ 200 ∧ deep t ≤ 40 then (t, false) else (emT, true)) := kept_size hk
  have HI := KQ.start w x
  have HI : Hid _ := HI
  obtain ⟨xk, ⟨x1, x2, x3⟩, x4, x5, x6⟩ := x
  simp only at HI
  by_cases cz : size t ≤ 200
  case pos =>
    have kr2 : ∀ W, HT W t ⟨xk, ⟨x1, x2, x3⟩, x4, x5, x6⟩ → Calls Tryz.prog 35 #[PC.v ⟨xk, ⟨x1, x2, x3⟩, x4, x5, x6⟩] W fun e w' => e = .returned (.tuple #[.int .i64 (size t : Nat), .int .i64 (deep t : Nat)]) ∧ Gr W w' := fun W h => (kr W h).mono fun e w' ⟨⟨p, d, he, hp, hd⟩, hg⟩ => by
      have hd := hd (by omega)
      have hp2 : p = (size t : Int) := by omega
      subst hp2 hd
      exact ⟨he, hg⟩
    generalize size t = z at *
    generalize deep t = y at *
    have e1 : ¬ (200 : Int) < (z : Int) := by omega
    by_cases cy : y ≤ 40
    case pos =>
      have e2 : ¬ (40 : Int) < (y : Int) := by omega
      have HK2 : Hid (keptM t = (t, false)) := by show _ = _; rw [HK.out, if_pos ⟨cz, cy⟩]
      clear hx hb hok hP HK kr hk cz cy hds
      go_enter Tryz.func52, Tryz.ntmps52
      go_wp2_with (go_at_call 35; refine (kr2 _ (HX.out.held.bel' HI.out.bel)).mono ?_; rintro _ w2 ⟨rfl, gw⟩; have I2 : Hid (KQ w ⟨xk, ⟨x1, x2, x3⟩, ⟨x4, x5, x6⟩⟩ w2) := HI.out.go gw.below; obtain ⟨e0, e1', e2'⟩ := BlkT.cs I2.out.box; have z0 := I2.out.res.frozen; obtain ⟨y0, y1, y2⟩ := BlkT.cs I2.out.res; clear gw)
      have hB3 := fun v0 v1 v2 => set3_bel I2.out.bel (g := w.heap.size + 1) (by omega) v0 v1 v2
      refine bodyPost_ret (v := PC.v ⟨xk, ⟨x1, x2, x3⟩, ⟨x4, x5, x6⟩⟩) ?_ rfl ⟨_, rfl, ?_, Ex.of_bel (hB3 _ _ _), ?_⟩
      · simp [results, Tryz.results52]
        have B := blk_put3 I2.out.res ⟨xk, ⟨x1, x2, x3⟩, ⟨x4, x5, x6⟩⟩
        simp only at B
        generalize hW7 : World.setCell _ _ _ = W7 at B ⊢
        exact run_ptv B
      · rw [HK2.out]
        exact HO.same (fun _ h => h) (fun g hg => (hB3 _ _ _).block g (HPp.out g hg)) HX.out
      · rw [HK2.out, Bool.or_false]
        exact HB.out.bel (hB3 _ _ _)
    case neg =>
      have e2 : (40 : Int) < (y : Int) := by omega
      have HK2 : Hid (keptM t = (emT, true)) := by show _ = _; rw [HK.out, if_neg (fun h => cy h.2)]
      clear hx hb hok hP HK kr hk cz cy hds
      go_enter Tryz.func52, Tryz.ntmps52
      go_wp2_with (go_at_call 35; refine (kr2 _ (HX.out.held.bel' HI.out.bel)).mono ?_; rintro _ w2 ⟨rfl, gw⟩; have I2 : Hid (KQ w ⟨xk, ⟨x1, x2, x3⟩, ⟨x4, x5, x6⟩⟩ w2) := HI.out.go gw.below; have B2 : Hid (BlkQ w2 b s i wr ou fu) := HB.out.bel I2.out.bel; have z0 := I2.out.res.frozen; obtain ⟨y0, y1, y2⟩ := BlkT.cs I2.out.res; have c4 := B2.out.c 4; have f4 := B2.out.frozen 4; simp at c4; have bl2 := B2.out.lt; have nb1 : b ≠ w.heap.size + 1 := (by omega); have nb2 : w.heap.size + 1 ≠ b := (by omega); clear gw)
      have E3 : Hid (Ex b w (w2.setCell ⟨b, 4, none⟩ (.bool true))) := (Ex.of_bel I2.out.bel).setB 4 _
      have B3 : Hid (BlkQ (w2.setCell ⟨b, 4, none⟩ (.bool true)) b s i wr ou true) := B2.out.set 4 (.bool true)
      have R3 : Hid (Blk (w2.setCell ⟨b, 4, none⟩ (.bool true)) (w.heap.size + 1) (encT ⟨0, ⟨none, 0, 0⟩, ⟨none, 0, 0⟩⟩).toArray 26) := I2.out.res.other (p := ⟨b, 4, none⟩) (by simp; omega) _
      generalize hW6 : w2.setCell ⟨b, 4, none⟩ (.bool true) = W6 at E3 B3 R3 ⊢
      refine bodyPost_ret (v := PC.v ⟨2, ⟨none, 0, 0⟩, ⟨none, 0, 0⟩⟩) ?_ rfl ⟨_, rfl, ?_, set3_ex E3.out (by omega) _ _ _, ?_⟩
      · simp [results, Tryz.results52]
        have B := blk_put3 R3.out ⟨2, ⟨none, 0, 0⟩, ⟨none, 0, 0⟩⟩
        simp only at B
        generalize hW7 : World.setCell _ _ _ = W7 at B ⊢
        exact run_ptv B
      · rw [HK2.out]
        exact HO_none 2
      · rw [HK2.out, Bool.or_true]
        exact B3.out.set3 (by omega) _ _ _
  case neg =>
    have kr2 : ∀ W, HT W t ⟨xk, ⟨x1, x2, x3⟩, x4, x5, x6⟩ → Calls Tryz.prog 35 #[PC.v ⟨xk, ⟨x1, x2, x3⟩, x4, x5, x6⟩] W fun e w' => (∃ p d : Int, e = .returned (.tuple #[.int .i64 p, .int .i64 d]) ∧ 200 < p) ∧ Gr W w' := fun W h => (kr W h).mono fun e w' ⟨⟨p, d, he, hp, hd⟩, hg⟩ => ⟨⟨p, d, he, by omega⟩, hg⟩
    have HK2 : Hid (keptM t = (emT, true)) := by show _ = _; rw [HK.out, if_neg (fun h => cz h.1)]
    clear hx hb hok hP HK kr hk cz hds
    go_enter Tryz.func52, Tryz.ntmps52
    go_wp2_with (go_at_call 35; refine (kr2 _ (HX.out.held.bel' HI.out.bel)).mono ?_; rintro _ w2 ⟨⟨p, d, rfl, hp⟩, gw⟩; have I2 : Hid (KQ w ⟨xk, ⟨x1, x2, x3⟩, ⟨x4, x5, x6⟩⟩ w2) := HI.out.go gw.below; have B2 : Hid (BlkQ w2 b s i wr ou fu) := HB.out.bel I2.out.bel; have z0 := I2.out.res.frozen; obtain ⟨y0, y1, y2⟩ := BlkT.cs I2.out.res; have c4 := B2.out.c 4; have f4 := B2.out.frozen 4; simp at c4; have bl2 := B2.out.lt; have nb1 : b ≠ w.heap.size + 1 := (by omega); have nb2 : w.heap.size + 1 ≠ b := (by omega); clear gw)
    have E3 : Hid (Ex b w (w2.setCell ⟨b, 4, none⟩ (.bool true))) := (Ex.of_bel I2.out.bel).setB 4 _
    have B3 : Hid (BlkQ (w2.setCell ⟨b, 4, none⟩ (.bool true)) b s i wr ou true) := B2.out.set 4 (.bool true)
    have R3 : Hid (Blk (w2.setCell ⟨b, 4, none⟩ (.bool true)) (w.heap.size + 1) (encT ⟨0, ⟨none, 0, 0⟩, ⟨none, 0, 0⟩⟩).toArray 26) := I2.out.res.other (p := ⟨b, 4, none⟩) (by simp; omega) _
    generalize hW6 : w2.setCell ⟨b, 4, none⟩ (.bool true) = W6 at E3 B3 R3 ⊢
    refine bodyPost_ret (v := PC.v ⟨2, ⟨none, 0, 0⟩, ⟨none, 0, 0⟩⟩) ?_ rfl ⟨_, rfl, ?_, set3_ex E3.out (by omega) _ _ _, ?_⟩
    · simp [results, Tryz.results52]
      have B := blk_put3 R3.out ⟨2, ⟨none, 0, 0⟩, ⟨none, 0, 0⟩⟩
      simp only at B
      generalize hW7 : World.setCell _ _ _ = W7 at B ⊢
      exact run_ptv B
    · rw [HK2.out]
      exact HO_none 2
    · rw [HK2.out, Bool.or_true]
      exact B3.out.set3 (by omega) _ _ _

end Go.Proofs.YtnohkbdmnalmcaaGreatDoor
