/-
  The walk of the document's Times.
-/
import Derived.Test.YtjjlkjfhhpogaaaDoorTi
import Derived.Test.YtjjlkjfhhpogaaaDoorCq
import Derived.Test.YtjjlkjfhhpogaaaDoorW7
import Derived.Test.YtjjlkjfhhpogaaaDoorKd
namespace Go.Proofs.YtjjlkjfhhpogaaaDoor
open Go.RowKit

theorem CI.ho {w : World} {x : PC} {k : Int} {set : List (Int × Int)} {subs : List Tree} {b3 : Nat} {s bs : Sl} {rows : List PC} {W : World} (h : CI w x k set subs b3 subs.length s bs rows W) :
    HO (fun g => w.heap.size + 2 ≤ g ∧ g < W.heap.size) W (.mk k set subs) ⟨k, s, bs⟩ := by
  refine (HO_mk _ _ _ _ _ _).2 ⟨rfl, ⟨h.set, fun g hg => ⟨h.setP g hg, (h.set.lt hg).2⟩⟩, rows, ⟨h.row, fun g hg => ⟨(h.rowP g hg).1, (h.row.lt hg).2⟩⟩, ?_⟩
  have h1 := h.hos
  rw [List.take_length] at h1
  exact HOs.same (fun q ⟨h1, h2, _, _⟩ => ⟨h1, h2⟩) (fun q _ => rfl) h1

set_option maxRecDepth 100000 in
set_option maxHeartbeats 16000000 in
theorem rtimes_any (t : Tree) (x : PC) (a b : Int) (w : World) (hok : okT t) (hx : HT w t x) (ha : -9223372036854775808 ≤ a ∧ a ≤ 9223372036854775807) (hb : -9223372036854775808 ≤ b ∧ b ≤ 9223372036854775807) :
    Calls Tryd.prog 27 #[x.v, .int .i64 a, .int .i64 b] w fun e w' => PostT (timesT t a b) w e w' := by
  have kr := fun W h => rright_any t x W hok h
  have HX : Hid (HT w t x) := hx
  obtain ⟨xk, ⟨x1, x2, x3⟩, x4, x5, x6⟩ := x
  clear hx
  go_enter Tryd.func27, Tryd.ntmps27
  go_upto_region 1 with fail
  generalize hW : World.alloc _ _ = W
  have HI : Hid (TI w ⟨xk, ⟨x1, x2, x3⟩, ⟨x4, x5, x6⟩⟩ W) := by
    rw [← hW]
    exact ⟨((Below.refl _ _).alloc (Nat.le_refl _) _).alloc (by simp) _, (Blk.new _ _ _).alloc _, Blk.new' _ _ _ _ (by simp)⟩
  clear hW
  obtain ⟨z0, z1, z2⟩ := BlkT.cs HI.out.res
  have zf := HI.out.res.frozen
  obtain ⟨y0, y1, y2⟩ := BlkT.cs HI.out.box
  simp only at y0 y1 y2
  by_cases c1 : a < 0
  · have HQ : Hid (timesT t a b = (zeroT, 2)) := timesT_1 c1
    clear kr y0 y1 y2
    go_wp2_with fail
    refine bodyPost_ret (v := .tuple #[PC.v ⟨0, ⟨none, 0, 0⟩, ⟨none, 0, 0⟩⟩, .int .i64 2]) ?_ rfl (by rw [HQ.out]; exact HI.out.zero 2 _ _ _)
    have B := blk_put3 HI.out.res ⟨0, ⟨none, 0, 0⟩, ⟨none, 0, 0⟩⟩
    simp only at B
    generalize hW7 : World.setCell _ _ _ = W7 at B ⊢
    obtain ⟨b0, b1, b2⟩ := BlkT.cs B
    simp only at b0 b1 b2
    simp [results, Tryd.results27, go_sem, b0, b1, b2]
  by_cases c2 : rightT t = true
  case neg =>
    have c2' : rightT t = false := by simpa using c2
    have HQ : Hid (timesT t a b = (zeroT, 4)) := timesT_2 c1 c2'
    rw [c2'] at kr
    clear c2 c2'
    go_wp2_with (go_at_call 18; refine (kr _ (HT.bel HI.out.bel HX.out)).mono ?_; rintro _ w2 ⟨rfl, gw⟩; have I2 : Hid (TI w ⟨xk, ⟨x1, x2, x3⟩, ⟨x4, x5, x6⟩⟩ w2) := HI.out.go gw.below; clear gw; obtain ⟨a0, a1, a2⟩ := BlkT.cs I2.out.res; have af := I2.out.res.frozen)
    refine bodyPost_ret (v := .tuple #[PC.v ⟨0, ⟨none, 0, 0⟩, ⟨none, 0, 0⟩⟩, .int .i64 4]) ?_ rfl (by rw [HQ.out]; exact I2.out.zero 4 _ _ _)
    have B := blk_put3 I2.out.res ⟨0, ⟨none, 0, 0⟩, ⟨none, 0, 0⟩⟩
    simp only at B
    generalize hW7 : World.setCell _ _ _ = W7 at B ⊢
    obtain ⟨b0, b1, b2⟩ := BlkT.cs B
    simp only at b0 b1 b2
    simp [results, Tryd.results27, go_sem, b0, b1, b2]
  have HRt : Hid (rightT t = true) := c2
  rw [c2] at kr
  by_cases c3 : 0 ≤ b ∧ b < a
  · have HQ : Hid (timesT t a b = (zeroT, 2)) := timesT_3 c1 c2 c3
    obtain ⟨c4, c5⟩ := c3
    clear c2
    go_wp2_with (go_at_call 18; refine (kr _ (HT.bel HI.out.bel HX.out)).mono ?_; rintro _ w2 ⟨rfl, gw⟩; have I2 : Hid (TI w ⟨xk, ⟨x1, x2, x3⟩, ⟨x4, x5, x6⟩⟩ w2) := HI.out.go gw.below; clear gw; obtain ⟨a0, a1, a2⟩ := BlkT.cs I2.out.res; have af := I2.out.res.frozen)
    refine bodyPost_ret (v := .tuple #[PC.v ⟨0, ⟨none, 0, 0⟩, ⟨none, 0, 0⟩⟩, .int .i64 2]) ?_ rfl (by rw [HQ.out]; exact I2.out.zero 2 _ _ _)
    have B := blk_put3 I2.out.res ⟨0, ⟨none, 0, 0⟩, ⟨none, 0, 0⟩⟩
    simp only at B
    generalize hW7 : World.setCell _ _ _ = W7 at B ⊢
    obtain ⟨b0, b1, b2⟩ := BlkT.cs B
    simp only at b0 b1 b2
    simp [results, Tryd.results27, go_sem, b0, b1, b2]
  obtain ⟨hz, _, _⟩ := right_parts c2
  obtain ⟨A, rfl⟩ : ∃ A : Nat, a = A := ⟨a.toNat, by omega⟩
  by_cases d1 : (200 : Int) < A
  · have HQ2 : Hid (timesT t A b = (zeroT, 6)) := by
      show _ = _
      obtain ⟨M, hM⟩ : ∃ M : Nat, (if b < 0 then (0 : Int) else b - A) = M := ⟨(if b < 0 then (0 : Int) else b - A).toNat, by split <;> omega⟩
      rw [timesT_4 c2 c3 hM rfl, if_neg (by rw [row_great3 (by omega)]; decide)]
    clear c2 hok
    by_cases c4 : b < 0
    · go_wp2_with (go_at_call 18; refine (kr _ (HT.bel HI.out.bel HX.out)).mono ?_; rintro _ w2 ⟨rfl, gw⟩; have I2 : Hid (TI w ⟨xk, ⟨x1, x2, x3⟩, ⟨x4, x5, x6⟩⟩ w2) := HI.out.go gw.below; clear gw; obtain ⟨a0, a1, a2⟩ := BlkT.cs I2.out.res; have af := I2.out.res.frozen)
      refine bodyPost_ret (v := .tuple #[PC.v ⟨0, ⟨none, 0, 0⟩, ⟨none, 0, 0⟩⟩, .int .i64 6]) ?_ rfl (by rw [HQ2.out]; exact I2.out.zero 6 _ _ _)
      have B := blk_put3 I2.out.res ⟨0, ⟨none, 0, 0⟩, ⟨none, 0, 0⟩⟩
      simp only at B
      generalize hW7 : World.setCell _ _ _ = W7 at B ⊢
      obtain ⟨b0, b1, b2⟩ := BlkT.cs B
      simp only at b0 b1 b2
      simp [results, Tryd.results27, go_sem, b0, b1, b2]
    · have c5 : 0 ≤ b := by omega
      have c6 : decide (b < A) = false := by simp; omega
      go_wp2_with (go_at_call 18; refine (kr _ (HT.bel HI.out.bel HX.out)).mono ?_; rintro _ w2 ⟨rfl, gw⟩; have I2 : Hid (TI w ⟨xk, ⟨x1, x2, x3⟩, ⟨x4, x5, x6⟩⟩ w2) := HI.out.go gw.below; clear gw; obtain ⟨a0, a1, a2⟩ := BlkT.cs I2.out.res; have af := I2.out.res.frozen)
      refine bodyPost_ret (v := .tuple #[PC.v ⟨0, ⟨none, 0, 0⟩, ⟨none, 0, 0⟩⟩, .int .i64 6]) ?_ rfl (by rw [HQ2.out]; exact I2.out.zero 6 _ _ _)
      have B := blk_put3 I2.out.res ⟨0, ⟨none, 0, 0⟩, ⟨none, 0, 0⟩⟩
      simp only at B
      generalize hW7 : World.setCell _ _ _ = W7 at B ⊢
      obtain ⟨b0, b1, b2⟩ := BlkT.cs B
      simp only at b0 b1 b2
      simp [results, Tryd.results27, go_sem, b0, b1, b2]
  have d1' : decide ((200 : Int) < A) = false := by simp; omega
  have kE : ∀ W, Below w.heap.size w W → Calls Tryd.prog 16 #[PC.v ⟨xk, ⟨x1, x2, x3⟩, ⟨x4, x5, x6⟩⟩] W fun e w' => PostC t W e w' := fun W g => copy_any _ t _ W (Nat.le_refl _) (by omega) hok (HT.bel g HX.out)
  by_cases c4 : b < 0
  · have HQ : Hid (timesT t A b = if rightT (rowT t A 0 true) = true then (rowT t A 0 true, 0) else (zeroT, 6)) := timesT_4 c2 (by omega) (by rw [if_pos c4]; rfl) (by simp [c4])
    clear c2
    have c9 : ¬ (A : Int) < b := by omega
    obtain ⟨R, hR⟩ : ∃ R, R = rowL t A 0 true := ⟨_, rfl⟩
    have HRl : Hid (R.length = A + 0 + 1) := by show _ = _; rw [hR, rowL_len]; rfl
    have HR1 : Hid (∀ j, j < A → R[j]? = some t) := fun j hj => by rw [hR]; exact rowL_at1 hj
    have HR3 : Hid (R[A + 0]? = some (starT t)) := by rw [hR]; exact rowL_at3
    have HPo : Hid (rowT t A 0 true = .mk 2 [] R) := by show _ = _; rw [hR]; rfl
    have krr := fun r W h => rright_any (.mk 2 [] R) r W (by rw [hR]; exact okT_row hok (by omega) (by omega) true) h
    clear hR hok
    go_upto_region 10 with (go_at_call 18; refine (kr _ (HT.bel HI.out.bel HX.out)).mono ?_; rintro _ w2 ⟨rfl, gw⟩; have I2 : Hid (TI w ⟨xk, ⟨x1, x2, x3⟩, ⟨x4, x5, x6⟩⟩ w2) := HI.out.go gw.below; clear gw; obtain ⟨a0, a1, a2⟩ := BlkT.cs I2.out.res; have af := I2.out.res.frozen)
    generalize hW3 : World.alloc _ _ = W3
    obtain ⟨b3, hb3⟩ : ∃ b3, b3 = w2.heap.size := ⟨_, rfl⟩
    have HJ : Hid (CI w ⟨xk, ⟨x1, x2, x3⟩, ⟨x4, x5, x6⟩⟩ 2 [] R b3 0 ⟨none, 0, 0⟩ ⟨none, 0, 0⟩ [] W3) := by
      rw [← hW3]
      exact CI.start0' I2.out.bel I2.out.box I2.out.res (by have := I2.out.res.lt; omega) hb3
    rw [← hb3]
    clear hW3 hb3 HI I2 a0 a1 a2 af z0 z1 z2 zf y0 y1 y2 kr
    have HI := HJ
    clear HJ
    go_wp2_with fail
    go_loopw [9] (fun vi wr => ∃ (j : Nat) (bs : Sl) (done : List PC), j ≤ A ∧ vi = .int .i64 j ∧ Hid (CI w ⟨xk, ⟨x1, x2, x3⟩, ⟨x4, x5, x6⟩⟩ 2 [] R b3 j ⟨none, 0, 0⟩ bs done wr)) (fun vi _ => A - (intOf vi).toNat)
    case atStart => exact ⟨0, _, [], Nat.zero_le _, rfl, HI⟩
    case round =>
      clear HI
      obtain ⟨j, ⟨da, dn, dc⟩, done, hj, rfl, HI⟩ := hrel
      by_cases hlt : j < A
      case pos =>
        have HSj : Hid (R[j]? = some t) := HR1.out j hlt
        have hlt2 : (j : Int) < A := by omega
        obtain ⟨m0, m1, m2⟩ := BlkT.cs HI.out.me
        obtain ⟨z0, z1, z2⟩ := BlkT.cs HI.out.box
        simp only at m0 m1 m2 z0 z1 z2
        have bl3 : b3 < wr.heap.size := HI.out.me.lt
        have HL : Hid (done.length ≤ j) := HI.out.len
        go_wp2_with fail
        go_region_law
          (first
            | (go_simp; go_at_call 16; refine (kE _ (below_drewN HI.out.bel 1)).mono ?_; rintro _ w4 ⟨r4, rfl, ho4, bb4⟩; have I4 : Hid (CI w ⟨xk, ⟨x1, x2, x3⟩, ⟨x4, x5, x6⟩⟩ 2 [] R b3 j ⟨none, 0, 0⟩ ⟨da, dn, dc⟩ done w4) := HI.out.go (bstep (below_drewN (Below.refl _ _) 1) bb4); have H4 : Hid (HO (fun g => wr.heap.size ≤ g ∧ g < w4.heap.size) w4 t r4) := ho4.low (by simp); have ZZ4 : wr.heap.size ≤ w4.heap.size := (Nat.le_trans (by simp) bb4.size); clear ho4 bb4; obtain ⟨r4k, ⟨r4a, r4b, r4c⟩, r4d, r4e, r4f⟩ := r4; obtain ⟨n0, n1, n2⟩ := BlkT.cs I4.out.me; have n2l := I4.out.me.lt; have n3l := Nat.lt_succ_of_lt n2l; have HZ4 : Hid (wr.heap.size ≤ w4.heap.size) := ZZ4; clear ZZ4)
            | (refine step_appT (by rfl) _ _ (by rfl) 0 (.slice da dn dc) done (by rfl) (I4.out.row.alloc _) ⟨r4k, ⟨r4a, r4b, r4c⟩, ⟨r4d, r4e, r4f⟩⟩ w4.heap.size (by rfl) (Blk.new' _ _ _ _ (by simp)) (by have := HL.out; omega) (Nat.zero_le _) (w4.heap.size + 1) (by simp) ?_; intro g5 cap5 w5 ow5 gr5 hg5; have I5 := I4.out.go (bel_alloc _ (.cells (encT ⟨r4k, ⟨r4a, r4b, r4c⟩, ⟨r4d, r4e, r4f⟩⟩).toArray 25)); have J5 : Hid _ := I5.step HSj.out (H4.out.bel (bel_alloc _ _)) HI.out.me.lt (fun g hg => (HI.out.row.lt hg).2) ow5 gr5 (by simpa using hg5); obtain ⟨p0, p1, p2⟩ := BlkT.cs (I5.me_grown gr5); have pf := (I5.me_grown gr5).frozen; clear ow5 gr5 hg5 I5))
        all_goals
          have J6 := J5.out
          generalize hW6 : World.setCell _ _ _ = W6 at J6 ⊢
          have H6 : Hid (CI w ⟨xk, ⟨x1, x2, x3⟩, ⟨x4, x5, x6⟩⟩ 2 [] R b3 (j + 1) ⟨none, 0, 0⟩ ⟨some ⟨g5, 0, none⟩, done.length + 1, cap5⟩ (done ++ [⟨r4k, ⟨r4a, r4b, r4c⟩, ⟨r4d, r4e, r4f⟩⟩]) W6) := J6
          clear J6 hW6 J5 H4 I4 HI HZ4 n0 n1 n2 n2l n3l p0 p1 p2 pf m0 m1 m2 z0 z1 z2
          go_wp2_with fail
          go_roundw
          case rel => exact ⟨j + 1, _, _, by omega, by go_num, H6⟩
          case measure => simp [intOf]; omega
      case neg =>
        have hkN : A ≤ j := by omega
        have hkN2 : ¬ (j : Int) < A := by omega
        have hja : j = A + 0 := by omega
        rw [hja] at HI
        clear hja
        have HSj : Hid (R[A + 0]? = some (starT t)) := HR3.out
        obtain ⟨m0, m1, m2⟩ := BlkT.cs HI.out.me
        obtain ⟨z0, z1, z2⟩ := BlkT.cs HI.out.box
        simp only at m0 m1 m2 z0 z1 z2
        have bl3 : b3 < wr.heap.size := HI.out.me.lt
        have HL : Hid (done.length ≤ (A + 0)) := HI.out.len
        go_wp2_with fail
        go_region_law
          (first
            | (go_simp; go_at_call 16; refine (kE _ (below_drewN HI.out.bel 1)).mono ?_; rintro _ w4 ⟨r4, rfl, ho4, bb4⟩; have I4 : Hid (CI w ⟨xk, ⟨x1, x2, x3⟩, ⟨x4, x5, x6⟩⟩ 2 [] R b3 (A + 0) ⟨none, 0, 0⟩ ⟨da, dn, dc⟩ done w4) := HI.out.go (bstep (below_drewN (Below.refl _ _) 1) bb4); have H4 : Hid (HO (fun g => wr.heap.size ≤ g ∧ g < w4.heap.size) w4 t r4) := ho4.low (by simp); have ZZ4 : wr.heap.size ≤ w4.heap.size := (Nat.le_trans (by simp) bb4.size); clear ho4 bb4; obtain ⟨r4k, ⟨r4a, r4b, r4c⟩, r4d, r4e, r4f⟩ := r4; obtain ⟨n0, n1, n2⟩ := BlkT.cs I4.out.me; have n2l := I4.out.me.lt; have n3l := Nat.lt_succ_of_lt n2l; have HZ4 : Hid (wr.heap.size ≤ w4.heap.size) := ZZ4; clear ZZ4)
            | (refine step_appT (by rfl) _ _ (by rfl) 0 (.slice da dn dc) done (by rfl) ((I4.out.go (bel_alloc _ (.cells #[.int .i64 r4k, .slice r4a r4b r4c, .slice r4d r4e r4f] 25))).row.alloc _) ⟨4, ⟨none, 0, 0⟩, ⟨some ⟨w4.heap.size, 0, none⟩, 1, 1⟩⟩ (w4.heap.size + 1) (by rfl) (Blk.new' _ _ _ _ (by simp)) (by have := HL.out; omega) (Nat.zero_le _) (w4.heap.size + 1 + 1) (by simp) ?_; intro g5 cap5 w5 ow5 gr5 hg5; have I5 := (I4.out.go (bel_alloc _ (.cells #[.int .i64 r4k, .slice r4a r4b r4c, .slice r4d r4e r4f] 25))).go (bel_alloc _ (.cells (encT ⟨4, ⟨none, 0, 0⟩, ⟨some ⟨w4.heap.size, 0, none⟩, 1, 1⟩⟩).toArray 25)); have J5 : Hid _ := I5.step HSj.out ((HO_sub1 (H4.out.bel (bel_alloc _ (.cells #[.int .i64 r4k, .slice r4a r4b r4c, .slice r4d r4e r4f] 25))) (Blk.new _ _ _) rfl ⟨HZ4.out, by simp⟩).bel (bel_alloc _ _)) HI.out.me.lt (fun g hg => (HI.out.row.lt hg).2) ow5 gr5 (by simpa using hg5); obtain ⟨p0, p1, p2⟩ := BlkT.cs (I5.me_grown gr5); have pf := (I5.me_grown gr5).frozen; clear ow5 gr5 hg5 I5))
        all_goals
          have J6 := J5.out
          generalize hW6 : World.setCell _ _ _ = W6 at J6 ⊢
          have H6 : Hid (CI w ⟨xk, ⟨x1, x2, x3⟩, ⟨x4, x5, x6⟩⟩ 2 [] R b3 ((A + 0) + 1) ⟨none, 0, 0⟩ ⟨some ⟨g5, 0, none⟩, done.length + 1, cap5⟩ (done ++ [⟨4, ⟨none, 0, 0⟩, ⟨some ⟨w4.heap.size, 0, none⟩, 1, 1⟩⟩]) W6) := J6
          clear J6 hW6 J5 H4 I4 HI HZ4 n0 n1 n2 n2l n3l p0 p1 p2 pf m0 m1 m2 z0 z1 z2
          have hfin : A + 0 + 1 = R.length := by rw [HRl.out]
          rw [hfin] at H6
          clear hfin
          go_wp2_with fail
          go_loopw [10] (fun vi wr => vi = .int .i64 A ∧ Hid (CI w ⟨xk, ⟨x1, x2, x3⟩, ⟨x4, x5, x6⟩⟩ 2 [] R b3 R.length ⟨none, 0, 0⟩ ⟨some ⟨g5, 0, none⟩, done.length + 1, cap5⟩ (done ++ [⟨4, ⟨none, 0, 0⟩, ⟨some ⟨w4.heap.size, 0, none⟩, 1, 1⟩⟩]) wr)) (fun _ _ => 0)
          case atStart => exact ⟨rfl, H6⟩
          case round =>
            clear H6
            obtain ⟨rfl, H6⟩ := hrel
            have HO8 : Hid (HO (fun g => w.heap.size + 2 ≤ g ∧ g < wr.heap.size) wr (.mk 2 [] R) ⟨2, ⟨none, 0, 0⟩, ⟨some ⟨g5, 0, none⟩, done.length + 1, cap5⟩⟩) := H6.out.ho
            have T8 : Hid (TI w ⟨xk, ⟨x1, x2, x3⟩, ⟨x4, x5, x6⟩⟩ wr) := ⟨H6.out.bel, H6.out.box, H6.out.res⟩
            have M8 : Hid (Blk wr b3 (encT ⟨2, ⟨none, 0, 0⟩, ⟨some ⟨g5, 0, none⟩, done.length + 1, cap5⟩⟩).toArray 25) := H6.out.me
            clear H6
            obtain ⟨m0, m1, m2⟩ := BlkT.cs M8.out
            simp only at m0 m1 m2
            cases hrr : rightT (.mk 2 [] R) with
            | false =>
              have HQ2 : Hid (timesT t A b = (zeroT, 6)) := by show _ = _; rw [HQ.out, HPo.out, hrr]; rfl
              rw [hrr] at krr
              clear hrr
              go_wp2_with (go_at_call 18; refine (krr _ _ HO8.out.held).mono ?_; rintro _ w5 ⟨rfl, gw⟩; have I5 : Hid (TI w ⟨xk, ⟨x1, x2, x3⟩, ⟨x4, x5, x6⟩⟩ w5) := T8.out.go gw.below; have H5 : Hid (HO (fun g => w.heap.size + 2 ≤ g ∧ g < w5.heap.size) w5 (.mk 2 [] R) ⟨2, ⟨none, 0, 0⟩, ⟨some ⟨g5, 0, none⟩, done.length + 1, cap5⟩⟩) := HO8.out.bel gw.below; have M5 : Hid (Blk w5 b3 (encT ⟨2, ⟨none, 0, 0⟩, ⟨some ⟨g5, 0, none⟩, done.length + 1, cap5⟩⟩).toArray 25) := M8.out.bel gw.below; clear gw; obtain ⟨h0, h1, h2⟩ := BlkT.cs I5.out.res; have hf := I5.out.res.frozen; obtain ⟨i0, i1, i2⟩ := BlkT.cs M5.out)
              refine bodyPost_ret (v := .tuple #[PC.v ⟨0, ⟨none, 0, 0⟩, ⟨none, 0, 0⟩⟩, .int .i64 6]) ?_ rfl (by rw [HQ2.out]; exact I5.out.zero 6 _ _ _)
              have B := blk_put3 I5.out.res ⟨0, ⟨none, 0, 0⟩, ⟨none, 0, 0⟩⟩
              simp only at B
              generalize hW7 : World.setCell _ _ _ = W7 at B ⊢
              obtain ⟨b0, b1, b2⟩ := BlkT.cs B
              simp only at b0 b1 b2
              simp [results, Tryd.results27, go_sem, b0, b1, b2]
            | true =>
              have HQ2 : Hid (timesT t A b = (.mk 2 [] R, 0)) := by show _ = _; rw [HQ.out, HPo.out, hrr]; rfl
              rw [hrr] at krr
              clear hrr
              go_wp2_with (go_at_call 18; refine (krr _ _ HO8.out.held).mono ?_; rintro _ w5 ⟨rfl, gw⟩; have I5 : Hid (TI w ⟨xk, ⟨x1, x2, x3⟩, ⟨x4, x5, x6⟩⟩ w5) := T8.out.go gw.below; have H5 : Hid (HO (fun g => w.heap.size + 2 ≤ g ∧ g < w5.heap.size) w5 (.mk 2 [] R) ⟨2, ⟨none, 0, 0⟩, ⟨some ⟨g5, 0, none⟩, done.length + 1, cap5⟩⟩) := HO8.out.bel gw.below; have M5 : Hid (Blk w5 b3 (encT ⟨2, ⟨none, 0, 0⟩, ⟨some ⟨g5, 0, none⟩, done.length + 1, cap5⟩⟩).toArray 25) := M8.out.bel gw.below; clear gw; obtain ⟨h0, h1, h2⟩ := BlkT.cs I5.out.res; have hf := I5.out.res.frozen; obtain ⟨i0, i1, i2⟩ := BlkT.cs M5.out)
              refine bodyPost_ret (v := .tuple #[PC.v ⟨2, ⟨none, 0, 0⟩, ⟨some ⟨g5, 0, none⟩, done.length + 1, cap5⟩⟩, .int .i64 0]) ?_ rfl (by rw [HQ2.out]; exact I5.out.one H5.out (by omega) 0 _ _ _)
              have B := blk_put3 I5.out.res ⟨2, ⟨none, 0, 0⟩, ⟨some ⟨g5, 0, none⟩, done.length + 1, cap5⟩⟩
              simp only at B
              generalize hW7 : World.setCell _ _ _ = W7 at B ⊢
              obtain ⟨b0, b1, b2⟩ := BlkT.cs B
              simp only at b0 b1 b2
              simp [results, Tryd.results27, go_sem, b0, b1, b2]
  · obtain ⟨M, hM0⟩ : ∃ M : Nat, b - (A : Int) = M := ⟨(b - A).toNat, by omega⟩
    have HQ : Hid (timesT t A b = if rightT (rowT t A M false) = true then (rowT t A M false, 0) else (zeroT, 6)) := timesT_4 c2 c3 (by rw [if_neg c4]; omega) (by simp; omega)
    have c6 : decide (b < A) = false := by simp; omega
    have c7 : 0 ≤ b := by omega
    have c8 : decide (b < 0) = false := by simp; omega
    clear c2 c4 c3
    by_cases d2 : (200 : Int) < M
    · have HQ2 : Hid (timesT t A b = (zeroT, 6)) := by show _ = _; rw [HQ.out, if_neg (by rw [row_great4 (by omega)]; decide)]
      clear HQ hok
      go_wp2_with (go_at_call 18; refine (kr _ (HT.bel HI.out.bel HX.out)).mono ?_; rintro _ w2 ⟨rfl, gw⟩; have I2 : Hid (TI w ⟨xk, ⟨x1, x2, x3⟩, ⟨x4, x5, x6⟩⟩ w2) := HI.out.go gw.below; clear gw; obtain ⟨a0, a1, a2⟩ := BlkT.cs I2.out.res; have af := I2.out.res.frozen)
      refine bodyPost_ret (v := .tuple #[PC.v ⟨0, ⟨none, 0, 0⟩, ⟨none, 0, 0⟩⟩, .int .i64 6]) ?_ rfl (by rw [HQ2.out]; exact I2.out.zero 6 _ _ _)
      have B := blk_put3 I2.out.res ⟨0, ⟨none, 0, 0⟩, ⟨none, 0, 0⟩⟩
      simp only at B
      generalize hW7 : World.setCell _ _ _ = W7 at B ⊢
      obtain ⟨b0, b1, b2⟩ := BlkT.cs B
      simp only at b0 b1 b2
      simp [results, Tryd.results27, go_sem, b0, b1, b2]
    have d2' : decide ((200 : Int) < M) = false := by simp; omega
    obtain ⟨R, hR⟩ : ∃ R, R = rowL t A M false := ⟨_, rfl⟩
    have HRl : Hid (R.length = A + M + 0) := by show _ = _; rw [hR, rowL_len]; rfl
    have HR1 : Hid (∀ j, j < A → R[j]? = some t) := fun j hj => by rw [hR]; exact rowL_at1 hj
    have HR2 : Hid (∀ j, j < M → R[A + j]? = some (mayT t)) := fun j hj => by rw [hR]; exact rowL_at2 hj
    have HPo : Hid (rowT t A M false = .mk 2 [] R) := by show _ = _; rw [hR]; rfl
    have krr := fun r W h => rright_any (.mk 2 [] R) r W (by rw [hR]; exact okT_row hok (by omega) (by omega) false) h
    clear hR hok
    go_upto_region 10 with (go_at_call 18; refine (kr _ (HT.bel HI.out.bel HX.out)).mono ?_; rintro _ w2 ⟨rfl, gw⟩; have I2 : Hid (TI w ⟨xk, ⟨x1, x2, x3⟩, ⟨x4, x5, x6⟩⟩ w2) := HI.out.go gw.below; clear gw; obtain ⟨a0, a1, a2⟩ := BlkT.cs I2.out.res; have af := I2.out.res.frozen)
    generalize hW3 : World.alloc _ _ = W3
    obtain ⟨b3, hb3⟩ : ∃ b3, b3 = w2.heap.size := ⟨_, rfl⟩
    have HJ : Hid (CI w ⟨xk, ⟨x1, x2, x3⟩, ⟨x4, x5, x6⟩⟩ 2 [] R b3 0 ⟨none, 0, 0⟩ ⟨none, 0, 0⟩ [] W3) := by
      rw [← hW3]
      exact CI.start0' I2.out.bel I2.out.box I2.out.res (by have := I2.out.res.lt; omega) hb3
    rw [← hb3]
    clear hW3 hb3 HI I2 a0 a1 a2 af z0 z1 z2 zf y0 y1 y2 kr
    have HI := HJ
    clear HJ
    go_wp2_with fail
    go_loopw [9] (fun vi wr => ∃ (j : Nat) (bs : Sl) (done : List PC), j ≤ A ∧ vi = .int .i64 j ∧ Hid (CI w ⟨xk, ⟨x1, x2, x3⟩, ⟨x4, x5, x6⟩⟩ 2 [] R b3 j ⟨none, 0, 0⟩ bs done wr)) (fun vi _ => A - (intOf vi).toNat)
    case atStart => exact ⟨0, _, [], Nat.zero_le _, rfl, HI⟩
    case round =>
      clear HI
      obtain ⟨j, ⟨da, dn, dc⟩, done, hj, rfl, HI⟩ := hrel
      by_cases hlt : j < A
      case pos =>
        have HSj : Hid (R[j]? = some t) := HR1.out j hlt
        have hlt2 : (j : Int) < A := by omega
        obtain ⟨m0, m1, m2⟩ := BlkT.cs HI.out.me
        obtain ⟨z0, z1, z2⟩ := BlkT.cs HI.out.box
        simp only at m0 m1 m2 z0 z1 z2
        have bl3 : b3 < wr.heap.size := HI.out.me.lt
        have HL : Hid (done.length ≤ j) := HI.out.len
        go_wp2_with fail
        go_region_law
          (first
            | (go_simp; go_at_call 16; refine (kE _ (below_drewN HI.out.bel 1)).mono ?_; rintro _ w4 ⟨r4, rfl, ho4, bb4⟩; have I4 : Hid (CI w ⟨xk, ⟨x1, x2, x3⟩, ⟨x4, x5, x6⟩⟩ 2 [] R b3 j ⟨none, 0, 0⟩ ⟨da, dn, dc⟩ done w4) := HI.out.go (bstep (below_drewN (Below.refl _ _) 1) bb4); have H4 : Hid (HO (fun g => wr.heap.size ≤ g ∧ g < w4.heap.size) w4 t r4) := ho4.low (by simp); have ZZ4 : wr.heap.size ≤ w4.heap.size := (Nat.le_trans (by simp) bb4.size); clear ho4 bb4; obtain ⟨r4k, ⟨r4a, r4b, r4c⟩, r4d, r4e, r4f⟩ := r4; obtain ⟨n0, n1, n2⟩ := BlkT.cs I4.out.me; have n2l := I4.out.me.lt; have n3l := Nat.lt_succ_of_lt n2l; have HZ4 : Hid (wr.heap.size ≤ w4.heap.size) := ZZ4; clear ZZ4)
            | (refine step_appT (by rfl) _ _ (by rfl) 0 (.slice da dn dc) done (by rfl) (I4.out.row.alloc _) ⟨r4k, ⟨r4a, r4b, r4c⟩, ⟨r4d, r4e, r4f⟩⟩ w4.heap.size (by rfl) (Blk.new' _ _ _ _ (by simp)) (by have := HL.out; omega) (Nat.zero_le _) (w4.heap.size + 1) (by simp) ?_; intro g5 cap5 w5 ow5 gr5 hg5; have I5 := I4.out.go (bel_alloc _ (.cells (encT ⟨r4k, ⟨r4a, r4b, r4c⟩, ⟨r4d, r4e, r4f⟩⟩).toArray 25)); have J5 : Hid _ := I5.step HSj.out (H4.out.bel (bel_alloc _ _)) HI.out.me.lt (fun g hg => (HI.out.row.lt hg).2) ow5 gr5 (by simpa using hg5); obtain ⟨p0, p1, p2⟩ := BlkT.cs (I5.me_grown gr5); have pf := (I5.me_grown gr5).frozen; clear ow5 gr5 hg5 I5))
        all_goals
          have J6 := J5.out
          generalize hW6 : World.setCell _ _ _ = W6 at J6 ⊢
          have H6 : Hid (CI w ⟨xk, ⟨x1, x2, x3⟩, ⟨x4, x5, x6⟩⟩ 2 [] R b3 (j + 1) ⟨none, 0, 0⟩ ⟨some ⟨g5, 0, none⟩, done.length + 1, cap5⟩ (done ++ [⟨r4k, ⟨r4a, r4b, r4c⟩, ⟨r4d, r4e, r4f⟩⟩]) W6) := J6
          clear J6 hW6 J5 H4 I4 HI HZ4 n0 n1 n2 n2l n3l p0 p1 p2 pf m0 m1 m2 z0 z1 z2
          go_wp2_with fail
          go_roundw
          case rel => exact ⟨j + 1, _, _, by omega, by go_num, H6⟩
          case measure => simp [intOf]; omega
      case neg =>
        have hkN : A ≤ j := by omega
        have hkN2 : ¬ (j : Int) < A := by omega
        have hja : j = A + 0 := by omega
        rw [hja] at HI
        clear hja
        go_wp2_with fail
        go_loopw [10] (fun vi wr => ∃ (i : Nat) (bs : Sl) (done : List PC), i ≤ M ∧ vi = .int .i64 ((A : Int) + i) ∧ Hid (CI w ⟨xk, ⟨x1, x2, x3⟩, ⟨x4, x5, x6⟩⟩ 2 [] R b3 (A + i) ⟨none, 0, 0⟩ bs done wr)) (fun vi _ => A + M - (intOf vi).toNat)
        case atStart => exact ⟨0, _, _, Nat.zero_le _, by simp, HI⟩
        case round =>
          clear HI
          obtain ⟨i, ⟨da, dn, dc⟩, done, hi, rfl, HI⟩ := hrel
          by_cases hlt : i < M
          case pos =>
            have HSj : Hid (R[A + i]? = some (mayT t)) := HR2.out i hlt
            have hlt2 : (A : Int) + i < b := by omega
            obtain ⟨m0, m1, m2⟩ := BlkT.cs HI.out.me
            obtain ⟨z0, z1, z2⟩ := BlkT.cs HI.out.box
            simp only at m0 m1 m2 z0 z1 z2
            have bl3 : b3 < wr.heap.size := HI.out.me.lt
            have HL : Hid (done.length ≤ (A + i)) := HI.out.len
            go_wp2_with fail
            go_region_law
              (first
                | (go_simp; go_at_call 16; refine (kE _ (below_drewN HI.out.bel 1)).mono ?_; rintro _ w4 ⟨r4, rfl, ho4, bb4⟩; have I4 : Hid (CI w ⟨xk, ⟨x1, x2, x3⟩, ⟨x4, x5, x6⟩⟩ 2 [] R b3 (A + i) ⟨none, 0, 0⟩ ⟨da, dn, dc⟩ done w4) := HI.out.go (bstep (below_drewN (Below.refl _ _) 1) bb4); have H4 : Hid (HO (fun g => wr.heap.size ≤ g ∧ g < w4.heap.size) w4 t r4) := ho4.low (by simp); have ZZ4 : wr.heap.size ≤ w4.heap.size := (Nat.le_trans (by simp) bb4.size); clear ho4 bb4; obtain ⟨r4k, ⟨r4a, r4b, r4c⟩, r4d, r4e, r4f⟩ := r4; obtain ⟨n0, n1, n2⟩ := BlkT.cs I4.out.me; have n2l := I4.out.me.lt; have n3l := Nat.lt_succ_of_lt n2l; have HZ4 : Hid (wr.heap.size ≤ w4.heap.size) := ZZ4; clear ZZ4)
                | (refine step_appT (by rfl) _ _ (by rfl) 0 (.slice da dn dc) done (by rfl) ((I4.out.go (bel_alloc _ (.cells #[.int .i64 r4k, .slice r4a r4b r4c, .slice r4d r4e r4f, .int .i64 2, .slice none 0 0, .slice none 0 0] 25))).row.alloc _) ⟨3, ⟨none, 0, 0⟩, ⟨some ⟨w4.heap.size, 0, none⟩, 2, 2⟩⟩ (w4.heap.size + 1) (by rfl) (Blk.new' _ _ _ _ (by simp)) (by have := HL.out; omega) (Nat.zero_le _) (w4.heap.size + 1 + 1) (by simp) ?_; intro g5 cap5 w5 ow5 gr5 hg5; have I5 := (I4.out.go (bel_alloc _ (.cells #[.int .i64 r4k, .slice r4a r4b r4c, .slice r4d r4e r4f, .int .i64 2, .slice none 0 0, .slice none 0 0] 25))).go (bel_alloc _ (.cells (encT ⟨3, ⟨none, 0, 0⟩, ⟨some ⟨w4.heap.size, 0, none⟩, 2, 2⟩⟩).toArray 25)); have J5 : Hid _ := I5.step HSj.out ((HO_sub2 (H4.out.bel (bel_alloc _ (.cells #[.int .i64 r4k, .slice r4a r4b r4c, .slice r4d r4e r4f, .int .i64 2, .slice none 0 0, .slice none 0 0] 25))) (HO_none 2) (Blk.new _ _ _) rfl ⟨HZ4.out, by simp⟩).bel (bel_alloc _ _)) HI.out.me.lt (fun g hg => (HI.out.row.lt hg).2) ow5 gr5 (by simpa using hg5); obtain ⟨p0, p1, p2⟩ := BlkT.cs (I5.me_grown gr5); have pf := (I5.me_grown gr5).frozen; clear ow5 gr5 hg5 I5))
            all_goals
              have J6 := J5.out
              generalize hW6 : World.setCell _ _ _ = W6 at J6 ⊢
              have H6 : Hid (CI w ⟨xk, ⟨x1, x2, x3⟩, ⟨x4, x5, x6⟩⟩ 2 [] R b3 ((A + i) + 1) ⟨none, 0, 0⟩ ⟨some ⟨g5, 0, none⟩, done.length + 1, cap5⟩ (done ++ [⟨3, ⟨none, 0, 0⟩, ⟨some ⟨w4.heap.size, 0, none⟩, 2, 2⟩⟩]) W6) := J6
              clear J6 hW6 J5 H4 I4 HI HZ4 n0 n1 n2 n2l n3l p0 p1 p2 pf m0 m1 m2 z0 z1 z2
              go_wp2_with fail
              go_roundw
              case rel => exact ⟨i + 1, _, _, by omega, by go_num, H6⟩
              case measure => simp [intOf]; omega
          case neg =>
            have hkM : M ≤ i := by omega
            have hkM2 : decide ((A : Int) + i < b) = false := by simp; omega
            have him : A + i = R.length := by rw [HRl.out]; omega
            rw [him] at HI
            clear him
            have HO8 : Hid (HO (fun g => w.heap.size + 2 ≤ g ∧ g < wr.heap.size) wr (.mk 2 [] R) ⟨2, ⟨none, 0, 0⟩, ⟨da, dn, dc⟩⟩) := HI.out.ho
            have T8 : Hid (TI w ⟨xk, ⟨x1, x2, x3⟩, ⟨x4, x5, x6⟩⟩ wr) := ⟨HI.out.bel, HI.out.box, HI.out.res⟩
            have M8 : Hid (Blk wr b3 (encT ⟨2, ⟨none, 0, 0⟩, ⟨da, dn, dc⟩⟩).toArray 25) := HI.out.me
            clear HI
            obtain ⟨m0, m1, m2⟩ := BlkT.cs M8.out
            simp only at m0 m1 m2
            cases hrr : rightT (.mk 2 [] R) with
            | false =>
              have HQ2 : Hid (timesT t A b = (zeroT, 6)) := by show _ = _; rw [HQ.out, HPo.out, hrr]; rfl
              rw [hrr] at krr
              clear hrr
              go_wp2_with (go_at_call 18; refine (krr _ _ HO8.out.held).mono ?_; rintro _ w5 ⟨rfl, gw⟩; have I5 : Hid (TI w ⟨xk, ⟨x1, x2, x3⟩, ⟨x4, x5, x6⟩⟩ w5) := T8.out.go gw.below; have H5 : Hid (HO (fun g => w.heap.size + 2 ≤ g ∧ g < w5.heap.size) w5 (.mk 2 [] R) ⟨2, ⟨none, 0, 0⟩, ⟨da, dn, dc⟩⟩) := HO8.out.bel gw.below; have M5 : Hid (Blk w5 b3 (encT ⟨2, ⟨none, 0, 0⟩, ⟨da, dn, dc⟩⟩).toArray 25) := M8.out.bel gw.below; clear gw; obtain ⟨h0, h1, h2⟩ := BlkT.cs I5.out.res; have hf := I5.out.res.frozen; obtain ⟨i0, i1, i2⟩ := BlkT.cs M5.out)
              refine bodyPost_ret (v := .tuple #[PC.v ⟨0, ⟨none, 0, 0⟩, ⟨none, 0, 0⟩⟩, .int .i64 6]) ?_ rfl (by rw [HQ2.out]; exact I5.out.zero 6 _ _ _)
              have B := blk_put3 I5.out.res ⟨0, ⟨none, 0, 0⟩, ⟨none, 0, 0⟩⟩
              simp only at B
              generalize hW7 : World.setCell _ _ _ = W7 at B ⊢
              obtain ⟨b0, b1, b2⟩ := BlkT.cs B
              simp only at b0 b1 b2
              simp [results, Tryd.results27, go_sem, b0, b1, b2]
            | true =>
              have HQ2 : Hid (timesT t A b = (.mk 2 [] R, 0)) := by show _ = _; rw [HQ.out, HPo.out, hrr]; rfl
              rw [hrr] at krr
              clear hrr
              go_wp2_with (go_at_call 18; refine (krr _ _ HO8.out.held).mono ?_; rintro _ w5 ⟨rfl, gw⟩; have I5 : Hid (TI w ⟨xk, ⟨x1, x2, x3⟩, ⟨x4, x5, x6⟩⟩ w5) := T8.out.go gw.below; have H5 : Hid (HO (fun g => w.heap.size + 2 ≤ g ∧ g < w5.heap.size) w5 (.mk 2 [] R) ⟨2, ⟨none, 0, 0⟩, ⟨da, dn, dc⟩⟩) := HO8.out.bel gw.below; have M5 : Hid (Blk w5 b3 (encT ⟨2, ⟨none, 0, 0⟩, ⟨da, dn, dc⟩⟩).toArray 25) := M8.out.bel gw.below; clear gw; obtain ⟨h0, h1, h2⟩ := BlkT.cs I5.out.res; have hf := I5.out.res.frozen; obtain ⟨i0, i1, i2⟩ := BlkT.cs M5.out)
              refine bodyPost_ret (v := .tuple #[PC.v ⟨2, ⟨none, 0, 0⟩, ⟨da, dn, dc⟩⟩, .int .i64 0]) ?_ rfl (by rw [HQ2.out]; exact I5.out.one H5.out (by omega) 0 _ _ _)
              have B := blk_put3 I5.out.res ⟨2, ⟨none, 0, 0⟩, ⟨da, dn, dc⟩⟩
              simp only at B
              generalize hW7 : World.setCell _ _ _ = W7 at B ⊢
              obtain ⟨b0, b1, b2⟩ := BlkT.cs B
              simp only at b0 b1 b2
              simp [results, Tryd.results27, go_sem, b0, b1, b2]

end Go.Proofs.YtjjlkjfhhpogaaaDoor
