/-
  The walk of row: a pattern so many times, put together.
-/
import Derived.Test.YtjjlkjfhhpogaaaGreatDoorTm
namespace Go.Proofs.YtjjlkjfhhpogaaaGreatDoor
open Go.RowKit

set_option maxRecDepth 100000 in
set_option maxHeartbeats 8000000 in
theorem row_any (t : Tree) (x : PC) (a m : Nat) (e : Bool) (w : World) (hz : size t ≤ 3000) (hok : okT t) (hx : HT w t x) (ha : a ≤ 300) (hm : m ≤ 300) :
    Calls Tryz.prog 131 #[x.v, .int .i64 a, .int .i64 m, .bool e] w fun e' w' => PostC (rowT t a m e) w e' w' := by
  obtain ⟨xk, ⟨x1, x2, x3⟩, x4, x5, x6⟩ := x
  have kE : ∀ W, Below w.heap.size w W → Calls Tryz.prog 146 #[PC.v ⟨xk, ⟨x1, x2, x3⟩, x4, x5, x6⟩] W fun e w' => PostC t W e w' := fun W g => copied_any _ t _ W (Nat.le_refl _) hz hok (HT.bel g hx)
  obtain ⟨R, hR⟩ : ∃ R, R = rowL t a m e := ⟨_, rfl⟩
  have HRr : Hid (R = rowL t a m e) := hR
  have HRl : Hid (R.length = a + m + (if e then 1 else 0)) := by show _ = _; rw [hR, rowL_len]
  have HR1 : Hid (∀ j, j < a → R[j]? = some t) := fun j hj => by rw [hR]; exact rowL_at1 hj
  have HR2 : Hid (∀ j, j < m → R[a + j]? = some (mayT t)) := fun j hj => by rw [hR]; exact rowL_at2 hj
  have HR3 : Hid (e = true → R[a + m]? = some (starT t)) := fun he => by rw [hR, he]; exact rowL_at3
  have HPo : Hid (rowT t a m e = .mk 2 [] R) := by show _ = _; rw [hR]; rfl
  clear hx hz hok hR
  go_enter Tryz.func131, Tryz.ntmps131
  go_wp2_with fail
  generalize hW : World.alloc _ _ = W
  have HI : Hid (CI w ⟨xk, ⟨x1, x2, x3⟩, ⟨x4, x5, x6⟩⟩ 2 [] R (w.heap.size + 1 + 1) 0 ⟨none, 0, 0⟩ ⟨none, 0, 0⟩ [] W) := by
    rw [← hW]
    exact CI.start0' (((Below.refl _ _).alloc (Nat.le_refl _) _).alloc (by simp) _) ((Blk.new _ _ _).alloc _) (Blk.new' _ _ _ _ (by simp)) (by simp) (by simp)
  clear hW
  go_loopw [12] (fun vi wr => ∃ (j : Nat) (bs : Sl) (done : List PC), j ≤ a ∧ vi = .int .i64 j ∧ Hid (CI w ⟨xk, ⟨x1, x2, x3⟩, ⟨x4, x5, x6⟩⟩ 2 [] R (w.heap.size + 1 + 1) j ⟨none, 0, 0⟩ bs done wr)) (fun vi _ => a - (intOf vi).toNat)
  case atStart => exact ⟨0, _, [], Nat.zero_le _, rfl, HI⟩
  case round =>
    clear HI
    obtain ⟨j, ⟨da, dn, dc⟩, done, hj, rfl, HI⟩ := hrel
    by_cases hlt : j < a
    case pos =>
      have HSj : Hid (R[j]? = some t) := HR1.out j hlt
      have hlt2 : (j : Int) < a := by omega
      obtain ⟨m0, m1, m2⟩ := BlkT.cs HI.out.me
      obtain ⟨z0, z1, z2⟩ := BlkT.cs HI.out.box
      simp only at m0 m1 m2 z0 z1 z2
      have bl3 : w.heap.size + 1 + 1 < wr.heap.size := HI.out.me.lt
      have HL : Hid (done.length ≤ j) := HI.out.len
      go_wp2_with fail
      go_region_law
        (first
          | (go_simp; go_at_call 146; refine (kE _ (below_drewN HI.out.bel 1)).mono ?_; rintro _ w4 ⟨r4, rfl, ho4, bb4⟩; have I4 : Hid (CI w ⟨xk, ⟨x1, x2, x3⟩, ⟨x4, x5, x6⟩⟩ 2 [] R (w.heap.size + 1 + 1) j ⟨none, 0, 0⟩ ⟨da, dn, dc⟩ done w4) := HI.out.go (bstep (below_drewN (Below.refl _ _) 1) bb4); have H4 : Hid (HO (fun g => wr.heap.size ≤ g ∧ g < w4.heap.size) w4 t r4) := ho4.low (by simp); clear ho4 bb4; obtain ⟨r4k, ⟨r4a, r4b, r4c⟩, r4d, r4e, r4f⟩ := r4; obtain ⟨n0, n1, n2⟩ := BlkT.cs I4.out.me; have n2l := I4.out.me.lt)
          | (refine step_appT (by rfl) _ _ (by rfl) 0 (.slice da dn dc) done (by rfl) (I4.out.row.alloc _) ⟨r4k, ⟨r4a, r4b, r4c⟩, ⟨r4d, r4e, r4f⟩⟩ w4.heap.size (by rfl) (Blk.new' _ _ _ _ (by simp)) (by have := HL.out; omega) (Nat.zero_le _) (w4.heap.size + 1) (by simp) ?_; intro g5 cap5 w5 ow5 gr5 hg5; have I5 := I4.out.go (bel_alloc _ (.cells (encT ⟨r4k, ⟨r4a, r4b, r4c⟩, ⟨r4d, r4e, r4f⟩⟩).toArray 26)); have J5 : Hid _ := I5.step HSj.out (H4.out.bel (bel_alloc _ _)) HI.out.me.lt (fun g hg => (HI.out.row.lt hg).2) ow5 gr5 (by simpa using hg5); obtain ⟨p0, p1, p2⟩ := BlkT.cs (I5.me_grown gr5); have pf := (I5.me_grown gr5).frozen; clear ow5 gr5 hg5 I5))
      all_goals
        have J6 := J5.out
        generalize hW6 : World.setCell _ _ _ = W6 at J6 ⊢
        have H6 : Hid (CI w ⟨xk, ⟨x1, x2, x3⟩, ⟨x4, x5, x6⟩⟩ 2 [] R (w.heap.size + 1 + 1) (j + 1) ⟨none, 0, 0⟩ ⟨some ⟨g5, 0, none⟩, done.length + 1, cap5⟩ (done ++ [⟨r4k, ⟨r4a, r4b, r4c⟩, ⟨r4d, r4e, r4f⟩⟩]) W6) := J6
        clear J6 hW6 J5 H4 I4 HI n0 n1 n2 n2l p0 p1 p2 pf m0 m1 m2 z0 z1 z2
        go_wp2_with fail
        go_roundw
        case rel => exact ⟨j + 1, _, _, by omega, by go_num, H6⟩
        case measure => simp [intOf]; omega
    case neg =>
      have hkN : a ≤ j := by omega
      have hja : j = a + 0 := by omega
      rw [hja] at HI
      clear hja
      go_wp2_with fail
      go_loopw [23] (fun vi wr => ∃ (i : Nat) (bs : Sl) (done : List PC), i ≤ m ∧ vi = .int .i64 i ∧ Hid (CI w ⟨xk, ⟨x1, x2, x3⟩, ⟨x4, x5, x6⟩⟩ 2 [] R (w.heap.size + 1 + 1) (a + i) ⟨none, 0, 0⟩ bs done wr)) (fun vi _ => m - (intOf vi).toNat)
      case atStart => exact ⟨0, _, _, Nat.zero_le _, rfl, HI⟩
      case round =>
        clear HI
        obtain ⟨i, ⟨da, dn, dc⟩, done, hi, rfl, HI⟩ := hrel
        by_cases hlt : i < m
        case pos =>
          have HSj : Hid (R[a + i]? = some (mayT t)) := HR2.out i hlt
          have hlt2 : (i : Int) < m := by omega
          obtain ⟨m0, m1, m2⟩ := BlkT.cs HI.out.me
          obtain ⟨z0, z1, z2⟩ := BlkT.cs HI.out.box
          simp only at m0 m1 m2 z0 z1 z2
          have bl3 : w.heap.size + 1 + 1 < wr.heap.size := HI.out.me.lt
          have HL : Hid (done.length ≤ a + i) := HI.out.len
          go_wp2_with fail
          go_region_law
            (first
              | (go_simp; go_at_call 146; refine (kE _ (below_drewN HI.out.bel 1)).mono ?_; rintro _ w4 ⟨r4, rfl, ho4, bb4⟩; have I4 : Hid (CI w ⟨xk, ⟨x1, x2, x3⟩, ⟨x4, x5, x6⟩⟩ 2 [] R (w.heap.size + 1 + 1) (a + i) ⟨none, 0, 0⟩ ⟨da, dn, dc⟩ done w4) := HI.out.go (bstep (below_drewN (Below.refl _ _) 1) bb4); have H4 : Hid (HO (fun g => wr.heap.size ≤ g ∧ g < w4.heap.size) w4 t r4) := ho4.low (by simp); have ZZ4 : wr.heap.size ≤ w4.heap.size := (Nat.le_trans (by simp) bb4.size); clear ho4 bb4; obtain ⟨r4k, ⟨r4a, r4b, r4c⟩, r4d, r4e, r4f⟩ := r4; obtain ⟨n0, n1, n2⟩ := BlkT.cs I4.out.me; have n2l := I4.out.me.lt; have n3l := Nat.lt_succ_of_lt n2l; have HZ4 : Hid (wr.heap.size ≤ w4.heap.size) := ZZ4; clear ZZ4)
              | (refine step_appT (by rfl) _ _ (by rfl) 0 (.slice da dn dc) done (by rfl) ((I4.out.go (bel_alloc _ (.cells #[.int .i64 r4k, .slice r4a r4b r4c, .slice r4d r4e r4f, .int .i64 2, .slice none 0 0, .slice none 0 0] 26))).row.alloc _) ⟨3, ⟨none, 0, 0⟩, ⟨some ⟨w4.heap.size, 0, none⟩, 2, 2⟩⟩ (w4.heap.size + 1) (by rfl) (Blk.new' _ _ _ _ (by simp)) (by have := HL.out; omega) (Nat.zero_le _) (w4.heap.size + 1 + 1) (by simp) ?_; intro g5 cap5 w5 ow5 gr5 hg5; have I5 := (I4.out.go (bel_alloc _ (.cells #[.int .i64 r4k, .slice r4a r4b r4c, .slice r4d r4e r4f, .int .i64 2, .slice none 0 0, .slice none 0 0] 26))).go (bel_alloc _ (.cells (encT ⟨3, ⟨none, 0, 0⟩, ⟨some ⟨w4.heap.size, 0, none⟩, 2, 2⟩⟩).toArray 26)); have J5 : Hid _ := I5.step HSj.out ((HO_sub2 (H4.out.bel (bel_alloc _ (.cells #[.int .i64 r4k, .slice r4a r4b r4c, .slice r4d r4e r4f, .int .i64 2, .slice none 0 0, .slice none 0 0] 26))) (HO_none 2) (Blk.new _ _ _) rfl ⟨HZ4.out, by simp⟩).bel (bel_alloc _ _)) HI.out.me.lt (fun g hg => (HI.out.row.lt hg).2) ow5 gr5 (by simpa using hg5); obtain ⟨p0, p1, p2⟩ := BlkT.cs (I5.me_grown gr5); have pf := (I5.me_grown gr5).frozen; clear ow5 gr5 hg5 I5))
          all_goals
            have J6 := J5.out
            generalize hW6 : World.setCell _ _ _ = W6 at J6 ⊢
            have H6 : Hid (CI w ⟨xk, ⟨x1, x2, x3⟩, ⟨x4, x5, x6⟩⟩ 2 [] R (w.heap.size + 1 + 1) ((a + i) + 1) ⟨none, 0, 0⟩ ⟨some ⟨g5, 0, none⟩, done.length + 1, cap5⟩ (done ++ [⟨3, ⟨none, 0, 0⟩, ⟨some ⟨w4.heap.size, 0, none⟩, 2, 2⟩⟩]) W6) := J6
            clear J6 hW6 J5 H4 I4 HI n0 n1 n2 n2l p0 p1 p2 pf m0 m1 m2 z0 z1 z2
            go_wp2_with fail
            go_roundw
            case rel => exact ⟨i + 1, _, _, by omega, by go_num, H6⟩
            case measure => simp [intOf]; omega
        case neg =>
          have hkM : m ≤ i := by omega
          have him : i = m := by omega
          rw [him] at HI
          clear him
          cases e
          case false =>
            have hfin : a + m = R.length := by rw [HRl.out]; simp
            rw [hfin] at HI
            clear hfin
            obtain ⟨m0, m1, m2⟩ := BlkT.cs HI.out.me
            obtain ⟨z0, z1, z2⟩ := BlkT.cs HI.out.res
            have zf := HI.out.res.frozen
            simp only at m0 m1 m2
            go_wp2_with fail
            refine bodyPost_ret (v := PC.v ⟨2, ⟨none, 0, 0⟩, ⟨da, dn, dc⟩⟩) ?_ rfl (by rw [HPo.out]; exact HI.out.fin _ _ _)
            simp [results, Tryz.results131]
            have B := blk_put3 HI.out.res ⟨2, ⟨none, 0, 0⟩, ⟨da, dn, dc⟩⟩
            simp only at B
            generalize hW7 : World.setCell _ _ _ = W7 at B ⊢
            exact run_ptv B
          case true =>
            have HSj : Hid (R[a + m]? = some (starT t)) := HR3.out rfl
            obtain ⟨m0, m1, m2⟩ := BlkT.cs HI.out.me
            obtain ⟨z0, z1, z2⟩ := BlkT.cs HI.out.box
            simp only at m0 m1 m2 z0 z1 z2
            have bl3 : w.heap.size + 1 + 1 < wr.heap.size := HI.out.me.lt
            have HL : Hid (done.length ≤ a + m) := HI.out.len
            go_wp2_with fail
            go_region_law
              (first
                | (go_simp; go_at_call 146; refine (kE _ (below_drewN HI.out.bel 1)).mono ?_; rintro _ w4 ⟨r4, rfl, ho4, bb4⟩; have I4 : Hid (CI w ⟨xk, ⟨x1, x2, x3⟩, ⟨x4, x5, x6⟩⟩ 2 [] R (w.heap.size + 1 + 1) (a + m) ⟨none, 0, 0⟩ ⟨da, dn, dc⟩ done w4) := HI.out.go (bstep (below_drewN (Below.refl _ _) 1) bb4); have H4 : Hid (HO (fun g => wr.heap.size ≤ g ∧ g < w4.heap.size) w4 t r4) := ho4.low (by simp); have ZZ4 : wr.heap.size ≤ w4.heap.size := (Nat.le_trans (by simp) bb4.size); clear ho4 bb4; obtain ⟨r4k, ⟨r4a, r4b, r4c⟩, r4d, r4e, r4f⟩ := r4; obtain ⟨n0, n1, n2⟩ := BlkT.cs I4.out.me; have n2l := I4.out.me.lt; have n3l := Nat.lt_succ_of_lt n2l; have HZ4 : Hid (wr.heap.size ≤ w4.heap.size) := ZZ4; clear ZZ4)
                | (refine step_appT (by rfl) _ _ (by rfl) 0 (.slice da dn dc) done (by rfl) ((I4.out.go (bel_alloc _ (.cells #[.int .i64 r4k, .slice r4a r4b r4c, .slice r4d r4e r4f] 26))).row.alloc _) ⟨4, ⟨none, 0, 0⟩, ⟨some ⟨w4.heap.size, 0, none⟩, 1, 1⟩⟩ (w4.heap.size + 1) (by rfl) (Blk.new' _ _ _ _ (by simp)) (by have := HL.out; omega) (Nat.zero_le _) (w4.heap.size + 1 + 1) (by simp) ?_; intro g5 cap5 w5 ow5 gr5 hg5; have I5 := (I4.out.go (bel_alloc _ (.cells #[.int .i64 r4k, .slice r4a r4b r4c, .slice r4d r4e r4f] 26))).go (bel_alloc _ (.cells (encT ⟨4, ⟨none, 0, 0⟩, ⟨some ⟨w4.heap.size, 0, none⟩, 1, 1⟩⟩).toArray 26)); have J5 : Hid _ := I5.step HSj.out ((HO_sub1 (H4.out.bel (bel_alloc _ (.cells #[.int .i64 r4k, .slice r4a r4b r4c, .slice r4d r4e r4f] 26))) (Blk.new _ _ _) rfl ⟨HZ4.out, by simp⟩).bel (bel_alloc _ _)) HI.out.me.lt (fun g hg => (HI.out.row.lt hg).2) ow5 gr5 (by simpa using hg5); obtain ⟨p0, p1, p2⟩ := BlkT.cs (I5.me_grown gr5); have pf := (I5.me_grown gr5).frozen; clear ow5 gr5 hg5 I5))
            all_goals
              have J6 := J5.out
              generalize hW6 : World.setCell _ _ _ = W6 at J6 ⊢
              have H6 : Hid (CI w ⟨xk, ⟨x1, x2, x3⟩, ⟨x4, x5, x6⟩⟩ 2 [] R (w.heap.size + 1 + 1) ((a + m) + 1) ⟨none, 0, 0⟩ ⟨some ⟨g5, 0, none⟩, done.length + 1, cap5⟩ (done ++ [⟨4, ⟨none, 0, 0⟩, ⟨some ⟨w4.heap.size, 0, none⟩, 1, 1⟩⟩]) W6) := J6
              clear J6 hW6 J5 H4 I4 HI n0 n1 n2 n2l p0 p1 p2 pf m0 m1 m2 z0 z1 z2
              have hfin : a + m + 1 = R.length := by rw [HRl.out]; simp
              rw [hfin] at H6
              clear hfin
              obtain ⟨m0, m1, m2⟩ := BlkT.cs H6.out.me
              obtain ⟨z0, z1, z2⟩ := BlkT.cs H6.out.res
              have zf := H6.out.res.frozen
              simp only at m0 m1 m2
              go_wp2_with fail
              refine bodyPost_ret (v := PC.v ⟨2, ⟨none, 0, 0⟩, ⟨some ⟨g5, 0, none⟩, done.length + 1, cap5⟩⟩) ?_ rfl (by rw [HPo.out]; exact H6.out.fin _ _ _)
              simp [results, Tryz.results131]
              have B := blk_put3 H6.out.res ⟨2, ⟨none, 0, 0⟩, ⟨some ⟨g5, 0, none⟩, done.length + 1, cap5⟩⟩
              simp only at B
              generalize hW7 : World.setCell _ _ _ = W7 at B ⊢
              exact run_ptv B

end Go.Proofs.YtjjlkjfhhpogaaaGreatDoor
