/-
  The walk of the document's Copy: the same pattern in new memory.
-/
import Derived.Test.YtjjlkjfhhpogaaaDoorTm
namespace Go.Proofs.YtjjlkjfhhpogaaaDoor
open Go.RowKit

set_option maxHeartbeats 4000000 in
set_option maxRecDepth 100000 in
theorem copy_any (m : Nat) : ∀ (t : Tree) (x : PC) (w : World), size t ≤ m → size t ≤ 3000 → okT t → HT w t x → Calls Tryd.prog 16 #[x.v] w fun e w' => PostC t w e w' := by
  induction m with
  | zero => intro t x w h; have := size_pos t; omega
  | succ m ih =>
  intro t x w hm hz hok hx
  obtain ⟨k, set, subs, rows, sa, sc, ba, bc, rfl, rfl, hS, hB, hT⟩ := hx.parts
  rw [size_mk] at hm hz
  obtain ⟨ok1, ok2, ok3⟩ := (okT_mk _ _ _).1 hok
  have hlen := length_le_sizeL subs
  have HE : Hid (∀ (j : Nat) (s : Tree) (r : PC) (W : World), subs[j]? = some s → HT W s r → Calls Tryd.prog 16 #[r.v] W fun e w' => PostC s W e w') := fun j s r W hs h1 => ih s r W (by have := size_le_of_at hs; omega) (by have := size_le_of_at hs; omega) (okL.at ok3 hs) h1
  obtain ⟨N, hN⟩ : ∃ N, N = subs.length := ⟨_, rfl⟩
  obtain ⟨S, hSn⟩ : ∃ S, S = set.length := ⟨_, rfl⟩
  have HN : Hid (N = subs.length) := hN
  have HSn : Hid (S = set.length) := hSn
  have HS : Hid (RowS w (.slice sa S sc) set) := by rw [hSn]; exact hS
  have HB : Hid (RowT w (.slice ba N bc) rows) := by rw [hN]; exact hB
  have HT' : Hid (HTs w subs rows) := hT
  have HOk : Hid (set.length ≤ 17592186043904) := ok1
  rw [← hN] at hlen ⊢
  rw [← hSn]
  have hN2 : N ≤ 3000 := by omega
  clear hS hB hT hx hm hz ih hN hSn hlen ok1 ok2 ok3 hok
  go_enter Tryd.func16, Tryd.ntmps16
  go_upto_region 1 with fail
  generalize hW : World.alloc _ _ = W2
  have HB2 : Hid (Below w.heap.size w W2) := by rw [← hW]; exact ((Below.refl _ _).alloc (Nat.le_refl _) _).alloc (by simp) _
  have HX2 : Hid (Blk W2 w.heap.size (encT ⟨k, ⟨sa, S, sc⟩, ⟨ba, N, bc⟩⟩).toArray 25) := by rw [← hW]; exact (Blk.new _ _ _).alloc _
  have HR2 : Hid (Blk W2 (w.heap.size + 1) (encT ⟨0, ⟨none, 0, 0⟩, ⟨none, 0, 0⟩⟩).toArray 25) := by rw [← hW]; exact Blk.new' _ _ _ _ (by simp)
  have HZ2 : Hid (W2.heap.size = w.heap.size + 2) := by rw [← hW]; simp [Hid]
  clear hW
  have x2l : w.heap.size < W2.heap.size := HX2.out.lt
  have n1 : w.heap.size ≠ W2.heap.size := by omega
  have n2 : W2.heap.size ≠ w.heap.size := by omega
  have n3 : w.heap.size ≠ W2.heap.size + 1 := by omega
  have n4 : W2.heap.size + 1 ≠ w.heap.size := by omega
  obtain ⟨x0, x1, x2⟩ := BlkT.cs HX2.out
  simp only at x0 x1 x2
  go_cut [3] (fun v3 wx => ∃ b3 sl, v3 = .pointer (some ⟨b3, 0, none⟩) ∧ Hid (CI w ⟨k, ⟨sa, S, sc⟩, ⟨ba, N, bc⟩⟩ k set subs b3 0 sl ⟨none, 0, 0⟩ [] wx))
  case first =>
    go_region_held3 (fun w' => w'.cell? ⟨w.heap.size, 0, none⟩ = some (.int .i64 k) ∧ w'.cell? ⟨w.heap.size, 1, none⟩ = some (.slice sa S sc)) (go_keep)
      (first
        | (refine step_appSall (by rfl) _ _ (by rfl) W2.heap.size (.slice (some ⟨W2.heap.size, 0, none⟩) 0 0) (by rfl) (OwnX.empty (b := W2.heap.size) ((Blk.new W2 #[] 78).drewN 1) (by omega)) (.slice sa S sc) set (by rfl) (HS.out.bel (below_drewN (HB2.out.alloc HB2.out.size (.cells #[] 78)) 1)) HOk.out (by simp <;> omega) ?_; intro ao cap wa owa gra; have HOa : Hid (OwnS W2.heap.size wa (.slice ao set.length cap) set) := owa; have HBa : Hid (Below w.heap.size w wa) := (below_drewN (HB2.out.alloc HB2.out.size (.cells #[] 78)) 1).grown gra (by have := HZ2.out; simp <;> omega) (own_le (by have := HZ2.out; omega)); have HXa : Hid (Blk wa w.heap.size (encT ⟨k, ⟨sa, S, sc⟩, ⟨ba, N, bc⟩⟩).toArray 25) := ((HX2.out.alloc (.cells #[] 78)).drewN 1).grown gra (own_ne (by have := HZ2.out; omega)); have HRa : Hid (Blk wa (w.heap.size + 1) (encT ⟨0, ⟨none, 0, 0⟩, ⟨none, 0, 0⟩⟩).toArray 25) := ((HR2.out.alloc (.cells #[] 78)).drewN 1).grown gra (own_ne (by have := HZ2.out; omega)); have HZa : Hid (W2.heap.size ≤ wa.heap.size) := (Nat.le_trans (by simp <;> omega) gra.size); obtain ⟨i0, i1, i2⟩ := BlkT.cs HXa.out; clear owa gra)
        | (refine step_appSall (by rfl) _ _ (by rfl) W2.heap.size (.slice (some ⟨W2.heap.size, 0, none⟩) 0 0) (by rfl) (OwnX.empty (b := W2.heap.size) (((Blk.new W2 #[] 78).alloc (.cells #[.int .i64 0, .slice none 0 0, .slice none 0 0] 25)).drewN 1) (by omega)) (.slice sa S sc) set (by rfl) (HS.out.bel (below_drewN ((HB2.out.alloc HB2.out.size (.cells #[] 78)).alloc (HB2.out.alloc HB2.out.size (.cells #[] 78)).size (.cells #[.int .i64 0, .slice none 0 0, .slice none 0 0] 25)) 1)) HOk.out (by simp <;> omega) ?_; intro ao cap wa owa gra; have HOa : Hid (OwnS W2.heap.size wa (.slice ao set.length cap) set) := owa; have HBa : Hid (Below w.heap.size w wa) := (below_drewN ((HB2.out.alloc HB2.out.size (.cells #[] 78)).alloc (HB2.out.alloc HB2.out.size (.cells #[] 78)).size (.cells #[.int .i64 0, .slice none 0 0, .slice none 0 0] 25)) 1).grown gra (by have := HZ2.out; simp <;> omega) (own_le (by have := HZ2.out; omega)); have HXa : Hid (Blk wa w.heap.size (encT ⟨k, ⟨sa, S, sc⟩, ⟨ba, N, bc⟩⟩).toArray 25) := (((HX2.out.alloc (.cells #[] 78)).alloc (.cells #[.int .i64 0, .slice none 0 0, .slice none 0 0] 25)).drewN 1).grown gra (own_ne (by have := HZ2.out; omega)); have HRa : Hid (Blk wa (w.heap.size + 1) (encT ⟨0, ⟨none, 0, 0⟩, ⟨none, 0, 0⟩⟩).toArray 25) := (((HR2.out.alloc (.cells #[] 78)).alloc (.cells #[.int .i64 0, .slice none 0 0, .slice none 0 0] 25)).drewN 1).grown gra (own_ne (by have := HZ2.out; omega)); have HZa : Hid (W2.heap.size ≤ wa.heap.size) := (Nat.le_trans (by simp <;> omega) gra.size); have HMa : Hid (Blk wa (W2.heap.size + 1) (encT ⟨0, ⟨none, 0, 0⟩, ⟨none, 0, 0⟩⟩).toArray 25) := ((Blk.new' (W2.alloc (.cells #[] 78)) #[.int .i64 0, .slice none 0 0, .slice none 0 0] 25 (W2.heap.size + 1) (by simp)).drewN 1).grown gra (own_ne (by have := HZ2.out; omega)); obtain ⟨y0, y1, y2⟩ := BlkT.cs HMa.out; have yf := HMa.out.frozen; obtain ⟨i0, i1, i2⟩ := BlkT.cs HXa.out; clear owa gra)
        | (refine step_appSall (by rfl) _ _ (by rfl) W2.heap.size (.slice (some ⟨W2.heap.size + 1, 0, none⟩) 0 0) (by rfl) (OwnX.empty (b := W2.heap.size + 1) ((Blk.new' (W2.alloc (.cells #[.int .i64 0, .slice none 0 0, .slice none 0 0] 25)) #[] 78 (W2.heap.size + 1) (by simp)).drewN 1) (by omega)) (.slice sa S sc) set (by rfl) (HS.out.bel (below_drewN ((HB2.out.alloc HB2.out.size (.cells #[.int .i64 0, .slice none 0 0, .slice none 0 0] 25)).alloc (HB2.out.alloc HB2.out.size (.cells #[.int .i64 0, .slice none 0 0, .slice none 0 0] 25)).size (.cells #[] 78)) 1)) HOk.out (by simp <;> omega) ?_; intro ao cap wa owa gra; have HOa : Hid (OwnS W2.heap.size wa (.slice ao set.length cap) set) := owa; have HBa : Hid (Below w.heap.size w wa) := (below_drewN ((HB2.out.alloc HB2.out.size (.cells #[.int .i64 0, .slice none 0 0, .slice none 0 0] 25)).alloc (HB2.out.alloc HB2.out.size (.cells #[.int .i64 0, .slice none 0 0, .slice none 0 0] 25)).size (.cells #[] 78)) 1).grown gra (by have := HZ2.out; simp <;> omega) (own_le (by have := HZ2.out; omega)); have HXa : Hid (Blk wa w.heap.size (encT ⟨k, ⟨sa, S, sc⟩, ⟨ba, N, bc⟩⟩).toArray 25) := (((HX2.out.alloc (.cells #[.int .i64 0, .slice none 0 0, .slice none 0 0] 25)).alloc (.cells #[] 78)).drewN 1).grown gra (own_ne (by have := HZ2.out; omega)); have HRa : Hid (Blk wa (w.heap.size + 1) (encT ⟨0, ⟨none, 0, 0⟩, ⟨none, 0, 0⟩⟩).toArray 25) := (((HR2.out.alloc (.cells #[.int .i64 0, .slice none 0 0, .slice none 0 0] 25)).alloc (.cells #[] 78)).drewN 1).grown gra (own_ne (by have := HZ2.out; omega)); have HZa : Hid (W2.heap.size ≤ wa.heap.size) := (Nat.le_trans (by simp <;> omega) gra.size); have HMa : Hid (Blk wa (W2.heap.size) (encT ⟨0, ⟨none, 0, 0⟩, ⟨none, 0, 0⟩⟩).toArray 25) := (((Blk.new W2 #[.int .i64 0, .slice none 0 0, .slice none 0 0] 25).alloc (.cells #[] 78)).drewN 1).grown gra (own_ne (by have := HZ2.out; omega)); obtain ⟨y0, y1, y2⟩ := BlkT.cs HMa.out; have yf := HMa.out.frozen; obtain ⟨i0, i1, i2⟩ := BlkT.cs HXa.out; clear owa gra))
    all_goals go_wp2_with fail
    all_goals go_meet
    · exact ⟨wa.heap.size, ⟨ao, set.length, cap⟩, rfl, CI.start1 HBa.out HXa.out HRa.out HOa.out (by have := HZ2.out; omega) HZa.out⟩
    · exact ⟨W2.heap.size + 1, ⟨ao, set.length, cap⟩, rfl, CI.start2 HBa.out HXa.out HRa.out HMa.out HOa.out (by have := HZ2.out; omega) (by have := HZ2.out; omega)⟩
    · exact ⟨W2.heap.size, ⟨ao, set.length, cap⟩, rfl, CI.start2 HBa.out HXa.out HRa.out HMa.out HOa.out (by have := HZ2.out; omega) (by have := HZ2.out; omega)⟩
  case rest =>
    clear HB2 HX2 HR2 HZ2 x2l n1 n2 n3 n4 x0 x1 x2 HS HOk
    obtain ⟨b3, sl, rfl, HI⟩ := hcut
    obtain ⟨x0, x1, x2⟩ := BlkT.cs HI.out.box
    simp only at x0 x1 x2
    go_wp2_with fail
    clear x0 x1 x2
    go_loopw [16] (fun vi wr => ∃ (j : Nat) (bs : Sl) (done : List PC), j ≤ N ∧ vi = .int .i64 j ∧ Hid (CI w ⟨k, ⟨sa, S, sc⟩, ⟨ba, N, bc⟩⟩ k set subs b3 j sl bs done wr)) (fun vi _ => N - (intOf vi).toNat)
    case atStart => exact ⟨0, _, [], Nat.zero_le _, rfl, HI⟩
    case round =>
      clear HI
      obtain ⟨j, ⟨da, dn, dc⟩, done, hj, rfl, HI⟩ := hrel
      by_cases hlt : j < N
      case neg =>
        have hkN : N ≤ j := by omega
        have hjN : j = subs.length := by have := HN.out; omega
        rw [hjN] at HI
        clear hjN
        obtain ⟨m0, m1, m2⟩ := BlkT.cs HI.out.me
        obtain ⟨z0, z1, z2⟩ := BlkT.cs HI.out.res
        have zf := HI.out.res.frozen
        obtain ⟨la, ln, lc⟩ := sl
        simp only at m0 m1 m2
        go_wp2_with fail
        refine bodyPost_ret (v := PC.v ⟨k, ⟨la, ln, lc⟩, ⟨da, dn, dc⟩⟩) ?_ rfl (HI.out.fin _ _ _)
        simp [results, Tryd.results16]
        have B := blk_put3 HI.out.res ⟨k, ⟨la, ln, lc⟩, ⟨da, dn, dc⟩⟩
        simp only at B
        generalize hW7 : World.setCell _ _ _ = W7 at B ⊢
        exact run_ptv B
      case pos =>
        obtain ⟨s, hs⟩ : ∃ s, subs[j]? = some s := ⟨_, List.getElem?_eq_getElem (by have := HN.out; omega)⟩
        obtain ⟨r, hr, hr2⟩ := HTs.at HT'.out hs
        obtain ⟨rb, ro, rfl, hrb, q0, q1, q2⟩ := RowX.cs3 HB.out hr
        have q0' := (HI.out.bel.cell (by exact hrb)).trans q0
        have q1' := (HI.out.bel.cell (by exact hrb)).trans q1
        have q2' := (HI.out.bel.cell (by exact hrb)).trans q2
        have kE : ∀ W, Below w.heap.size w W → Calls Tryd.prog 16 #[r.v] W fun e w' => PostC s W e w' := fun W g => HE.out j s r W hs (HT.bel g hr2)
        have HSj : Hid (subs[j]? = some s) := hs
        have HL : Hid (done.length ≤ j) := HI.out.len
        have hlt2 : (j : Int) < N := by omega
        obtain ⟨rk, ⟨rsa, rsn, rsc⟩, rba, rbn, rbc⟩ := r
        simp only at q0' q1' q2'
        obtain ⟨m0, m1, m2⟩ := BlkT.cs HI.out.me
        simp only at m0 m1 m2
        have bl3 : b3 < wr.heap.size := HI.out.me.lt
        clear q0 q1 q2 hr hr2 hs HB
        go_wp2_with fail
        go_region_law
          (first
            | (go_simp; go_at_call 16; refine (kE _ (below_drewN (HI.out.bel.alloc HI.out.bel.size _) 1)).mono ?_; rintro _ w4 ⟨r4, rfl, ho4, bb4⟩; have I4 : Hid (CI w ⟨k, ⟨sa, S, sc⟩, ⟨some ⟨rb, ro, none⟩, N, bc⟩⟩ k set subs b3 j sl ⟨da, dn, dc⟩ done w4) := HI.out.go (bstep (below_drewN (bel_alloc _ _) 1) bb4); have H4 : Hid (HO (fun g => wr.heap.size + 1 ≤ g ∧ g < w4.heap.size) w4 s r4) := ho4.low (by simp); clear ho4 bb4; obtain ⟨r4k, ⟨r4a, r4b, r4c⟩, r4d, r4e, r4f⟩ := r4; obtain ⟨n0, n1, n2⟩ := BlkT.cs I4.out.me; have n2l := I4.out.me.lt)
            | (refine step_appT (by rfl) _ _ (by rfl) 0 (.slice da dn dc) done (by rfl) (I4.out.row.alloc _) ⟨r4k, ⟨r4a, r4b, r4c⟩, ⟨r4d, r4e, r4f⟩⟩ w4.heap.size (by rfl) (Blk.new _ _ _) (by have := HL.out; omega) (Nat.zero_le _) (w4.heap.size + 1) (by simp) ?_; intro g5 cap5 w5 ow5 gr5 hg5; have I5 := I4.out.go (bel_alloc _ (.cells (encT ⟨r4k, ⟨r4a, r4b, r4c⟩, ⟨r4d, r4e, r4f⟩⟩).toArray 25)); have J5 : Hid _ := I5.step HSj.out (H4.out.bel (bel_alloc _ _)) (Nat.lt_succ_of_lt HI.out.me.lt) (fun g hg => Nat.lt_succ_of_lt (HI.out.row.lt hg).2) ow5 gr5 (by simpa using hg5); obtain ⟨p0, p1, p2⟩ := BlkT.cs (I5.me_grown gr5); have pf := (I5.me_grown gr5).frozen; clear ow5 gr5 hg5 I5))
        all_goals
          have J6 := J5.out
          generalize hW6 : World.setCell _ _ _ = W6 at J6 ⊢
          have H6 : Hid (CI w ⟨k, ⟨sa, S, sc⟩, ⟨some ⟨rb, ro, none⟩, N, bc⟩⟩ k set subs b3 (j + 1) sl ⟨some ⟨g5, 0, none⟩, done.length + 1, cap5⟩ (done ++ [⟨r4k, ⟨r4a, r4b, r4c⟩, ⟨r4d, r4e, r4f⟩⟩]) W6) := J6
          clear J6 hW6 J5 H4 I4 HI n0 n1 n2 n2l p0 p1 p2 pf m0 m1 m2 q0' q1' q2' kE
          go_wp2_with fail
          go_roundw
          case rel => exact ⟨j + 1, _, _, by omega, by go_num, H6⟩
          case measure => simp [intOf]; omega

end Go.Proofs.YtjjlkjfhhpogaaaDoor
