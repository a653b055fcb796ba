/-
  slices.Sort's parts at uint32: partialInsertionSort: what it says is sorted is sorted.
-/
import Derived.Test.YtdilnelfkbeamaaQs3
import Derived.Deep.LoopGhost
import Derived.Deep.DeepCutAuto
import Derived.Deep.CutBlock
namespace Go.Proofs.Ytdilnelfkbeamaa
open Go.RowKit Go.Shelf
open Go.Sort (Holds putRow PermIn SortedIn Below ltInt swp size_swp swp_permIn permIn_refl permIn_trans permIn_all swo_ltInt Ins swp_get)

theorem ins_start {a k : Nat} {d : Array Int} (h : SortedIn ltInt a k d) (hk : a < k) (hkd : k < d.size) : Ins ltInt a (k - 1) (k - 1) (swp d k (k - 1)) := by
  have g := swp_get d hkd (show k - 1 < d.size by omega)
  refine ⟨fun p q hap hpq hqi _ hq => ?_, fun q h1 h2 => by omega⟩
  rw [g, g, if_neg (by omega), if_neg (by omega), if_neg (by omega), if_neg (by omega)]
  exact h p q hap hpq (by omega)

theorem sorted_congr_swp {a i j : Nat} {d : Array Int} (h : SortedIn ltInt a i d) (hij : i + 1 ≤ j) (hj : j < d.size) : SortedIn ltInt a i (swp d j (j - 1)) := by
  have g := swp_get d hj (show j - 1 < d.size by omega)
  intro p q hap hpq hqi
  rw [g, g, if_neg (by omega), if_neg (by omega), if_neg (by omega), if_neg (by omega)]
  exact h p q hap hpq hqi

/-- The row within the stretch, sorted up to k. -/
structure Upto (w0 : World) (blk off : Nat) (d : Array Int) (a b k : Nat) (dk : Array Int) (W : World) : Prop where
  size : dk.size = d.size
  perm : PermIn a b d dk
  up : SortedIn ltInt a k dk
  sw : SWu w0 blk off dk W

/-- The row within the stretch, one number on its way down. -/
structure Downto (w0 : World) (blk off : Nat) (d : Array Int) (a b j k : Nat) (dk : Array Int) (W : World) : Prop where
  size : dk.size = d.size
  perm : PermIn a b d dk
  ins : Ins ltInt a j k dk
  sw : SWu w0 blk off dk W

set_option maxRecDepth 100000 in
set_option maxHeartbeats 4000000 in
theorem shortIns_any (w0 : World) (blk off cap a b : Nat) (d0 d : Array Int) (W : World) (R : RowU w0 blk off d0) (hs : d.size = d0.size) (hab : a < b) (hb : b ≤ d.size) (hsz : d.size < 4611686018427387904) (hB : Below ltInt a b d) (h : SWu w0 blk off d W) :
    Calls Try.prog 53 #[.slice (some ⟨blk, off, none⟩) d.size cap, .int .i64 a, .int .i64 b] W fun e W' =>
      ∃ (r : Bool) (d' : Array Int), e = .returned (.bool r) ∧ PermIn a b d d' ∧ (r = true → SortedIn ltInt a b d') ∧ SWu w0 blk off d' W' := by
  have HS : Hid (d.size = d0.size) := hs
  have HB : Hid (∀ dk, PermIn a b d dk → Below ltInt a b dk) := fun dk hP => Below.permA permIn_all hb hB hP
  have U0 : Upto w0 blk off d a b (a + 1) d W := ⟨rfl, permIn_refl _ _ _, fun i j h1 h2 h3 => by omega, h⟩
  clear hs hB h
  go_enter Try.func53, Try.ntmps53
  go_wp2_with fail
  go_loopg [7, 8] 5 (fun g1 vi vs wr => ∃ (i s : Nat) (dk : Array Int), vi = .int .i64 i ∧ vs = .int .i64 s ∧ s ≤ 5 ∧ 5 - s ≤ g1 ∧ a < i ∧ i ≤ b ∧ Upto w0 blk off d a b i dk wr)
  case atStart => exact ⟨a + 1, 0, d, by go_num, rfl, by omega, by omega, by omega, by omega, U0⟩
  case round =>
    clear U0
    obtain ⟨i, s, dk, rfl, rfl, hs5, hg1, hai, hib, U⟩ := hrel
    by_cases hs : s < 5
    · go_wp2_with fail
      go_loopg [7] (b - i) (fun g2 vi wr2 => ∃ k : Nat, vi = .int .i64 k ∧ i ≤ k ∧ k ≤ b ∧ b - k ≤ g2 ∧ Upto w0 blk off d a b k dk wr2)
      case atStart => exact ⟨i, rfl, Nat.le_refl _, hib, Nat.le_refl _, U⟩
      case round =>
        clear U
        obtain ⟨k, rfl, hik, hkb, hg2, U⟩ := hrel
        have HSK : Hid (dk.size = d.size) := U.size
        by_cases hk : k < b
        · obtain ⟨G, hG, hcw, hfw⟩ := fam R U.sw (HSK.out.trans HS.out)
          rw [HSK.out] at hcw hfw
          have HG : Hid (∀ t, G t = dk[t]!) := hG
          clear hG
          have hdec : decide ((k : Int) < b) = true := decide_eq_true (by omega)
          cases hl : ltInt (G k) (G (k - 1)) with
          | false =>
            have hless := fun W => less_any (G k) (G (k - 1)) W
            rw [hl] at hless
            go_wp2_with fail
            go_quiet (first | (go_at_call 54; refine Calls.quiet_of_same (hless _)))
            go_wp2_with fail
            go_roundg (b - (k + 1))
            case measure => omega
            case rel => exact ⟨k + 1, by go_num, by omega, by omega, Nat.le_refl _, U.size, U.perm, SortedIn.snoc swo_ltInt U.up (by rw [← HG.out, ← HG.out]; exact hl), U.sw.drewN nq⟩
          | true =>
            have hless := fun W => less_any (G k) (G (k - 1)) W
            rw [hl] at hless
            have hne : ((k : Int) == b) = false := by simp; omega
            go_wp2_with fail
            go_quiet (first | (go_at_call 54; refine Calls.quiet_of_same (hless _)))
            have U2 : Upto w0 blk off d a b k dk (wr.drewN nq) := ⟨U.size, U.perm, U.up, U.sw.drewN nq⟩
            clear U hcw hfw hless
            generalize wr.drewN nq = w2 at U2 ⊢
            by_cases h50 : b - a < 50
            · go_wp2_with fail
              go_ret
              exact ⟨false, dk, rfl, U2.perm, (fun h => by cases h), U2.sw⟩
            · obtain ⟨G2, hG2, hcw, hfw⟩ := fam R U2.sw (HSK.out.trans HS.out)
              rw [HSK.out] at hcw hfw
              have D0 : Downto w0 blk off d a b (k - 1) (k - 1) (swp dk k (k - 1)) ((w2.setCell ⟨blk, off + k, none⟩ (.int .u32 (G2 (k - 1)))).setCell ⟨blk, off + (k - 1), none⟩ (.int .u32 (G2 k))).drew := by
                refine ⟨by rw [size_swp]; exact HSK.out, permIn_trans _ _ _ _ _ U2.perm (swp_permIn dk a b k (k - 1) (by omega) hk (by omega) (by omega) (by rw [HSK.out]; exact hb)), ins_start U2.up (by omega) (by rw [HSK.out]; omega), ?_⟩
                rw [hG2, hG2]
                exact U2.sw.swapped R k (k - 1) (by rw [HSK.out]; omega) (by rw [HSK.out]; omega)
              clear hG2 U2 HG hl
              go_wp2_with fail
              go_region
              generalize ((w2.setCell ⟨blk, off + k, none⟩ (.int .u32 (G2 (k - 1)))).setCell ⟨blk, off + (k - 1), none⟩ (.int .u32 (G2 k))).drew = w3 at D0 ⊢
              clear hcw hfw
              go_upto_if 61 with fail
              go_cut [9] (fun s9 wx => ∃ dj, Upto w0 blk off d a b k dj wx)
              case first =>
                by_cases h2 : 2 ≤ k - a
                · go_wp2_with fail
                  go_loopg [9] (k - 1) (fun g3 vj wq => ∃ (j : Nat) (dj : Array Int), vj = .int .i64 j ∧ a ≤ j ∧ j ≤ k - 1 ∧ j ≤ g3 ∧ Downto w0 blk off d a b j (k - 1) dj wq)
                  case atStart => exact ⟨k - 1, _, by congr 1; omega, by omega, by omega, by omega, D0⟩
                  case round =>
                    clear D0
                    obtain ⟨j, dj, rfl, haj, hjk, hg3, D⟩ := hrel
                    have HSJ : Hid (dj.size = d.size) := D.size
                    by_cases hj1 : 1 ≤ j
                    · obtain ⟨G, hG, hcw, hfw⟩ := fam R D.sw (HSJ.out.trans HS.out)
                      rw [HSJ.out] at hcw hfw
                      have HG : Hid (∀ t, G t = dj[t]!) := hG
                      clear hG
                      have hless := fun W => less_any (G j) (G (j - 1)) W
                      cases hl : ltInt (G j) (G (j - 1)) with
                      | true =>
                        rw [hl] at hless
                        have haj' : a < j := by
                          rcases HB.out dj D.perm with h0 | h0
                          · omega
                          · by_cases e : j = a
                            · exfalso
                              have := h0 j (by omega) (by omega)
                              rw [← e, ← HG.out, ← HG.out, hl] at this
                              cases this
                            · omega
                        go_wp2_with fail
                        go_quiet (first | (go_at_call 54; refine Calls.quiet_of_same (hless _)))
                        have D1 : Downto w0 blk off d a b (j - 1) (k - 1) (swp dj j (j - 1)) (((wr.drewN nq).setCell ⟨blk, off + j, none⟩ (.int .u32 (G (j - 1)))).setCell ⟨blk, off + (j - 1), none⟩ (.int .u32 (G j))).drew := by
                          refine ⟨by rw [size_swp]; exact HSJ.out, permIn_trans _ _ _ _ _ D.perm (swp_permIn dj a b j (j - 1) (by omega) (by omega) (by omega) (by omega) (by rw [HSJ.out]; exact hb)), ?_, ?_⟩
                          · have := D.ins
                            obtain ⟨j', rfl⟩ : ∃ j', j = j' + 1 := ⟨j - 1, by omega⟩
                            exact Ins.step this (by have := hl; rw [HG.out, HG.out] at this; exact this) (by omega) (by rw [HSJ.out]; omega)
                          · rw [HG.out, HG.out]
                            exact (D.sw.drewN nq).swapped R j (j - 1) (by rw [HSJ.out]; omega) (by rw [HSJ.out]; omega)
                        clear hl hless HG D
                        go_wp2_with fail
                        go_region
                        go_wp2_with fail
                        go_roundg (j - 1)
                        case measure => omega
                        case rel => exact ⟨j - 1, _, by congr 1; omega, by omega, by omega, Nat.le_refl _, D1⟩
                      | false =>
                        rw [hl] at hless
                        go_wp2_with fail
                        go_quiet (first | (go_at_call 54; refine Calls.quiet_of_same (hless _)))
                        go_wp2_with fail
                        go_meet
                        case rel =>
                          refine ⟨dj, HSJ.out, D.perm, ?_, D.sw.drewN nq⟩
                          have := D.ins.stop swo_ltInt (Or.inr (by rw [← HG.out, ← HG.out]; exact hl))
                          rwa [show k - 1 + 1 = k by omega] at this
                    · go_wp2_with fail
                      go_meet
                      case rel =>
                        refine ⟨dj, HSJ.out, D.perm, ?_, D.sw⟩
                        have := D.ins.stop swo_ltInt (Or.inl (by omega))
                        rwa [show k - 1 + 1 = k by omega] at this
                · go_wp2_with fail
                  go_meet
                  case rel => exact ⟨_, D0.size, D0.perm, (fun p q h1 h2 h3 => by omega), D0.sw⟩
              case rest =>
                clear D0
                obtain ⟨dj, U3⟩ := hcut
                by_cases h2 : 2 ≤ b - k
                · go_wp2_with fail
                  go_loopg [10] (b - (k + 1)) (fun g3 vj wq => ∃ (j : Nat) (dj : Array Int), vj = .int .i64 j ∧ k + 1 ≤ j ∧ j ≤ b ∧ b - j ≤ g3 ∧ Upto w0 blk off d a b k dj wq)
                  case atStart => exact ⟨k + 1, _, by go_num, by omega, by omega, by omega, U3⟩
                  case round =>
                    clear U3
                    obtain ⟨j, dj, rfl, haj, hjk, hg3, D⟩ := hrel
                    have HSJ : Hid (dj.size = d.size) := D.size
                    by_cases hj1 : j < b
                    · obtain ⟨G, hG, hcw, hfw⟩ := fam R D.sw (HSJ.out.trans HS.out)
                      rw [HSJ.out] at hcw hfw
                      have HG : Hid (∀ t, G t = dj[t]!) := hG
                      clear hG
                      have hless := fun W => less_any (G j) (G (j - 1)) W
                      cases hl : ltInt (G j) (G (j - 1)) with
                      | true =>
                        rw [hl] at hless
                        go_wp2_with fail
                        go_quiet (first | (go_at_call 54; refine Calls.quiet_of_same (hless _)))
                        have D1 : Upto w0 blk off d a b k (swp dj j (j - 1)) (((wr.drewN nq).setCell ⟨blk, off + j, none⟩ (.int .u32 (G (j - 1)))).setCell ⟨blk, off + (j - 1), none⟩ (.int .u32 (G j))).drew := by
                          refine ⟨by rw [size_swp]; exact HSJ.out, permIn_trans _ _ _ _ _ D.perm (swp_permIn dj a b j (j - 1) (by omega) (by omega) (by omega) (by omega) (by rw [HSJ.out]; exact hb)), sorted_congr_swp D.up haj (by rw [HSJ.out]; omega), ?_⟩
                          rw [HG.out, HG.out]
                          exact (D.sw.drewN nq).swapped R j (j - 1) (by rw [HSJ.out]; omega) (by rw [HSJ.out]; omega)
                        clear hl hless HG D
                        go_wp2_with fail
                        go_region
                        go_wp2_with fail
                        go_roundg (b - (j + 1))
                        case measure => omega
                        case rel => exact ⟨j + 1, _, by go_num, by omega, by omega, Nat.le_refl _, D1⟩
                      | false =>
                        rw [hl] at hless
                        go_wp2_with fail
                        go_quiet (first | (go_at_call 54; refine Calls.quiet_of_same (hless _)))
                        go_wp2_with fail
                        go_roundg (5 - (s + 1))
                        case measure => omega
                        case rel => exact ⟨k, s + 1, dj, rfl, by go_num, by omega, Nat.le_refl _, by omega, by omega, ⟨HSJ.out, D.perm, D.up, D.sw.drewN nq⟩⟩
                    · go_wp2_with fail
                      go_roundg (5 - (s + 1))
                      case measure => omega
                      case rel => exact ⟨k, s + 1, dj, rfl, by go_num, by omega, Nat.le_refl _, by omega, by omega, D⟩
                · go_wp2_with fail
                  go_roundg (5 - (s + 1))
                  case measure => omega
                  case rel => exact ⟨k, s + 1, dj, rfl, by go_num, by omega, Nat.le_refl _, by omega, by omega, U3⟩
        · have hkb' : k = b := by omega
          subst hkb'
          go_wp2_with fail
          go_quiet (fail)
          go_wp2_with fail
          go_ret
          exact ⟨true, dk, rfl, U.perm, fun _ => U.up, U.sw.drewN nq⟩
    · go_wp2_with fail
      go_ret
      exact ⟨false, dk, rfl, U.perm, (fun h => by cases h), U.sw⟩
end Go.Proofs.Ytdilnelfkbeamaa
