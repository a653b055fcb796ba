/-
  slices.Sort's parts at uint32: siftDown, heapSort: as the plain ones do.
-/
import Derived.Test.YtdilnelfkbeamaaQs6
import Derived.Sort.LotB
namespace Go.Proofs.Ytdilnelfkbeamaa
open Go.RowKit Go.Shelf
open Go.Sort (Holds putRow PermIn SortedIn Below ltInt swp size_swp swp_permIn permIn_refl permIn_trans permIn_all swo_ltInt swp_get siftDown heapBuild heapPop heapSort)

theorem sift_stop (hi first root : Nat) (d : Array Int) (h : hi ≤ 2 * root + 1) : siftDown ltInt hi first root d = d := by
  rw [siftDown, dif_pos h]

/-- Which child is looked at. -/
def kid (hi first root : Nat) (d : Array Int) : Bool := decide (2 * root + 1 + 1 < hi) && ltInt d[first + (2 * root + 1)]! d[first + (2 * root + 1) + 1]!

theorem sift_right (hi first root : Nat) (d : Array Int) (h : 2 * root + 1 < hi) (hk : kid hi first root d = true) : siftDown ltInt hi first root d = if ltInt d[first + root]! d[first + (2 * root + 2)]! then siftDown ltInt hi first (2 * root + 2) (swp d (first + root) (first + (2 * root + 2))) else d := by
  unfold kid at hk
  rw [siftDown, dif_neg (by omega), if_pos hk]
  have h2 : 2 * root + 2 < hi := by simp only [Bool.and_eq_true, decide_eq_true_eq] at hk; omega
  rw [dif_pos h2]
  cases ltInt d[first + root]! d[first + (2 * root + 2)]! <;> rfl

theorem sift_left (hi first root : Nat) (d : Array Int) (h : 2 * root + 1 < hi) (hk : kid hi first root d = false) : siftDown ltInt hi first root d = if ltInt d[first + root]! d[first + (2 * root + 1)]! then siftDown ltInt hi first (2 * root + 1) (swp d (first + root) (first + (2 * root + 1))) else d := by
  rw [siftDown, dif_neg (by omega), if_neg (by unfold kid at hk; rw [hk]; exact Bool.false_ne_true)]
  cases ltInt d[first + root]! d[first + (2 * root + 1)]! <;> rfl

set_option maxRecDepth 100000 in
set_option maxHeartbeats 4000000 in
theorem siftDown_any (w0 : World) (blk off cap lo hi first : Nat) (d0 d : Array Int) (W : World) (R : RowU w0 blk off d0) (hs : d.size = d0.size) (hlo : lo < hi ∨ hi ≤ 2 * lo + 1) (hlo2 : lo < 4611686018427387904) (hb : first + hi ≤ d.size) (hsz : d.size < 1152921504606846976) (h : SWu w0 blk off d W) :
    Calls Try.prog 59 #[.slice (some ⟨blk, off, none⟩) d.size cap, .int .i64 lo, .int .i64 hi, .int .i64 first] W fun e W' =>
      e = .returned (.tuple #[]) ∧ SWu w0 blk off (siftDown ltInt hi first lo d) W' := by
  have HS : Hid (d.size = d0.size) := hs
  clear hs
  go_enter Try.func59, Try.ntmps59
  go_wp2_with fail
  go_loopg [8] (hi - lo) (fun g1 vr wr => ∃ (root : Nat) (dk : Array Int), vr = .int .i64 root ∧ (root < hi ∨ hi ≤ 2 * root + 1) ∧ root < 4611686018427387904 ∧ hi - root ≤ g1 ∧ Hid (dk.size = d.size) ∧ Hid (siftDown ltInt hi first root dk = siftDown ltInt hi first lo d) ∧ SWu w0 blk off dk wr)
  case atStart => exact ⟨lo, d, rfl, hlo, hlo2, Nat.le_refl _, rfl, rfl, h⟩
  case round =>
    clear h hlo
    obtain ⟨root, dk, rfl, hrt, hrt2, hg1, HSK, HE, S⟩ := hrel
    by_cases hc : 2 * root + 1 < hi
    · obtain ⟨c, hcd⟩ : ∃ c, c = 2 * root + 1 := ⟨_, rfl⟩
      have zc : 2 * (root : Int) + 1 = c := by omega
      obtain ⟨r, hrd⟩ : ∃ r, r = first + root := ⟨_, rfl⟩
      have zr : (first : Int) + root = r := by omega
      obtain ⟨q, hqd⟩ : ∃ q, q = first + c := ⟨_, rfl⟩
      have zq : (first : Int) + c = q := by omega
      have hci : c < hi := by omega
      have hqb : q < d.size := by omega
      have hrb : r < d.size := by omega
      have HC : Hid (c = 2 * root + 1 ∧ r = first + root ∧ q = first + c) := ⟨hcd, hrd, hqd⟩
      clear hcd hrd hqd
      go_upto_region 3 with fail
      go_cut [36] (fun s36 wx => s36 = .bool (kid hi first root dk) ∧ SWu w0 blk off dk wx)
      case first =>
        obtain ⟨G, hG, hcw, hfw⟩ := fam R S (HSK.out.trans HS.out)
        rw [HSK.out] at hcw hfw
        have HG : Hid (∀ t, G t = dk[t]!) := hG
        clear hG
        by_cases h2 : c + 1 < hi
        · have hdec : decide ((c : Int) + 1 < hi) = true := decide_eq_true (by omega)
          have hq1 : q + 1 < d.size := by have := HC.out; omega
          have hless := fun W => less_any (G q) (G (q + 1)) W
          have HK : Hid (kid hi first root dk = ltInt (G q) (G (q + 1))) := by
            show kid hi first root dk = ltInt (G q) (G (q + 1))
            obtain ⟨e1, e2, e3⟩ := HC.out
            unfold kid
            rw [HG.out, HG.out, e3, e1, decide_eq_true (show 2 * root + 1 + 1 < hi by omega), Bool.true_and]
          cases hl : ltInt (G q) (G (q + 1)) with
          | true =>
            rw [hl] at hless
            go_quiet (first | (go_at_call 54; refine Calls.quiet_of_same (hless _)))
            go_wp2_with fail
            go_meet
            case rel => exact ⟨by rw [HK.out, hl], S.drewN nq⟩
          | false =>
            rw [hl] at hless
            go_quiet (first | (go_at_call 54; refine Calls.quiet_of_same (hless _)))
            go_wp2_with fail
            go_meet
            case rel => exact ⟨by rw [HK.out, hl], S.drewN nq⟩
        · have hdec : decide ((c : Int) + 1 < hi) = false := decide_eq_false (by omega)
          have HK : Hid (kid hi first root dk = false) := by
            show kid hi first root dk = false
            obtain ⟨e1, e2, e3⟩ := HC.out
            unfold kid
            rw [decide_eq_false (show ¬ 2 * root + 1 + 1 < hi by omega), Bool.false_and]
          go_quiet (fail)
          go_wp2_with fail
          go_meet
          case rel => exact ⟨by rw [HK.out], S.drewN nq⟩
      case rest =>
        clear S
        obtain ⟨rfl, S⟩ := hcut
        obtain ⟨G, hG, hcw, hfw⟩ := fam R S (HSK.out.trans HS.out)
        rw [HSK.out] at hcw hfw
        have HG : Hid (∀ t, G t = dk[t]!) := hG
        clear hG
        cases hkid : kid hi first root dk with
        | true =>
          have HE2 := sift_right hi first root dk hc hkid
          obtain ⟨c2, hc2d⟩ : ∃ c2, c2 = 2 * root + 2 := ⟨_, rfl⟩
          have zc2 : (c : Int) + 1 = c2 := by omega
          obtain ⟨q2, hq2d⟩ : ∃ q2, q2 = first + c2 := ⟨_, rfl⟩
          have zq2 : (first : Int) + c2 = q2 := by omega
          have h2 : c2 < hi := by
            unfold kid at hkid; simp only [Bool.and_eq_true, decide_eq_true_eq] at hkid; omega
          have HE3 : Hid (siftDown ltInt hi first root dk = if ltInt (G r) (G q2) then siftDown ltInt hi first c2 (swp dk r q2) else dk) := by
            obtain ⟨e1, e2, e3⟩ := HC.out
            show siftDown ltInt hi first root dk = if ltInt (G r) (G q2) then siftDown ltInt hi first c2 (swp dk r q2) else dk
            rw [HG.out, HG.out, e2, hq2d, hc2d]
            exact HE2
          clear HE2 hkid
          have hq2 : q2 < d.size := by omega
          have hrq : r < q2 := by have := HC.out; omega
          have hrc : root < c2 := by have := HC.out; omega
          clear hc2d hq2d
          have hless := fun W => less_any (G r) (G q2) W
          cases hl : ltInt (G r) (G q2) with
          | true =>
            rw [hl] at hless
            go_wp2_with fail
            go_quiet (first | (go_at_call 54; refine Calls.quiet_of_same (hless _)))
            have S1 : SWu w0 blk off (swp dk r q2) (((wc.drewN nq).setCell ⟨blk, off + r, none⟩ (.int .u32 (G q2))).setCell ⟨blk, off + q2, none⟩ (.int .u32 (G r))).drew := by
              rw [HG.out, HG.out]
              exact (S.drewN nq).swapped R r q2 (by rw [HSK.out]; exact hrb) (by rw [HSK.out]; exact hq2)
            have HE4 : Hid (siftDown ltInt hi first c2 (swp dk r q2) = siftDown ltInt hi first lo d) := by
              show siftDown ltInt hi first c2 (swp dk r q2) = siftDown ltInt hi first lo d
              rw [← HE.out, HE3.out, hl, if_pos rfl]
            have HSK2 : Hid ((swp dk r q2).size = d.size) := by show (swp dk r q2).size = d.size; rw [size_swp]; exact HSK.out
            clear hl hless HG S HE HE3
            go_wp2_with fail
            go_region
            go_wp2_with fail
            go_roundg (hi - c2)
            case measure => omega
            case rel => exact ⟨c2, _, rfl, Or.inl h2, by omega, Nat.le_refl _, HSK2, HE4, S1⟩
          | false =>
            rw [hl] at hless
            go_wp2_with fail
            go_quiet (first | (go_at_call 54; refine Calls.quiet_of_same (hless _)))
            go_wp2_with fail
            (try simp only [Exit.inBlock, Exit.then])
            refine bodyPost_ret (results_none rfl _ _ _) rfl ?_
            refine ⟨rfl, ?_⟩
            rw [← HE.out, HE3.out, hl, if_neg Bool.false_ne_true]
            exact S.drewN nq
        | false =>
          have HE2 := sift_left hi first root dk hc hkid
          obtain ⟨c2, hc2d⟩ : ∃ c2, c2 = c := ⟨_, rfl⟩
          obtain ⟨q2, hq2d⟩ : ∃ q2, q2 = q := ⟨_, rfl⟩
          subst hc2d hq2d
          have h2 : c2 < hi := hci
          have HE3 : Hid (siftDown ltInt hi first root dk = if ltInt (G r) (G q2) then siftDown ltInt hi first c2 (swp dk r q2) else dk) := by
            obtain ⟨e1, e2, e3⟩ := HC.out
            show siftDown ltInt hi first root dk = if ltInt (G r) (G q2) then siftDown ltInt hi first c2 (swp dk r q2) else dk
            rw [HG.out, HG.out, e2, e3, e1]
            exact HE2
          clear HE2 hkid
          have hq2 : q2 < d.size := by exact hqb
          have hrq : r < q2 := by have := HC.out; omega
          have hrc : root < c2 := by have := HC.out; omega
          have hless := fun W => less_any (G r) (G q2) W
          cases hl : ltInt (G r) (G q2) with
          | true =>
            rw [hl] at hless
            go_wp2_with fail
            go_quiet (first | (go_at_call 54; refine Calls.quiet_of_same (hless _)))
            have S1 : SWu w0 blk off (swp dk r q2) (((wc.drewN nq).setCell ⟨blk, off + r, none⟩ (.int .u32 (G q2))).setCell ⟨blk, off + q2, none⟩ (.int .u32 (G r))).drew := by
              rw [HG.out, HG.out]
              exact (S.drewN nq).swapped R r q2 (by rw [HSK.out]; exact hrb) (by rw [HSK.out]; exact hq2)
            have HE4 : Hid (siftDown ltInt hi first c2 (swp dk r q2) = siftDown ltInt hi first lo d) := by
              show siftDown ltInt hi first c2 (swp dk r q2) = siftDown ltInt hi first lo d
              rw [← HE.out, HE3.out, hl, if_pos rfl]
            have HSK2 : Hid ((swp dk r q2).size = d.size) := by show (swp dk r q2).size = d.size; rw [size_swp]; exact HSK.out
            clear hl hless HG S HE HE3
            go_wp2_with fail
            go_region
            go_wp2_with fail
            go_roundg (hi - c2)
            case measure => omega
            case rel => exact ⟨c2, _, rfl, Or.inl h2, by omega, Nat.le_refl _, HSK2, HE4, S1⟩
          | false =>
            rw [hl] at hless
            go_wp2_with fail
            go_quiet (first | (go_at_call 54; refine Calls.quiet_of_same (hless _)))
            go_wp2_with fail
            (try simp only [Exit.inBlock, Exit.then])
            refine bodyPost_ret (results_none rfl _ _ _) rfl ?_
            refine ⟨rfl, ?_⟩
            rw [← HE.out, HE3.out, hl, if_neg Bool.false_ne_true]
            exact S.drewN nq
    · go_wp2_with fail
      go_end0
      exact ⟨rfl, by rw [← HE.out, sift_stop _ _ _ _ (by omega)]; exact S⟩
end Go.Proofs.Ytdilnelfkbeamaa
