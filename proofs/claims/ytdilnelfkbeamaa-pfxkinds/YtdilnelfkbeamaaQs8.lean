/-
  slices.Sort's parts at uint32: heapSort.
-/
import Derived.Test.YtdilnelfkbeamaaQs7
namespace Go.Proofs.Ytdilnelfkbeamaa
open Go.RowKit Go.Shelf
open Go.Sort (Holds putRow PermIn SortedIn Below ltInt swp size_swp swp_permIn permIn_refl permIn_trans permIn_all swo_ltInt swp_get siftDown heapBuild heapPop heapSort heapSort_holds)

theorem siftDown_size (hi first : Nat) : ∀ (n root : Nat) (d : Array Int), hi - root ≤ n → (siftDown ltInt hi first root d).size = d.size := by
  intro n
  induction n with
  | zero =>
    intro root d hn
    rw [sift_stop _ _ _ _ (by omega)]
  | succ n ih =>
    intro root d hn
    by_cases hc : 2 * root + 1 < hi
    · cases hk : kid hi first root d with
      | true =>
        rw [sift_right _ _ _ _ hc hk]
        split
        · rw [ih _ _ (by omega), size_swp]
        · rfl
      | false =>
        rw [sift_left _ _ _ _ hc hk]
        split
        · rw [ih _ _ (by omega), size_swp]
        · rfl
    · rw [sift_stop _ _ _ _ (by omega)]

set_option maxRecDepth 100000 in
set_option maxHeartbeats 4000000 in
theorem heapSort_any (w0 : World) (blk off cap a b : Nat) (d0 d : Array Int) (W : World) (R : RowU w0 blk off d0) (hs : d.size = d0.size) (hab : a < b) (hb : b ≤ d.size) (hsz : d.size < 1152921504606846976) (h : SWu w0 blk off d W) :
    Calls Try.prog 49 #[.slice (some ⟨blk, off, none⟩) d.size cap, .int .i64 a, .int .i64 b] W fun e W' =>
      e = .returned (.tuple #[]) ∧ ∃ d', PermIn a b d d' ∧ SortedIn ltInt a b d' ∧ SWu w0 blk off d' W' := by
  have HH : Hid (PermIn a b d (heapSort ltInt d a b) ∧ SortedIn ltInt a b (heapSort ltInt d a b)) := heapSort_holds swo_ltInt d a b (by omega) hb
  have HS : Hid (d.size = d0.size) := hs
  obtain ⟨l, hl⟩ : ∃ l, l = b - a := ⟨_, rfl⟩
  have hl0 : 0 < l := by omega
  have hla : a + l ≤ d.size := by omega
  have el : (b : Int) - a = l := by omega
  obtain ⟨h2, hh2⟩ : ∃ h2, h2 = (l - 1) / 2 := ⟨_, rfl⟩
  have EH : Hid (((l : Int) - 1) / 2 = h2) := by show ((l : Int) - 1) / 2 = h2; omega
  have hh2l : h2 < l := by omega
  have HD : Hid (heapSort ltInt d a b = heapPop ltInt a l (heapBuild ltInt l a (h2 + 1) d)) := by
    show heapSort ltInt d a b = _
    unfold heapSort
    rw [← hl, ← hh2]
  clear hs hl hh2
  go_enter Try.func49, Try.ntmps49
  go_wp2_with fail
  go_loopg [9] (h2 + 1) (fun g1 vi wr => ∃ (k : Nat) (z : Int) (dk : Array Int), vi = .int .i64 z ∧ z = (k : Int) - 1 ∧ k ≤ h2 + 1 ∧ k ≤ g1 ∧ Hid (dk.size = d.size) ∧ Hid (heapBuild ltInt l a k dk = heapBuild ltInt l a (h2 + 1) d) ∧ SWu w0 blk off dk wr)
  case atStart => exact ⟨h2 + 1, _, d, rfl, by have := EH.out; omega, Nat.le_refl _, Nat.le_refl _, rfl, rfl, h⟩
  case round =>
    clear h
    obtain ⟨k, z, dk, rfl, hz, hk, hg1, HSK, HE, S⟩ := hrel
    cases k with
    | succ k =>
      obtain rfl : z = (k : Int) := by omega
      clear hz
      have hc := siftDown_any w0 blk off cap k l a d0 dk wr R (HSK.out.trans HS.out) (by omega) (by omega) (by rw [HSK.out]; exact hla) (by rw [HSK.out]; exact hsz) S
      rw [HSK.out] at hc
      go_wp2_with fail
      refine hc.mono ?_
      rintro e w1 ⟨rfl, S1⟩
      clear hc S
      go_wp2_with fail
      go_roundg k
      case measure => omega
      case rel => exact ⟨k, _, _, rfl, by omega, by omega, Nat.le_refl _, (siftDown_size _ _ _ _ _ (Nat.le_refl _)).trans HSK.out, HE.out, S1⟩
    | zero =>
      obtain rfl : z = -1 := by omega
      clear hz
      have HE0 : Hid (dk = heapBuild ltInt l a (h2 + 1) d) := HE.out
      clear HE
      go_wp2_with fail
      go_loopg [10] l (fun g1 vi wr => ∃ (k : Nat) (z : Int) (dj : Array Int), vi = .int .i64 z ∧ z = (k : Int) - 1 ∧ k ≤ l ∧ k ≤ g1 ∧ Hid (dj.size = d.size) ∧ Hid (heapPop ltInt a k dj = heapPop ltInt a l dk) ∧ SWu w0 blk off dj wr)
      case atStart => exact ⟨l, _, dk, rfl, by omega, Nat.le_refl _, Nat.le_refl _, HSK, rfl, S⟩
      case round =>
        clear S hg1
        obtain ⟨k, z, dj, rfl, hz, hkl, hg1, HSJ, HE, S⟩ := hrel
        cases k with
        | succ k =>
          obtain rfl : z = (k : Int) := by omega
          clear hz
          obtain ⟨q, hq⟩ : ∃ q, q = a + k := ⟨_, rfl⟩
          have eq : (a : Int) + k = q := by omega
          have hqb : q < d.size := by omega
          obtain ⟨G, hG, hcw, hfw⟩ := fam R S (HSJ.out.trans HS.out)
          rw [HSJ.out] at hcw hfw
          obtain ⟨u2, hc2⟩ := S.c2 R (HSJ.out.trans HS.out) a q (by rw [HSJ.out]; omega) (by rw [HSJ.out]; omega) (.int .u32 (G q))
          have S1 := S.swapped R a q (by rw [HSJ.out]; omega) (by rw [HSJ.out]; omega)
          rw [← hG, ← hG] at S1
          have HSQ : Hid ((swp dj a q).size = d.size) := by show (swp dj a q).size = d.size; rw [size_swp]; exact HSJ.out
          have HE2 : Hid (heapPop ltInt a k (siftDown ltInt k a 0 (swp dj a q)) = heapPop ltInt a l dk) := by
            show heapPop ltInt a k (siftDown ltInt k a 0 (swp dj a q)) = heapPop ltInt a l dk
            rw [← HE.out, hq]
            rfl
          clear hG S HE hq
          go_wp2_with fail
          go_region
          generalize ((wr.setCell ⟨blk, off + a, none⟩ (.int .u32 (G q))).setCell ⟨blk, off + q, none⟩ (.int .u32 (G a))).drew = w3 at S1 ⊢
          clear hcw hfw hc2
          have hc := siftDown_any w0 blk off cap 0 k a d0 (swp dj a q) w3 R (HSQ.out.trans HS.out) (by omega) (by omega) (by rw [HSQ.out]; omega) (by rw [HSQ.out]; exact hsz) S1
          rw [HSQ.out] at hc
          go_wp2_with fail
          refine hc.mono ?_
          rintro e w4 ⟨rfl, S2⟩
          clear hc S1
          go_wp2_with fail
          go_roundg k
          case measure => omega
          case rel => exact ⟨k, _, _, rfl, by omega, by omega, Nat.le_refl _, (siftDown_size _ _ _ _ _ (Nat.le_refl _)).trans HSQ.out, HE2.out, S2⟩
        | zero =>
          obtain rfl : z = -1 := by omega
          clear hz
          go_wp2_with fail
          go_end0
          refine ⟨rfl, _, HH.out.1, HH.out.2, ?_⟩
          rw [HD.out, ← HE0.out, ← HE.out]
          exact S
end Go.Proofs.Ytdilnelfkbeamaa
