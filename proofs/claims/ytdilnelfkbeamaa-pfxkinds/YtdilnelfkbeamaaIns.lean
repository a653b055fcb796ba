/-
  The walk of slices.insertionSortOrdered at uint32.
-/
import Derived.Test.YtdilnelfkbeamaaLay
import Derived.Test.YtdilnelfkbeamaaOwn1
import Derived.BigQuiet
import Derived.Deep.QuietTactic
import Derived.Sort.LotA
import Derived.BigGuard
import Derived.BigCall
import Derived.CellFam
import Derived.Deep.Draws
import Derived.BigRegion
namespace Go.Proofs.Ytdilnelfkbeamaa
open Go.RowKit
open Go.Sort (Holds putRow putRow_self cell?_putRow holds_ahead frozen?_putRow insInner insOuter ltInt swp size_swp)

set_option maxHeartbeats 400000 in
theorem less_any (x y : Int) (w : World) :
    Calls Try.prog 54 #[.int .u32 x, .int .u32 y] w fun e w' => e = .returned (.bool (ltInt x y)) ∧ w' = w := by
  unfold ltInt
  go_enter Try.func54, Try.ntmps54
  go_wp2
  go_ret
  exact ⟨rfl, rfl⟩

set_option maxHeartbeats 1000000 in
/-- The library's own insertion sort, at uint32, computes the plain one. -/
theorem insertion_any (blk off cap a b : Nat) (d : Array Int) (w : World) (hH : Holds (Value.int .u32) w blk off d) (hab : a ≤ b) (hb : b ≤ d.size) (hsz : d.size < 4611686018427387904) :
    Calls Try.prog 48 #[.slice (some ⟨blk, off, none⟩) d.size cap, .int .i64 a, .int .i64 b] w fun e w' =>
      e = .returned (.tuple #[]) ∧ ∃ n, w' = putRow (Value.int .u32) (Go.Sort.ahead w n) blk off (Go.Sort.insertionSort ltInt d a b) := by
  go_enter Try.func48, Try.ntmps48
  go_wp2
  go_loopw [6] (fun vi wr => ∃ (i n : Nat) (dk : Array Int), vi = .int .i64 i ∧ a < i ∧ i ≤ b + 1 ∧ dk.size = d.size ∧ wr = putRow (Value.int .u32) (Go.Sort.ahead w n) blk off dk ∧
      insOuter ltInt a b i dk = insOuter ltInt a b (a + 1) d) (fun vi _ => b + 1 - (RowKit.intOf vi).toNat)
  case atStart => exact ⟨a + 1, 0, d, by go_num, by omega, by omega, rfl, (putRow_self _ _ _ _ _ hH).symm, rfl⟩
  case round =>
    obtain ⟨i, n, dk, rfl, hai, hib, hsk, hwr, hO⟩ := hrel
    have HO : Hid (insOuter ltInt a b i dk = insOuter ltInt a b (a + 1) d) := hO
    clear hO
    by_cases hlt : i < b
    · go_wp2
      go_loopw [7] (fun vj wq => ∃ (j m : Nat) (dj : Array Int), vj = .int .i64 j ∧ a ≤ j ∧ j ≤ i ∧ dj.size = d.size ∧ wq = putRow (Value.int .u32) (Go.Sort.ahead w m) blk off dj ∧
          insInner ltInt a j dj = insInner ltInt a i dk) (fun vj _ => (RowKit.intOf vj).toNat)
      case atStart => exact ⟨i, n, dk, rfl, by omega, Nat.le_refl _, hsk, rfl, rfl⟩
      case round =>
        clear hwr
        obtain ⟨j, m, dj, rfl, haj, hji, hsj, hw2, hI⟩ := hrel
        obtain ⟨G, hG⟩ : ∃ G : Nat → Int, ∀ t, G t = dj[t]! := ⟨fun t => dj[t]!, fun _ => rfl⟩
        have hcw : ∀ t, t < d.size → wr.cell? ⟨blk, off + t, none⟩ = some (.int .u32 (G t)) := fun t ht => by
          rw [hw2, hG]; exact cell?_putRow _ _ _ _ d dj (holds_ahead _ _ _ _ _ _ hH) hsj t (by omega)
        have hfw : ∀ t, t < d.size → wr.frozen? ⟨blk, off + t, none⟩ = false := fun t ht => by
          rw [hw2, frozen?_putRow]; exact ((holds_ahead _ _ m _ _ _ hH) t ht).2
        have HW : Hid (wr = putRow (Value.int .u32) (Go.Sort.ahead w m) blk off dj) := hw2
        have HG : Hid (∀ t, G t = dj[t]!) := hG
        have HI : Hid (insInner ltInt a j dj = insInner ltInt a i dk) := hI
        clear hw2 hG hI hH
        have OUT : Hid ((j ≤ a ∨ ltInt dj[j]! dj[j - 1]! = false) → ∀ q, ∃ i' n' dk', Value.int .i64 ((i : Int) + 1) = .int .i64 (i' : Nat) ∧ a < i' ∧ i' ≤ b + 1 ∧ dk'.size = d.size ∧
            wr.drewN q = putRow (Value.int .u32) (Go.Sort.ahead w n') blk off dk' ∧ insOuter ltInt a b i' dk' = insOuter ltInt a b (a + 1) d) := fun hs q =>
          ⟨i + 1, m + q, dj, by go_num, by omega, by omega, hsj, by rw [HW.out]; exact putRow_drewN _ _ _ _ _ _ _,
            by rw [← HO.out, insOuter_go _ _ _ _ _ hlt, ← HI.out, insInner_stop _ _ _ _ hs]⟩
        by_cases hja : a < j
        · cases hl : ltInt (G j) (G (j - 1)) with
          | true =>
            have hless := fun W => less_any (G j) (G (j - 1)) W
            rw [hl] at hless
            go_wp2_with fail
            go_quiet (first | (go_at_call 54; refine Calls.quiet_of_same (hless _)))
            go_wp2_with fail
            go_region
            go_wp2_with fail
            go_roundw
            case rel =>
              refine ⟨j - 1, m + (nq + 1), swp dj j (j - 1), by congr 1; omega, by omega, by omega, by rw [size_swp]; exact hsj, ?_, ?_⟩
              · rw [HW.out, HG.out, HG.out]
                exact swap_worldA _ w m (nq + 1) blk off dj j (j - 1) (by omega) (by omega)
              · rw [← HI.out, insInner_go ltInt a j dj hja (by rw [← HG.out, ← HG.out]; exact hl)]
            case measure => simp [RowKit.intOf]; omega
          | false =>
            have hless := fun W => less_any (G j) (G (j - 1)) W
            rw [hl] at hless
            go_wp2_with fail
            go_quiet (first | (go_at_call 54; refine Calls.quiet_of_same (hless _)))
            go_wp2_with fail
            go_roundw
            case rel => exact OUT.out (Or.inr (by rw [← HG.out, ← HG.out]; exact hl)) nq
            case measure => simp [RowKit.intOf]; omega
        · go_wp2_with fail
          go_quiet (fail)
          go_wp2_with fail
          go_roundw
          case rel => exact OUT.out (Or.inl (by omega)) nq
          case measure => simp [RowKit.intOf]; omega
    · go_wp2_with fail
      go_end0
      exact ⟨rfl, n, by unfold Go.Sort.insertionSort; rw [← HO.out, insOuter_stop _ _ _ _ _ hlt]⟩

set_option maxHeartbeats 1000000 in
/-- slices.pdqsortOrdered at uint32, at 12 numbers or fewer. -/
theorem pdqsort_small (blk off cap : Nat) (d : Array Int) (lim : Int) (w : World) (hH : Holds (Value.int .u32) w blk off d) (h12 : d.size ≤ 12) :
    Calls Try.prog 46 #[.slice (some ⟨blk, off, none⟩) d.size cap, .int .i64 0, .int .i64 d.size, .int .i64 lim] w fun e w' =>
      e = .returned (.tuple #[]) ∧ ∃ n, w' = putRow (Value.int .u32) (Go.Sort.ahead w n) blk off (Go.Sort.insertionSort ltInt d 0 d.size) := by
  have hcall := insertion_any blk off cap 0 d.size d w hH (Nat.zero_le _) (Nat.le_refl _) (by omega)
  clear hH
  generalize Go.Sort.insertionSort ltInt d 0 d.size = r at *
  go_enter Try.func46, Try.ntmps46
  go_wp2_with fail
  refine wp_loop_rounds 1 ?_
  rw [rounds_succ]
  go_wp2_with (go_at_call 48; refine hcall.mono ?_; rintro e w1 ⟨rfl, n, rfl⟩)
  refine bodyPost_ret (results_none rfl _ _ _) rfl ?_
  exact ⟨rfl, n, rfl⟩

theorem bitsLen_any (n : Nat) (w : World) (h : n ≤ 1000000) : Calls Try.prog 47 #[.int .u64 n] w fun e w' => e = .returned (.int .i64 (Lib.bitLen n : Nat)) ∧ w' = w :=
  Any.bits_Len (SlLaysF0.n15.bits { Try.pow2 with }) n w (by omega) (by omega)

set_option maxHeartbeats 1000000 in
/-- slices.Sort at uint32, at 12 numbers or fewer. -/
theorem sort_small (blk off cap : Nat) (d : Array Int) (w : World) (hH : Holds (Value.int .u32) w blk off d) (h12 : d.size ≤ 12) :
    Calls Try.prog 43 #[.slice (some ⟨blk, off, none⟩) d.size cap] w fun e w' =>
      e = .returned (.tuple #[]) ∧ ∃ n, w' = putRow (Value.int .u32) (Go.Sort.ahead w n) blk off (Go.Sort.insertionSort ltInt d 0 d.size) := by
  have hcall := pdqsort_small blk off cap d (Lib.bitLen d.size : Nat) w hH h12
  have hlen := fun W => bitsLen_any d.size W (by omega)
  clear hH
  generalize Go.Sort.insertionSort ltInt d 0 d.size = r at *
  generalize (Lib.bitLen d.size) = bl at *
  go_enter Try.func43, Try.ntmps43
  go_wp2_with (first
    | (go_at_call 47; refine (hlen _).mono ?_; rintro e w1 ⟨rfl, rfl⟩)
    | (go_at_call 46; refine hcall.mono ?_; rintro e w2 ⟨rfl, n, rfl⟩))
  go_end0
  exact ⟨rfl, n, rfl⟩
end Go.Proofs.Ytdilnelfkbeamaa
