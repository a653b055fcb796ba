/-
  slices.Sort at uint32 sorts.
-/
import Derived.Test.YthcaijcchjociaaQs10
import Derived.Test.YthcaijcchjociaaAtom
namespace Go.Proofs.Ythcaijcchjociaa
open Go.RowKit Go.Shelf
open Go.Sort (Holds putRow PermIn SortedIn ltInt)

theorem bitLen_le (n : Nat) (h : n ≤ 1000000) : Lib.bitLen n ≤ 1000 := by
  rw [bitLen_eq _ (by omega)]
  have := (Go.Sort.bitsLen_le_iff n 62).2 (by omega)
  omega

set_option maxHeartbeats 1000000 in
theorem sorts_all : SortsUpTo 1000000 := by
  intro blk off cap d w hH hblk hsz
  have R : RowU w blk off d := ⟨fun _ => rfl, hH, hblk⟩
  have hcall := pdq_all d.size w blk off cap 0 d.size (Lib.bitLen d.size) d d w R rfl (Nat.zero_le _) (Nat.le_refl _) (Nat.le_refl _) (by omega) (bitLen_le _ hsz) (Or.inl rfl) (SW.start hH)
  have hlen := fun W => bitsLen_any d.size W hsz
  clear hH R
  generalize (Lib.bitLen d.size) = bl at *
  go_enter Try.func28, Try.ntmps28
  go_wp2_with (first
    | (go_at_call 38; refine (hlen _).mono ?_; rintro e w1 ⟨rfl, rfl⟩)
    | (go_at_call 37; refine hcall.mono ?_; rintro e w2 ⟨rfl, d', hP, hS, n, os, hw⟩))
  go_end0
  exact ⟨rfl, d', n, os, hP.1, perm_of_permInI hP, pairwise_of_sortedInI hP.1 hS, rfl⟩
#print axioms sorts_all
end Go.Proofs.Ythcaijcchjociaa
