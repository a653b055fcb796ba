/-
  slices.Sort's parts at uint32: reverseRange.
-/
import Derived.Test.YtdilnelfkbeamaaIns
import Derived.Shelf.SlSortCmp.Kit1
namespace Go.Proofs.Ytdilnelfkbeamaa
open Go.RowKit
open Go.Sort (Holds putRow PermIn SortedIn ltInt swp size_swp swp_permIn permIn_refl permIn_trans)

/-- W is w0 with the row holding d, some draws on, some blocks laid behind. -/
abbrev SWu (w0 : World) (blk off : Nat) (d : Array Int) (W : World) : Prop := SW (Value.int .u32) w0 blk off d W

/-- What is told of the row, once. -/
abbrev RowU (w0 : World) (blk off : Nat) (d0 : Array Int) : Prop := Go.Proofs.Row1 (Value.int .u32) w0 blk off d0

/-- The row's cells under a name of their own. -/
theorem fam {w0 W : World} {blk off : Nat} {d0 d : Array Int} (R : RowU w0 blk off d0) (h : SWu w0 blk off d W) (hs : d.size = d0.size) :
    ∃ G : Nat → Int, (∀ t, G t = d[t]!) ∧ (∀ t, t < d.size → W.cell? ⟨blk, off + t, none⟩ = some (.int .u32 (G t))) ∧ (∀ t, t < d.size → W.frozen? ⟨blk, off + t, none⟩ = false) :=
  ⟨fun t => d[t]!, fun _ => rfl, fun t ht => h.c1 R hs t ht, fun t ht => h.f1 R hs t ht⟩

set_option maxHeartbeats 1000000 in
theorem reverse_any (w0 : World) (blk off cap a b : Nat) (d0 d : Array Int) (W : World) (R : RowU w0 blk off d0) (hs : d.size = d0.size) (hab : a ≤ b) (hb : b ≤ d.size) (hsz : d.size < 4611686018427387904) (h : SWu w0 blk off d W) :
    Calls Try.prog 52 #[.slice (some ⟨blk, off, none⟩) d.size cap, .int .i64 a, .int .i64 b] W fun e W' =>
      e = .returned (.tuple #[]) ∧ ∃ d', PermIn a b d d' ∧ SWu w0 blk off d' W' := by
  go_enter Try.func52, Try.ntmps52
  go_wp2_with fail
  go_loopw [6, 7] (fun vi vj wr => ∃ (i : Nat) (j : Int) (dk : Array Int), vi = .int .i64 i ∧ vj = .int .i64 j ∧ a ≤ i ∧ -1 ≤ j ∧ j < b ∧ i ≤ b ∧ dk.size = d.size ∧ PermIn a b d dk ∧ SWu w0 blk off dk wr) (fun vi vj _ => (intOf vj - intOf vi).toNat)
  case atStart => exact ⟨a, (b : Int) - 1, d, rfl, rfl, by omega, by omega, by omega, hab, rfl, permIn_refl _ _ _, h⟩
  case round =>
    obtain ⟨i, j, dk, rfl, rfl, hai, hj0, hjb, hib, hsk, hP, hW⟩ := hrel
    by_cases hlt : (i : Int) < j
    · obtain ⟨j, rfl⟩ : ∃ k : Nat, j = k := ⟨j.toNat, by omega⟩
      have hlt' : i < j := by omega
      obtain ⟨G, hG, hcw, hfw⟩ := fam R hW (hsk.trans hs)
      rw [hsk] at hcw hfw
      have hsw := hW.swapped R i j (by omega) (by omega)
      rw [← hG, ← hG] at hsw
      have HP : Hid (PermIn a b d (swp dk i j)) := permIn_trans _ _ _ _ _ hP (swp_permIn dk a b i j (by omega) (by omega) (by omega) (by omega) (by omega))
      have HS : Hid ((swp dk i j).size = d.size) := by rw [size_swp]; exact hsk
      clear hG hW hP h
      go_wp2_with fail
      go_region
      go_wp2_with fail
      go_roundw
      case rel => exact ⟨i + 1, (j : Int) - 1, swp dk i j, by go_num, by go_num, by omega, by omega, by omega, by omega, HS.out, HP.out, hsw⟩
      case measure => simp [intOf]; omega
    · clear h
      go_wp2_with fail
      go_end0
      exact ⟨rfl, dk, hP, hW⟩
end Go.Proofs.Ytdilnelfkbeamaa
