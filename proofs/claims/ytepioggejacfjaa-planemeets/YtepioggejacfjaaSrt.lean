/-
  slices.Sort, slices.Compact and slices.DeleteFunc at float64, and the walk of 'within'.
-/
import Derived.Test.YtepioggejacfjaaQs10
import Derived.Test.YtepioggejacfjaaLay2
import Derived.Test.YtepioggejacfjaaRce
namespace Go.Proofs.Ytepioggejacfjaa
open Go.RowKit Go.Shelf
open Go.Sort (Holds putRow PermIn SortedIn grow cell?_grow holds_putRow holds_ahead holds_grow)

theorem bitLen_le (n : Nat) (h : n ≤ 1000000) : Lib.bitLen n ≤ 1000 := by
  rw [bitLen_eq _ (by omega)]
  have := (Go.Sort.bitsLen_le_iff n 62).2 (by omega)
  omega

theorem perm_of_permInI {d d' : Array (Fin 65537)} (h : Go.Sort.PermIn 0 d.size d d') : d'.toList.Perm d.toList := by
  obtain ⟨h1, _, h3⟩ := h
  have e1 : d.extract 0 d.size = d := by simp
  have e2 : d'.extract 0 d.size = d' := by rw [← h1]; simp
  rw [e1, e2] at h3
  exact h3

theorem pairwise_of_sortedInI {d : Array (Fin 65537)} {n : Nat} (hn : d.size = n) (h : Go.Sort.SortedIn ltF 0 n d) : d.toList.Pairwise (· ≤ ·) := by
  subst hn
  rw [List.pairwise_iff_getElem]
  intro i j hi hj hij
  have := h i j (Nat.zero_le _) hij (by simpa using hj)
  rw [getElem!_pos d j (by simpa using hj), getElem!_pos d i (by simpa using hi)] at this
  simp [ltF] at this
  simpa using this

set_option maxHeartbeats 1000000 in
theorem sort_any (blk off cap : Nat) (d : Array (Fin 65537)) (w : World) (hH : Holds fv w blk off d) (hblk : blk < w.heap.size) (hsz : d.size ≤ 1000000) :
    Calls Try.prog 33 #[.slice (some ⟨blk, off, none⟩) d.size cap] w fun e w' => e = .returned (.tuple #[]) ∧ ∃ (d' : Array (Fin 65537)) (n : Nat) (os : Array Obj), d'.size = d.size ∧ d'.toList.Perm d.toList ∧ d'.toList.Pairwise (· ≤ ·) ∧ w' = grow (putRow fv (Go.Sort.ahead w n) blk off d') os := by
  have R : RowU w blk off d := ⟨fun _ => rfl, hH, hblk⟩
  have hcall := pdq_all d.size w blk off cap 0 d.size (Lib.bitLen d.size) d d w R rfl (Nat.zero_le _) (Nat.le_refl _) (Nat.le_refl _) (by omega) (bitLen_le _ hsz) (Or.inl rfl) (SW.start hH)
  have hlen := fun W => bitsLen_any d.size W hsz
  clear hH R
  generalize (Lib.bitLen d.size) = bl at *
  go_enter Try.func33, Try.ntmps33
  go_wp2_with (first
    | (go_at_call 38; refine (hlen _).mono ?_; rintro e w1 ⟨rfl, rfl⟩)
    | (go_at_call 37; refine hcall.mono ?_; rintro e w2 ⟨rfl, d', hP, hS, n, os, hw⟩))
  go_end0
  exact ⟨rfl, d', n, os, hP.1, perm_of_permInI hP, pairwise_of_sortedInI hP.1 hS, rfl⟩

theorem fv_one : OneCell fv := fun _ => rfl

theorem fv_eql : EqlAt Try.prog 53 fv (fun x y => decide (x = y)) := ⟨fun x y w => by
  have h := (EqlAt.float Try.prog 53 .f64).1 (bitsF x) (bitsF y) w
  simp only [bitsF_eq] at h
  show (binOp .eql 53 (.float .f64 (bitsF x)) (.float .f64 (bitsF y))).run Try.prog w = _
  rw [h]
  by_cases e : x = y <;> simp [e], fun op a b x y w => GuardAt.float Try.prog 53 .f64 op a b (bitsF x) (bitsF y) w⟩

theorem fv_neq : NeqAt Try.prog 53 fv (fun x y => decide (x = y)) := ⟨fun x y w => by
  have h := (NeqAt.float Try.prog 53 .f64).1 (bitsF x) (bitsF y) w
  simp only [bitsF_eq] at h
  show (binOp .neq 53 (.float .f64 (bitsF x)) (.float .f64 (bitsF y))).run Try.prog w = _
  rw [h]
  by_cases e : x = y <;> simp [e], fun op a b x y w => GuardAt.float Try.prog 53 .f64 op a b (bitsF x) (bitsF y) w⟩

theorem bitsF_zero : bitsF 0 = 0 := fl_zero

theorem zero53 (w : World) : (zeroValue 53).run Try.prog w = .ok (fv 0) w := by
  show _ = Result.ok (Value.float .f64 (bitsF 0)) w
  rw [bitsF_zero]
  exact Try.zeroValue53 w

/-- slices.Compact at float64. -/
theorem compact_any (blk off cap : Nat) (d : Array (Fin 65537)) (w : World) (hH : Holds fv w blk off d) (hsz : d.size ≤ 1000000) (hcap : d.size ≤ cap) :
    Calls Try.prog 34 #[.slice (some ⟨blk, off, none⟩) d.size cap] w fun e w' => e = .returned (.slice (some ⟨blk, off, none⟩) (Lib.compactUpTo d d.size).length cap) ∧ ∃ q, w' = putRow fv (Go.Sort.ahead w q) blk off (Lib.compactUpTo d d.size ++ List.replicate (d.size - (Lib.compactUpTo d d.size).length) 0).toArray :=
  AnyE.slices_Compact Try.compactF fv fv_one fv_eql fv_neq 0 zero53 blk off cap d w hH (by omega) hcap

/-- Beyond the last number? -/
def over (x : Fin 65537) : Bool := decide (65535 < x.val)

set_option maxHeartbeats 400000 in
theorem over_any (x : Fin 65537) (w : World) : Calls Try.prog 36 #[.float .f64 (bitsF x)] w fun e w' => e = .returned (.bool (over x)) ∧ w' = w := by
  have h : (FloatKind.f64.format.order (bitsF x) 4679239875398991872 == some .gt) = over x := by
    rw [← fl_last]
    unfold bitsF over
    rw [fl_gt (by omega) (by omega) (by omega) (by omega)]
    apply decide_eq_decide.2
    omega
  generalize over x = r at *
  go_enter Try.func36, Try.ntmps36
  go_wp2
  go_ret
  exact ⟨rfl, rfl⟩

theorem over_at (w : World) : PredAt Try.prog 36 #[] fv over w := fun W x _ => (over_any x W).mono fun _ _ ⟨h1, h2⟩ => ⟨h1, 0, h2⟩
theorem over_over (blk off size : Nat) (w : World) : PredOver Try.prog 36 #[] fv over blk off size w := fun _ _ _ x _ => (over_any x _).mono fun _ _ ⟨h1, h2⟩ => ⟨h1, 0, h2⟩

/-- slices.DeleteFunc at float64, of what is beyond the last number. -/
theorem del_any (blk off cap : Nat) (d : Array (Fin 65537)) (w : World) (hH : Holds fv w blk off d) (hsz : d.size ≤ 1000000) (hcap : d.size ≤ cap) :
    Calls Try.prog 35 #[.slice (some ⟨blk, off, none⟩) d.size cap, .func (.func 36) #[] #[]] w fun e w' => e = .returned (.slice (some ⟨blk, off, none⟩) (d.toList.filter fun x => !over x).length cap) ∧ ∃ q, w' = putRow fv (Go.Sort.ahead w q) blk off ((d.toList.filter fun x => !over x) ++ List.replicate (d.size - (d.toList.filter fun x => !over x).length) 0).toArray :=
  AnyE.slices_DeleteFunc Try.delF fv fv_one over 36 #[] (enters_of Try.func36 (by kernel_rfl) rfl) 0 zero53 blk off cap d w (over_at w) (over_over _ _ _ w) hH (by omega) hcap

open Go.Lib (compactUpTo keeps) in
theorem compact_mem {d : Array (Fin 65537)} {n : Fin 65537} : n ∈ compactUpTo d d.size ↔ n ∈ d.toList := by
  unfold compactUpTo
  constructor
  · intro h
    obtain ⟨i, hi, rfl⟩ := List.mem_map.1 h
    obtain ⟨h1, _⟩ := List.mem_filter.1 hi
    have hlt := List.mem_range.1 h1
    rw [getElem!_pos d i hlt]
    simp
  · intro h
    obtain ⟨i, hi⟩ := List.mem_iff_getElem?.1 h
    have hlt : i < d.size := by simpa using (List.getElem?_eq_some_iff.1 hi).1
    have key : ∀ k, k < d.size → ∃ j, j ≤ k ∧ keeps d j = true ∧ d[j]! = d[k]! := by
      intro k
      induction k with
      | zero => intro _; exact ⟨0, Nat.le_refl _, Go.Lib.keeps_lt_one d 0 (by omega), rfl⟩
      | succ k ih =>
        intro hk
        by_cases e : d[k + 1]! = d[k]!
        · obtain ⟨j, h1, h2, h3⟩ := ih (by omega)
          exact ⟨j, by omega, h2, by rw [h3, e]⟩
        · exact ⟨k + 1, Nat.le_refl _, Go.Lib.keeps_pos (by simpa using e), rfl⟩
    obtain ⟨j, h1, h2, h3⟩ := key i hlt
    refine List.mem_map.2 ⟨j, List.mem_filter.2 ⟨List.mem_range.2 (by omega), h2⟩, ?_⟩
    rw [h3, getElem!_pos d i hlt]
    obtain ⟨hi', he⟩ := List.getElem?_eq_some_iff.1 hi
    simpa using he

open Go.Lib (compactUpTo keeps) in
theorem compact_rising {d : Array (Fin 65537)} (hs : d.toList.Pairwise (· ≤ ·)) : (compactUpTo d d.size).Pairwise (· < ·) := by
  unfold compactUpTo
  have hle : ∀ i j, i ≤ j → j < d.size → d[i]! ≤ d[j]! := fun i j hij hj => by
    rw [getElem!_pos d i (by omega), getElem!_pos d j hj]
    by_cases e : i = j
    · subst e; exact Fin.le_refl _
    · have := List.pairwise_iff_getElem.1 hs i j (by simp; omega) (by simpa using hj) (by omega)
      simpa using this
  have hr : ((List.range d.size).filter (keeps d)).Pairwise (· < ·) := List.pairwise_lt_range.filter _
  rw [List.pairwise_map]
  refine hr.imp_of_mem ?_
  intro i j hi hj hij
  obtain ⟨_, hk⟩ := List.mem_filter.1 hj
  have hjl := List.mem_range.1 (List.mem_filter.1 hj).1
  have h1 := hle i (j - 1) (by omega) (by omega)
  have h2 := hle (j - 1) j (by omega) hjl
  have hne : d[j]! ≠ d[j - 1]! := by
    intro e
    rw [Go.Lib.keeps_neg (by omega) e] at hk
    cases hk
  have h3 : d[i]! ≤ d[j]! := Fin.le_trans h1 h2
  rcases Nat.lt_or_ge (d[i]!).val (d[j]!).val with h | h
  · exact h
  · exact absurd (Fin.ext (by omega)) hne

/-- A whole number as what is sorted. -/
def toF (x : Int) : Fin 65537 := Fin.ofNat 65537 x.toNat

theorem toF_val {x : Int} (h0 : 0 ≤ x) (h1 : x ≤ 65536) : ((toF x).val : Int) = x := by
  unfold toF
  simp
  omega

theorem heap_putRow_other (w : World) (blk off k : Nat) (d : Array (Fin 65537)) (h : k ≠ blk) : (putRow fv w blk off d).heap[k]? = w.heap[k]? := by
  simp [putRow, Go.Sort.mapBlock, Array.getElem?_modify, Ne.symm h]

theorem row_grown (w : World) (g off m : Nat) (d : Array (Fin 65537)) (os : Array Obj) : w.grownBy (grow (putRow fv (Go.Sort.ahead w m) g off d) os) (some g) :=
  ⟨rfl, rfl, rfl, by simp, fun k hk hne => by
    show ((putRow fv (Go.Sort.ahead w m) g off d).heap ++ os)[k]? = _
    rw [Array.getElem?_append_left (by simp; omega)]
    exact heap_putRow_other (Go.Sort.ahead w m) g off k d (fun e => hne (by rw [e]))⟩

theorem row_grown0 (w : World) (g off m : Nat) (d : Array (Fin 65537)) : w.grownBy (putRow fv (Go.Sort.ahead w m) g off d) (some g) := by
  have := row_grown w g off m d #[]
  rw [Go.Sort.grow_empty] at this
  exact this

theorem compact_len (d : Array (Fin 65537)) : (Lib.compactUpTo d d.size).length ≤ d.size := by
  unfold Lib.compactUpTo
  rw [List.length_map]
  exact Nat.le_trans (List.length_filter_le _ _) (by simp)

set_option maxHeartbeats 2000000 in
/-- 'within' keeps the numbers of the plane, rising, each once, in the same row. -/
theorem within_any (g cap : Nat) (d : Array (Fin 65537)) (w : World) (hH : Holds fv w g 0 d) (hg : g < w.heap.size) (hsz : d.size ≤ 1000) (hcap : d.size ≤ cap) :
    Calls Try.prog 31 #[.slice (some ⟨g, 0, none⟩) d.size cap] w fun e w' => ∃ r : List (Fin 65537), e = .returned (.slice (some ⟨g, 0, none⟩) r.length cap) ∧ r.Pairwise (· < ·) ∧ (∀ x, x ∈ r ↔ x ∈ d.toList ∧ x.val ≤ 65535) ∧ r.length ≤ d.size ∧
      (∀ (i : Nat) x, r[i]? = some x → w'.cell? ⟨g, i, none⟩ = some (fv x)) ∧ w.grownBy w' (some g) := by
  have hsort := sort_any g 0 cap d w hH hg (by omega)
  have HH : Hid (Holds fv w g 0 d) := hH
  clear hH
  go_enter Try.func31, Try.ntmps31
  go_wp2_with fail
  refine hsort.mono ?_
  rintro e w1 ⟨rfl, d', n, os, hs1, hperm, hpw, rfl⟩
  have hH1 : Holds fv (grow (putRow fv (Go.Sort.ahead w n) g 0 d') os) g 0 d' := holds_grow _ _ _ _ _ _ (by simpa using hg) (holds_putRow _ _ _ _ d d' (holds_ahead _ _ _ _ _ _ HH.out) hs1)
  have G1 := row_grown w g 0 n d' os
  clear hsort HH
  generalize grow (putRow fv (Go.Sort.ahead w n) g 0 d') os = W1 at *
  have hcomp := compact_any g 0 cap d' W1 hH1 (by omega) (by omega)
  have hcl := compact_len d'
  have hcm : ∀ x, x ∈ Lib.compactUpTo d' d'.size ↔ x ∈ d.toList := fun x => by rw [compact_mem, hperm.mem_iff]
  have hcr := compact_rising hpw
  generalize hc : Lib.compactUpTo d' d'.size = c at *
  clear hc
  rw [hs1] at hcomp
  have HS : Hid (d'.size = d.size) := hs1
  clear hs1 hperm hpw
  go_wp2_with fail
  refine hcomp.mono ?_
  rintro e w2 ⟨rfl, q, rfl⟩
  have hz2 : (c ++ List.replicate (d.size - c.length) (0 : Fin 65537)).toArray.size = d'.size := by have := HS.out; simp; omega
  have hH2' := holds_putRow fv (Go.Sort.ahead W1 q) g 0 d' (c ++ List.replicate (d.size - c.length) 0).toArray (holds_ahead _ _ _ _ _ _ hH1) hz2
  have G2 := G1.trans (row_grown0 W1 g 0 q (c ++ List.replicate (d.size - c.length) 0).toArray)
  have hH2 : Holds fv (putRow fv (Go.Sort.ahead W1 q) g 0 (c ++ List.replicate (d.size - c.length) 0).toArray) g 0 c.toArray := fun j hj => by
    have hj' : j < c.length := by simpa using hj
    have h := hH2' j (by simp; omega)
    rw [getElem!_pos _ j (by simp; omega)] at h
    rw [getElem!_pos _ j hj]
    simp [List.getElem_append_left hj'] at h ⊢
    exact h
  clear hcomp hH1 hH2' G1
  generalize putRow fv (Go.Sort.ahead W1 q) g 0 (c ++ List.replicate (d.size - c.length) 0).toArray = W2 at *
  have hdel := del_any g 0 cap c.toArray W2 hH2 (by have := HS.out; simp; omega) (by have := HS.out; simp; omega)
  obtain ⟨r, hr⟩ : ∃ r, r = c.toArray.toList.filter fun x => !over x := ⟨_, rfl⟩
  rw [← hr] at hdel
  have hrm : ∀ x, x ∈ r ↔ x ∈ d.toList ∧ x.val ≤ 65535 := fun x => by
    rw [hr, List.mem_filter]
    simp only
    rw [hcm]
    simp [over]
  have hrr : r.Pairwise (· < ·) := by rw [hr]; exact hcr.filter _
  have hrl : r.length ≤ c.length := by rw [hr]; exact Nat.le_trans (List.length_filter_le _ _) (by simp)
  clear hr
  have hcs : c.toArray.size = c.length := by simp
  rw [hcs] at hdel
  go_wp2_with fail
  refine hdel.mono ?_
  rintro e w3 ⟨rfl, q3, rfl⟩
  have hz3 : (r ++ List.replicate (c.length - r.length) (0 : Fin 65537)).toArray.size = c.toArray.size := by simp; omega
  have hH3 := holds_putRow fv (Go.Sort.ahead W2 q3) g 0 c.toArray (r ++ List.replicate (c.length - r.length) 0).toArray (holds_ahead _ _ _ _ _ _ hH2) hz3
  have G3 := G2.trans (row_grown0 W2 g 0 q3 (r ++ List.replicate (c.length - r.length) 0).toArray)
  go_wp2_with fail
  go_ret
  refine ⟨r, rfl, hrr, hrm, by have := HS.out; omega, fun i x hx => ?_, G3⟩
  have hi := (List.getElem?_eq_some_iff.1 hx).1
  have h := (hH3 i (by simp; omega)).1
  rw [Nat.zero_add, getElem!_pos _ i (by simp; omega)] at h
  rw [h]
  obtain ⟨_, rfl⟩ := List.getElem?_eq_some_iff.1 hx
  simp [List.getElem_append_left hi]

end Go.Proofs.Ytepioggejacfjaa
