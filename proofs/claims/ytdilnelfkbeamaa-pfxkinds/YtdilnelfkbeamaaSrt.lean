/-
  slices.Sort and slices.Compact at uint32, on a row of the call's own.
-/
import Derived.Test.YtdilnelfkbeamaaQs10
import Derived.Test.YtdilnelfkbeamaaLay
namespace Go.Proofs.Ytdilnelfkbeamaa
open Go.RowKit Go.Shelf
open Go.Sort (Holds putRow putCells PermIn SortedIn ltInt grow cell?_grow holds_putRow holds_ahead holds_grow)

theorem bitLen_le (n : Nat) (h : n ≤ 1000000) : Lib.bitLen n ≤ 1000 := by
  rw [bitLen_eq _ (by omega)]
  have := (Go.Sort.bitsLen_le_iff n 62).2 (by omega)
  omega

theorem perm_of_permInI {d d' : Array Int} (h : Go.Sort.PermIn 0 d.size d d') : d'.toList.Perm d.toList := by
  obtain ⟨h1, _, h3⟩ := h
  have e1 : d.extract 0 d.size = d := by simp
  have e2 : d'.extract 0 d.size = d' := by rw [← h1]; simp
  rw [e1, e2] at h3
  exact h3

theorem pairwise_of_sortedInI {d : Array Int} {n : Nat} (hn : d.size = n) (h : Go.Sort.SortedIn ltInt 0 n d) : d.toList.Pairwise (· ≤ ·) := by
  subst hn
  rw [List.pairwise_iff_getElem]
  intro i j hi hj hij
  have := h i j (Nat.zero_le _) hij (by simpa using hj)
  rw [getElem!_pos d j (by simpa using hj), getElem!_pos d i (by simpa using hi)] at this
  simp [ltInt] at this
  simpa using this

set_option maxHeartbeats 1000000 in
theorem sort_any (blk off cap : Nat) (d : Array Int) (w : World) (hH : Holds (Value.int .u32) w blk off d) (hblk : blk < w.heap.size) (hsz : d.size ≤ 1000000) :
    Calls Try.prog 43 #[.slice (some ⟨blk, off, none⟩) d.size cap] w fun e w' => e = .returned (.tuple #[]) ∧ ∃ (d' : Array Int) (n : Nat) (os : Array Obj), d'.size = d.size ∧ d'.toList.Perm d.toList ∧ d'.toList.Pairwise (· ≤ ·) ∧ w' = grow (putRow (Value.int .u32) (Go.Sort.ahead w n) blk off d') os := by
  have R : RowU w blk off d := ⟨fun _ => rfl, hH, hblk⟩
  have hcall := pdq_all d.size w blk off cap 0 d.size (Lib.bitLen d.size) d d w R rfl (Nat.zero_le _) (Nat.le_refl _) (Nat.le_refl _) (by omega) (bitLen_le _ hsz) (Or.inl rfl) (SW.start hH)
  have hlen := fun W => bitsLen_any d.size W hsz
  clear hH R
  generalize (Lib.bitLen d.size) = bl at *
  go_enter Try.func43, Try.ntmps43
  go_wp2_with (first
    | (go_at_call 47; refine (hlen _).mono ?_; rintro e w1 ⟨rfl, rfl⟩)
    | (go_at_call 46; refine hcall.mono ?_; rintro e w2 ⟨rfl, d', hP, hS, n, os, hw⟩))
  go_end0
  exact ⟨rfl, d', n, os, hP.1, perm_of_permInI hP, pairwise_of_sortedInI hP.1 hS, rfl⟩

set_option maxHeartbeats 1000000 in
theorem insertion_nil (w : World) :
    Calls Try.prog 48 #[.slice none 0 0, .int .i64 0, .int .i64 0] w fun e w' => e = .returned (.tuple #[]) ∧ w' = w := by
  go_enter Try.func48, Try.ntmps48
  go_wp2_with fail
  refine wp_loop_rounds 1 ?_
  rw [rounds_succ]
  go_wp2_with fail
  go_end0
  exact ⟨rfl, rfl⟩

set_option maxHeartbeats 1000000 in
theorem pdqsort_nil (lim : Int) (w : World) :
    Calls Try.prog 46 #[.slice none 0 0, .int .i64 0, .int .i64 0, .int .i64 lim] w fun e w' => e = .returned (.tuple #[]) ∧ w' = w := by
  have hcall := insertion_nil w
  go_enter Try.func46, Try.ntmps46
  go_wp2_with fail
  refine wp_loop_rounds 1 ?_
  rw [rounds_succ]
  go_wp2_with (go_at_call 48; refine hcall.mono ?_; rintro e w1 ⟨rfl, h0⟩; rw [h0]; clear h0 w1)
  refine bodyPost_ret (results_none rfl _ _ _) rfl ?_
  exact ⟨rfl, rfl⟩

set_option maxHeartbeats 1000000 in
theorem sort_nil (w : World) :
    Calls Try.prog 43 #[.slice none 0 0] w fun e w' => e = .returned (.tuple #[]) ∧ w' = w := by
  have hcall := pdqsort_nil (Lib.bitLen 0 : Nat) w
  have hlen : ∀ W, Calls Try.prog 47 #[.int .u64 0] W fun e w' => e = .returned (.int .i64 (Lib.bitLen 0 : Nat)) ∧ w' = W := fun W => bitsLen_any 0 W (by omega)
  generalize (Lib.bitLen 0) = bl at *
  go_enter Try.func43, Try.ntmps43
  go_wp2_with (first
    | (go_at_call 47; refine (hlen _).mono ?_; rintro e w1 ⟨rfl, h0⟩; rw [h0]; clear h0 w1)
    | (go_at_call 46; refine hcall.mono ?_; rintro e w1 ⟨rfl, h0⟩; rw [h0]; clear h0 w1))
  go_end0
  exact ⟨rfl, rfl⟩

set_option maxHeartbeats 1000000 in
theorem compact_nil (w : World) :
    Calls Try.prog 44 #[.slice none 0 0] w fun e w' => e = .returned (.slice none 0 0) ∧ w' = w := by
  go_enter Try.func44, Try.ntmps44
  go_wp2_with fail
  go_ret
  exact ⟨rfl, rfl⟩

/-- slices.Compact at uint32. -/
theorem compact_any (blk off cap : Nat) (d : Array Int) (w : World) (hH : Holds (Value.int .u32) w blk off d) (hsz : d.size ≤ 1000000) (hcap : d.size ≤ cap) :
    Calls Try.prog 44 #[.slice (some ⟨blk, off, none⟩) d.size cap] w fun e w' => e = .returned (.slice (some ⟨blk, off, none⟩) (Lib.compactUpTo d d.size).length cap) ∧ ∃ q, w' = putRow (Value.int .u32) (Go.Sort.ahead w q) blk off (Lib.compactUpTo d d.size ++ List.replicate (d.size - (Lib.compactUpTo d d.size).length) 0).toArray :=
  AnyE.slices_Compact Try.compactU (Value.int .u32) (fun _ => rfl) (EqlAt.intD _ _ .u32) (NeqAt.intD _ _ .u32) 0 Try.zeroValue23 blk off cap d w hH (by omega) hcap

open Go.Lib (compactUpTo keeps) in
theorem compact_mem {d : Array Int} {n : Int} : n ∈ compactUpTo d d.size ↔ n ∈ d.toList := by
  unfold compactUpTo
  constructor
  · intro h
    obtain ⟨i, hi, rfl⟩ := List.mem_map.1 h
    obtain ⟨h1, _⟩ := List.mem_filter.1 hi
    have hlt := List.mem_range.1 h1
    rw [getElem!_pos d i hlt]
    simp
  · intro h
    obtain ⟨i, hi⟩ := List.mem_iff_getElem?.1 h
    have hlt : i < d.size := by simpa using (List.getElem?_eq_some_iff.1 hi).1
    have key : ∀ k, k < d.size → ∃ j, j ≤ k ∧ keeps d j = true ∧ d[j]! = d[k]! := by
      intro k
      induction k with
      | zero => intro _; exact ⟨0, Nat.le_refl _, Go.Lib.keeps_lt_one d 0 (by omega), rfl⟩
      | succ k ih =>
        intro hk
        by_cases e : d[k + 1]! = d[k]!
        · obtain ⟨j, h1, h2, h3⟩ := ih (by omega)
          exact ⟨j, by omega, h2, by rw [h3, e]⟩
        · exact ⟨k + 1, Nat.le_refl _, Go.Lib.keeps_pos (by simpa using e), rfl⟩
    obtain ⟨j, h1, h2, h3⟩ := key i hlt
    refine List.mem_map.2 ⟨j, List.mem_filter.2 ⟨List.mem_range.2 (by omega), h2⟩, ?_⟩
    rw [h3, getElem!_pos d i hlt]
    obtain ⟨hi', he⟩ := List.getElem?_eq_some_iff.1 hi
    simpa using he

open Go.Lib (compactUpTo keeps) in
theorem compact_rising {d : Array Int} (hs : d.toList.Pairwise (· ≤ ·)) : Rising (compactUpTo d d.size) := by
  unfold compactUpTo Rising
  have hle : ∀ i j, i ≤ j → j < d.size → d[i]! ≤ d[j]! := fun i j hij hj => by
    rw [getElem!_pos d i (by omega), getElem!_pos d j hj]
    by_cases e : i = j
    · subst e; exact Int.le_refl _
    · have := List.pairwise_iff_getElem.1 hs i j (by simp; omega) (by simpa using hj) (by omega)
      simpa using this
  have hr : ((List.range d.size).filter (keeps d)).Pairwise (· < ·) := List.pairwise_lt_range.filter _
  rw [List.pairwise_map]
  refine hr.imp_of_mem ?_
  intro i j hi hj hij
  obtain ⟨_, hk⟩ := List.mem_filter.1 hj
  have hjl := List.mem_range.1 (List.mem_filter.1 hj).1
  have h1 := hle i (j - 1) (by omega) (by omega)
  have h2 := hle (j - 1) j (by omega) hjl
  have hne : d[j]! ≠ d[j - 1]! := by
    intro e
    rw [Go.Lib.keeps_neg (by omega) e] at hk
    cases hk
  omega

theorem compact_len (d : Array Int) : (Lib.compactUpTo d d.size).length ≤ d.size := by
  unfold Lib.compactUpTo
  rw [List.length_map]
  exact Nat.le_trans (List.length_filter_le _ _) (by simp)

theorem heap_putRow_other (w : World) (blk off k : Nat) (d : Array Int) (h : k ≠ blk) : (putRow (Value.int .u32) w blk off d).heap[k]? = w.heap[k]? := by
  simp [putRow, Go.Sort.mapBlock, Array.getElem?_modify, Ne.symm h]

theorem row_grown (w : World) (g off m : Nat) (d : Array Int) (os : Array Obj) : w.grownBy (grow (putRow (Value.int .u32) (Go.Sort.ahead w m) g off d) os) (some g) :=
  ⟨rfl, rfl, rfl, by simp, fun k hk hne => by
    show ((putRow (Value.int .u32) (Go.Sort.ahead w m) g off d).heap ++ os)[k]? = _
    rw [Array.getElem?_append_left (by simp; omega)]
    exact heap_putRow_other (Go.Sort.ahead w m) g off k d (fun e => hne (by rw [e]))⟩

theorem heap_put {w : World} {g n : Nat} {os : Array Obj} {cur : Array Value} {e : TypeId} {fr : Nat × Nat} (d : Array Int) (hb : w.heap[g]? = some (.cells cur e fr)) :
    (grow (putRow (Value.int .u32) (Go.Sort.ahead w n) g 0 d) os).heap[g]? = some (.cells (putCells (Value.int .u32) 0 d cur) e fr) := by
  have hg : g < w.heap.size := (Array.getElem?_eq_some_iff.1 hb).1
  show ((putRow (Value.int .u32) (Go.Sort.ahead w n) g 0 d).heap ++ os)[g]? = _
  rw [Array.getElem?_append_left (by simp; omega)]
  simp [putRow, Go.Sort.mapBlock, Go.Sort.ahead, Array.getElem?_modify, hb, Go.Sort.onCells]

theorem take_put (cur : Array Value) (ts : List Int) (m : Nat) (h : ts.length ≤ cur.size) (hm : m ≤ ts.length) : (putCells (Value.int .u32) 0 ts.toArray cur).toList.take m = (ts.take m).map (Value.int .u32) := by
  apply List.ext_getElem?
  intro j
  by_cases hj : j < m
  · rw [List.getElem?_take_of_lt hj, Array.getElem?_toList, List.getElem?_map, List.getElem?_take_of_lt hj]
    simp [putCells, show j < ts.length by omega, show j < cur.size by omega]
  · rw [List.getElem?_take_eq_none (by omega), List.getElem?_eq_none (by simp; omega)]

/-- A row's block turned: the slice, cut to m, owns the first m of what was put. -/
theorem own_put {w : World} {base g cap n : Nat} {os : Array Obj} {cur : Array Value} (ts : List Int) (m : Nat) (hbase : base ≤ g) (hb : w.heap[g]? = some (.cells cur 23 (0, 0))) (hm : m ≤ ts.length) (hcap : ts.length ≤ cap) (h2 : cap ≤ maxLen) (h3 : cur.size = cap * 1) :
    Own1 base (grow (putRow (Value.int .u32) (Go.Sort.ahead w n) g 0 ts.toArray) os) (.slice (some ⟨g, 0, none⟩) m cap) (ts.take m) := by
  have e : (ts.take m).length = m := by simp; omega
  unfold Own1
  rw [e]
  refine ⟨by simp; omega, .inr ⟨g, cap, _, rfl, hbase, heap_put _ hb, by omega, h2, by simp [putCells, h3], ?_⟩⟩
  rw [Nat.mul_one]
  exact take_put cur ts m (by omega) hm

theorem holds_block {w : World} {g : Nat} {cur : Array Value} {e : TypeId} {ss : List Int} (hb : w.heap[g]? = some (.cells cur e (0, 0))) (ht : cur.toList.take ss.length = ss.map (Value.int .u32)) : Holds (Value.int .u32) w g 0 ss.toArray := by
  intro j hj
  have hj' : j < ss.length := by simpa using hj
  refine ⟨?_, by simp [World.frozen?, hb]⟩
  have h1 : (cur.toList.take ss.length)[j]? = (ss.map (Value.int .u32))[j]? := by rw [ht]
  rw [List.getElem?_take_of_lt hj'] at h1
  simp only [World.cell?, hb, Nat.zero_add]
  simp only [Option.isSome_none, Bool.false_eq_true, if_false]
  rw [← Array.getElem?_toList, h1]
  simp [hj']

theorem grownBy_refl (w : World) (o : Option Nat) : w.grownBy w o := ⟨rfl, rfl, rfl, Nat.le_refl _, fun _ _ _ => rfl⟩

/-- slices.Sort of a row of the call's own. -/
theorem sort_own (base : Nat) (v : Value) (l : List Int) (w : World) (hl : l.length ≤ 1000000) (h : Own1 base w v l) :
    Calls Try.prog 43 #[v] w fun e w' => e = .returned (.tuple #[]) ∧ ∃ l', l'.Perm l ∧ l'.Pairwise (· ≤ ·) ∧ Own1 base w' v l' ∧ w.grownBy w' v.ownBlock := by
  rcases h.2 with ⟨rfl, h0⟩ | ⟨g, cap, cur, rfl, hbase, hg, hn, hm, hs, ht⟩
  · have e : l = [] := List.length_eq_zero_iff.1 h0
    subst e
    refine (sort_nil w).mono fun e w' ⟨h1, h2⟩ => ⟨h1, [], List.Perm.refl _, List.Pairwise.nil, by rw [h2]; exact h, by rw [h2]; exact grownBy_refl _ _⟩
  · have hH : Holds (Value.int .u32) w g 0 l.toArray := holds_block hg (by simpa using ht)
    have hc := sort_any g 0 cap l.toArray w hH (Array.getElem?_eq_some_iff.1 hg).1 (by simpa using hl)
    rw [show l.toArray.size = l.length from by simp] at hc
    refine hc.mono fun e w' ⟨h1, d', n, os, h2, h3, h4, h5⟩ => ⟨h1, d'.toList, by simpa using h3, h4, ?_, ?_⟩
    · subst h5
      have h6 : d'.toList.length = l.length := by simpa using h2
      have := own_put (w := w) (n := n) (os := os) d'.toList l.length hbase hg (by omega) (by omega) hm hs
      rw [← h6, List.take_length, h6] at this
      simpa using this
    · subst h5
      exact row_grown w g 0 n d' os

/-- slices.Compact of a row of the call's own. -/
theorem compact_own (base : Nat) (v : Value) (l : List Int) (w : World) (hl : l.length ≤ 1000000) (hp : l.Pairwise (· ≤ ·)) (h : Own1 base w v l) :
    Calls Try.prog 44 #[v] w fun e w' => ∃ u r, e = .returned u ∧ IsSet l r ∧ r.length ≤ l.length ∧ Own1 base w' u r ∧ u.ownBlock = v.ownBlock ∧ w.grownBy w' v.ownBlock := by
  rcases h.2 with ⟨rfl, h0⟩ | ⟨g, cap, cur, rfl, hbase, hg, hn, hm, hs, ht⟩
  · have e : l = [] := List.length_eq_zero_iff.1 h0
    subst e
    exact (compact_nil w).mono fun e w' ⟨h1, h2⟩ => ⟨_, [], h1, IsSet.nil, Nat.le_refl _, by rw [h2]; exact h, rfl, by rw [h2]; exact grownBy_refl _ _⟩
  · have hH : Holds (Value.int .u32) w g 0 l.toArray := holds_block hg (by simpa using ht)
    have hc := compact_any g 0 cap l.toArray w hH (by simpa using hl) (by simpa using hn)
    have hcl := compact_len l.toArray
    have hcm : ∀ x, x ∈ Lib.compactUpTo l.toArray l.toArray.size ↔ x ∈ l := fun x => by rw [compact_mem]
    have hcr := compact_rising (d := l.toArray) (by simpa using hp)
    generalize Lib.compactUpTo l.toArray l.toArray.size = r at *
    rw [show l.toArray.size = l.length from by simp] at hc hcl
    refine hc.mono fun e w' ⟨h1, q, h5⟩ => ⟨_, r, h1, ⟨hcr, hcm⟩, hcl, ?_, rfl, ?_⟩
    · subst h5
      have := own_put (w := w) (n := q) (os := #[]) (r ++ List.replicate (l.length - r.length) 0) r.length hbase hg (by simp) (by simp; omega) hm hs
      rw [Go.Sort.grow_empty, List.take_left] at this
      exact this
    · subst h5
      have := row_grown w g 0 q (r ++ List.replicate (l.length - r.length) 0).toArray #[]
      rw [Go.Sort.grow_empty] at this
      exact this
end Go.Proofs.Ytdilnelfkbeamaa
