/-
  The walk of span.Atoms, for lists that slices.Sort is known to sort.
-/
import Derived.Test.YthcaijcchjociaaBetw
import Derived.Test.YthcaijcchjociaaIns
import Derived.Test.YthcaijcchjociaaNorm
import Derived.Test.YthcaijcchjociaaSet
namespace Go.Proofs.Ythcaijcchjociaa
open Go.RowKit
open Go.Sort (Holds putRow grow cell?_grow holds_putRow holds_ahead holds_grow ltInt)

/-- slices.Sort at uint32 sorts rows of at most S numbers. -/
def SortsUpTo (S : Nat) : Prop := ∀ (blk off cap : Nat) (d : Array Int) (w : World), Holds (Value.int .u32) w blk off d → blk < w.heap.size → d.size ≤ S →
  Calls Try.prog 28 #[.slice (some ⟨blk, off, none⟩) d.size cap] w fun e w' => e = .returned (.tuple #[]) ∧ ∃ (d' : Array Int) (n : Nat) (os : Array Obj), d'.size = d.size ∧ d'.toList.Perm d.toList ∧ d'.toList.Pairwise (· ≤ ·) ∧ w' = grow (putRow (Value.int .u32) (Go.Sort.ahead w n) blk off d') os

theorem perm_of_permInI {d d' : Array Int} (h : Go.Sort.PermIn 0 d.size d d') : d'.toList.Perm d.toList := by
  obtain ⟨h1, _, h3⟩ := h
  have e1 : d.extract 0 d.size = d := by simp
  have e2 : d'.extract 0 d.size = d' := by rw [← h1]; simp
  rw [e1, e2] at h3
  exact h3

theorem pairwise_of_sortedInI {d : Array Int} {n : Nat} (hn : d.size = n) (h : Go.Sort.SortedIn ltInt 0 n d) : d.toList.Pairwise (· ≤ ·) := by
  subst hn
  rw [List.pairwise_iff_getElem]
  intro i j hi hj hij
  have := h i j (Nat.zero_le _) hij (by simpa using hj)
  rw [getElem!_pos d j (by simpa using hj), getElem!_pos d i (by simpa using hi)] at this
  simp [ltInt] at this
  simpa using this

theorem sorts12 : SortsUpTo 12 := fun blk off cap d w hH _ h12 => by
  refine (sort_small blk off cap d w hH h12).mono fun e w' ⟨he, n, hw⟩ => ⟨he, ?_⟩
  obtain ⟨hp, hs⟩ := Go.Sort.insertionSort_holds (lt := ltInt) Go.Sort.swo_ltInt d 0 d.size (Nat.zero_le _) (Nat.le_refl _)
  exact ⟨_, n, #[], hp.1, perm_of_permInI hp, pairwise_of_sortedInI hp.1 hs, by rw [Go.Sort.grow_empty]; exact hw⟩

theorem holdsOwn1 {base : Nat} {w : World} {g n cap : Nat} {l : List Int} (h : Own1 base w (.slice (some ⟨g, 0, none⟩) n cap) l) (hne : l ≠ []) : Holds (Value.int .u32) w g 0 l.toArray := by
  obtain ⟨g', cap', hv, _, _, _, hfr, hcl⟩ := h.shape hne
  simp at hv
  obtain ⟨rfl, _⟩ := hv
  intro j hj
  have hj' : j < l.length := by simpa using hj
  refine ⟨?_, hfr _⟩
  rw [Nat.zero_add, getElem!_pos _ j hj]
  exact hcl j _ (by simp [List.getElem?_eq_getElem hj'])

theorem heap_putRow_other (w : World) (blk off k : Nat) (d : Array Int) (h : k ≠ blk) : (putRow (Value.int .u32) w blk off d).heap[k]? = w.heap[k]? := by
  simp [putRow, Go.Sort.mapBlock, Array.getElem?_modify, Ne.symm h]

theorem row_below {w : World} {base g off m : Nat} {d : Array Int} {os : Array Obj} (hg : base ≤ g) (hb : base ≤ w.heap.size) : Below base w (grow (putRow (Value.int .u32) (Go.Sort.ahead w m) g off d) os) :=
  ⟨rfl, rfl, rfl, by simp, fun k hk => by
    show ((putRow (Value.int .u32) (Go.Sort.ahead w m) g off d).heap ++ os)[k]? = _
    rw [Array.getElem?_append_left (by simp; omega)]
    exact heap_putRow_other (Go.Sort.ahead w m) g off k d (by omega)⟩

/-- slices.Compact at uint32. -/
theorem compact_any (blk off cap : Nat) (d : Array Int) (w : World) (hH : Holds (Value.int .u32) w blk off d) (hsz : d.size ≤ 1000000) (hcap : d.size ≤ cap) :
    Calls Try.prog 30 #[.slice (some ⟨blk, off, none⟩) d.size cap] w fun e w' => e = .returned (.slice (some ⟨blk, off, none⟩) (Lib.compactUpTo d d.size).length cap) ∧ ∃ q, w' = putRow (Value.int .u32) (Go.Sort.ahead w q) blk off (Lib.compactUpTo d d.size ++ List.replicate (d.size - (Lib.compactUpTo d d.size).length) 0).toArray := by
  have h := AnyE.slices_Compact Try.compactU (Value.int .u32) (fun _ => rfl) (EqlAt.intD _ _ .u32) (NeqAt.intD _ _ .u32) 0 Try.zeroValue23 blk off cap d w hH (by omega) hcap
  exact h

theorem Own1.below {base : Nat} {w w' : World} {v : Value} {l : List Int} (h : Own1 base w v l) (hB : Below w.heap.size w w') : Own1 base w' v l :=
  World.ownsRow.kept h (row := none) ⟨hB.os, hB.tape, hB.output, hB.size, fun k hk _ => hB.block k hk⟩ (by cases (Value.ownBlock v) <;> simp)

/-- A row stays where its block stays. -/
theorem Row2.heap {w w' : World} {v : Value} {l : List Sp} (h : Row2 w v l) (hs : w.heap.size ≤ w'.heap.size) (hb : ∀ b, v.ownBlock = some b → b < w.heap.size → w'.heap[b]? = w.heap[b]?) : Row2 w' v l := by
  obtain ⟨ao, cap, rfl, hc, hz⟩ := h
  refine ⟨ao, cap, rfl, fun hne => ?_, hz⟩
  obtain ⟨b, off, rfl, hlt, hcell⟩ := hc hne
  have e : ∀ o, w'.cell? ⟨b, o, none⟩ = w.cell? ⟨b, o, none⟩ := fun o => World.cell?_of_block (w := w) (hb b rfl hlt)
  exact ⟨b, off, rfl, by omega, fun i x hx => by rw [e, e]; exact hcell i x hx⟩

/-- What the inner loop keeps of where the rows lie. -/
structure Lie (wq : World) (out mv : Value) (m : List Sp) : Prop where
  row : Row2 wq mv m
  lt : ∀ g, mv.ownBlock = some g → g < wq.heap.size
  ne : ∀ g, mv.ownBlock = some g → out.ownBlock ≠ some g

theorem Lie.alloc {wq : World} {out mv : Value} {m : List Sp} (h : Lie wq out mv m) (o : Obj) : Lie (wq.alloc o) out mv m :=
  ⟨h.row.heap (by simp) (fun b _ hb => Below.heap_alloc wq o b hb), fun g hg => by have := h.lt g hg; simp; omega, h.ne⟩

theorem Lie.app {wq w' : World} {out mv : Value} {m : List Sp} {g n cap : Nat} (h : Lie wq out mv m) (hs : wq.heap.size ≤ w'.heap.size) (hg : out.ownBlock = some g ∨ g = wq.heap.size)
    (ho : ∀ b, b < wq.heap.size → out.ownBlock ≠ some b → w'.heap[b]? = wq.heap[b]?) : Lie w' (.slice (some ⟨g, 0, none⟩) n cap) mv m :=
  ⟨h.row.heap hs (fun b hb hlt => ho b hlt (h.ne b hb)), fun x hx => by have := h.lt x hx; omega, fun x hx e => by
    simp [Value.ownBlock] at e
    subst e
    rcases hg with c | c
    · exact h.ne g hx c
    · have := h.lt g hx; omega⟩

set_option maxHeartbeats 2000000 in
theorem atoms_full (S : Nat) (hS : SortsUpTo S) (v : Value) (L : List (List Sp)) (w : World) (hL : L.length ≤ 100000) (hcnt : 1 + 2 * cnt L L.length ≤ S) (hS2 : S ≤ 10000) (hlen : ∀ l ∈ L, l.length ≤ 1000) (hgood : ∀ l ∈ L, Good l) (hv : RowS w v L) :
    Calls Try.prog 20 #[v] w fun e w' => ∃ u o, e = .returned u ∧ Atoms L o ∧ o.length ≤ S ∧ Row2 w' u o ∧ Below w.heap.size w w' ∧ Full u := by
  have HV : Hid (RowS w v L) := hv
  obtain ⟨ao, cap, rfl, hc⟩ := hv
  have HG : Hid (∀ l ∈ L, Good l) := hgood
  have HLN : Hid (∀ l ∈ L, l.length ≤ 1000) := hlen
  have HS : Hid (SortsUpTo S) := hS
  clear hgood hlen hS
  go_enter Try.func20, Try.ntmps20
  go_wp2_with fail
  go_loopw [3, 13] (fun out i wr => ∃ (k : Nat) (b : List Int), k ≤ L.length ∧ i = .int .i64 k ∧ Own1 w.heap.size wr out b ∧ (∀ n, n ∈ b ↔ n = 0 ∨ ∃ j l, j < k ∧ L[j]? = some l ∧ DiffAt l n) ∧ b.length ≤ 1 + 2 * cnt L k ∧ Below w.heap.size w wr) (fun _ i _ => L.length - (intOf i).toNat)
  case atStart => exact ⟨0, [0], Nat.zero_le _, rfl, Own1.one w 0, fun n => by simp, by simp [cnt], (Below.refl _ _).alloc (Nat.le_refl _) _⟩
  case round =>
    obtain ⟨k, b, hk, rfl, hown, hmem, hblen, hB⟩ := hrel
    have HM : Hid (∀ n, n ∈ b ↔ n = 0 ∨ ∃ j l, j < k ∧ L[j]? = some l ∧ DiffAt l n) := hmem
    clear hmem
    have hB' := hB.size
    by_cases hlt : k < L.length
    · obtain ⟨ba, offa, rfl, hba, hcella⟩ := hc (ne_nil_of_lt hlt)
      obtain ⟨l, hl⟩ : ∃ l, L[k]? = some l := ⟨_, List.getElem?_eq_getElem hlt⟩
      obtain ⟨q, hq, hrow⟩ := hcella k l hl
      have hq' : wr.cell? ⟨ba, offa + k, none⟩ = some q := (hB.cell (by exact hba)).trans hq
      have hnorm := norm_own q l wr (HLN.out l (List.mem_of_getElem? hl)) (HG.out l (List.mem_of_getElem? hl)) (hrow.kept hB (Nat.le_refl _))
      have HL : Hid (L[k]? = some l) := hl
      have hcs := cnt_succ hl
      have hcl := cnt_le (L := L) (show k + 1 ≤ L.length from hlt)
      have hll : 1 + 2 * (cnt L k + l.length) ≤ S := by omega
      have HCS : Hid (cnt L (k + 1) = cnt L k + l.length) := hcs
      obtain ⟨ao2, cap2, rfl, _⟩ := hrow
      clear hcella hq hl hcs hcl
      go_wp2_with fail
      refine hnorm.mono ?_
      rintro e w1 ⟨u1, m, rfl, hnf, hmm, hml, hownm, hB1⟩
      obtain ⟨ao3, cap3, rfl⟩ := hownm.form
      have own1 := hown.below hB1
      have B1 := hB.trans (hB1.mono hB')
      have HMM : Hid (∀ n, inS m n = inS l n) := hmm
      have HNF : Hid (NF m) := hnf
      have hlie : Lie w1 _ (.slice ao3 m.length cap3) m := ⟨Row2.of_owns hownm, fun g hg => (World.ownsRow.lt hownm g hg).2, fun g hg e => by
        have h1 := (World.ownsRow.lt hownm g hg).1
        have h2 := (World.ownsRow.lt hown g e).2
        omega⟩
      clear hnorm hown hB hmm hnf hownm
      go_wp2_with fail
      go_loopw [3, 20] (fun out j wq => ∃ (p : Nat) (b' : List Int), p ≤ m.length ∧ j = .int .i64 p ∧ Own1 w.heap.size wq out b' ∧ (∀ n, n ∈ b' ↔ n ∈ b ∨ ∃ s ∈ m.take p, EdgeOf s n) ∧ b'.length ≤ 1 + 2 * (cnt L k + p) ∧ Below w.heap.size w wq ∧ Lie wq out (.slice ao3 m.length cap3) m) (fun _ j _ => m.length - (intOf j).toNat)
      case atStart => exact ⟨0, b, Nat.zero_le _, rfl, own1, fun n => by simp, by omega, B1, hlie⟩
      case round =>
        clear own1 B1 hlie hB1
        obtain ⟨p, b', hp, rfl, hown, hmem, hbl, hB, hlie⟩ := hrel
        have HM2 : Hid (∀ n, n ∈ b' ↔ n ∈ b ∨ ∃ s ∈ m.take p, EdgeOf s n) := hmem
        have hB' := hB.size
        clear hmem
        by_cases hpl : p < m.length
        · obtain ⟨x, hx⟩ : ∃ x, m[p]? = some x := ⟨_, List.getElem?_eq_getElem hpl⟩
          obtain ⟨_, _, hve, hrc, _⟩ := hlie.row
          injection hve with hve1 _ hve2
          subst hve1
          obtain ⟨bb, offb, rfl, hbb, hcellb⟩ := hrc (ne_nil_of_lt hpl)
          obtain ⟨c1, c2⟩ := hcellb p x hx
          have hxb := HNF.out.1 x (List.mem_of_getElem? hx)
          have HT : Hid (m.take (p + 1) = m.take p ++ [x]) := take_succ_of hx
          have hbox := hlie.alloc (.cells #[.int .u32 x.1, .int .u32 x.2] 35)
          have hbox2 := hbox.alloc (.cells #[.int .u32 x.1] 23)
          have HNM : Hid (∀ n, n ∈ b' ++ [x.1] ↔ n ∈ b ∨ (∃ s ∈ m.take p, EdgeOf s n) ∨ n = x.1) := fun n => by
            rw [mem_snoc, HM2.out n, or_assoc]
          clear hc hrc hcellb hx hve2 hlie hbox
          by_cases hM : x.2 = 4294967295
          · rw [hM] at c2
            have HN2 : Hid (∀ n, n ∈ b' ++ [x.1] ↔ n ∈ b ∨ ∃ s ∈ m.take (p + 1), EdgeOf s n) := fun n => by
              rw [HNM.out n, HT.out]
              constructor
              · rintro (h | ⟨s, hs, h⟩ | rfl)
                · exact Or.inl h
                · exact Or.inr ⟨s, by simp [hs], h⟩
                · exact Or.inr ⟨x, by simp, Or.inl rfl⟩
              · rintro (h | ⟨s, hs, h⟩)
                · exact Or.inl h
                · rcases mem_snoc.1 hs with hs | rfl
                  · exact Or.inr (Or.inl ⟨s, hs, h⟩)
                  · rcases h with h | ⟨_, h⟩
                    · exact Or.inr (Or.inr h)
                    · omega
            rw [hM] at hbox2
            clear hM
            go_wp2_with (first
              | (at_builtin; (refine wp_app1 rfl (.tmp 24) (.tmp 27) rfl w.heap.size _ b' rfl ((hown.alloc _).alloc _) x.1 (wr.heap.size + 1) rfl (by simp [go_sem]) (by omega) (by simp; omega) ?_; intro g3 cap4 w3 how3 hB3 hg31 hg32 hgg hoth; have q1 := (World.cell?_of_block (w := (wr.alloc (.cells #[.int .u32 x.1, .int .u32 4294967295] 35)).alloc (.cells #[.int .u32 x.1] 23)) (a := ⟨wr.heap.size, 1, none⟩) (hoth wr.heap.size (by simp; omega) (hown.notAt (Nat.le_refl _)))).trans (by simp [go_sem] : _ = some (.int .u32 4294967295))))
              | (go_at_call 27; refine (next_last _).mono ?_; rintro e w4 ⟨rfl, rfl⟩))
            go_roundw
            case rel => exact ⟨p + 1, b' ++ [x.1], by omega, by go_num, how3, HN2.out, by simp; omega, ((hB.alloc hB' _).alloc (by simp; omega) _).trans hB3, hbox2.app hB3.size hgg hoth⟩
            case measure => simp [intOf]; omega
          · have hM' : x.2 < 4294967295 := by omega
            have HN2 : Hid (∀ n, n ∈ b' ++ [x.1] ++ [x.2 + 1] ↔ n ∈ b ∨ ∃ s ∈ m.take (p + 1), EdgeOf s n) := fun n => by
              rw [mem_snoc, HNM.out n, HT.out]
              constructor
              · rintro ((h | ⟨s, hs, h⟩ | rfl) | rfl)
                · exact Or.inl h
                · exact Or.inr ⟨s, by simp [hs], h⟩
                · exact Or.inr ⟨x, by simp, Or.inl rfl⟩
                · exact Or.inr ⟨x, by simp, Or.inr ⟨rfl, hM'⟩⟩
              · rintro (h | ⟨s, hs, h⟩)
                · exact Or.inl (Or.inl h)
                · rcases mem_snoc.1 hs with hs | rfl
                  · exact Or.inl (Or.inr (Or.inl ⟨s, hs, h⟩))
                  · rcases h with h | ⟨h, _⟩
                    · exact Or.inl (Or.inr (Or.inr h))
                    · exact Or.inr h
            clear hM
            go_wp2_with (first
              | (at_builtin; (refine wp_app1 rfl (.tmp 24) (.tmp 27) rfl w.heap.size _ b' rfl ((hown.alloc _).alloc _) x.1 (wr.heap.size + 1) rfl (by simp [go_sem]) (by omega) (by simp; omega) ?_; intro g3 cap4 w3 how3 hB3 hg31 hg32 hgg hoth; have q1 := (World.cell?_of_block (w := (wr.alloc (.cells #[.int .u32 x.1, .int .u32 x.2] 35)).alloc (.cells #[.int .u32 x.1] 23)) (a := ⟨wr.heap.size, 1, none⟩) (hoth wr.heap.size (by simp; omega) (hown.notAt (Nat.le_refl _)))).trans (by simp [go_sem] : _ = some (.int .u32 x.2))))
              | (at_builtin; refine wp_app1 rfl (.tmp 36) (.tmp 38) rfl w.heap.size _ (b' ++ [x.1]) rfl (how3.alloc _) (x.2 + 1) _ rfl (cell0_new _ _ _) (by simp; omega) (by simp; omega) ?_; intro g5 cap5 w5 how5 hB5 hg51 hg52 hgg5 hoth5)
              | (go_at_call 27; refine (next_more _ (by omega) hM' _).mono ?_; rintro e w4 ⟨rfl, rfl⟩))
            have hsz3 := hB3.size
            have hl3 := (hbox2.app (n := b'.length + 1) (cap := cap4) hsz3 hgg hoth).alloc (.cells #[.int .u32 (x.2 + 1)] 23)
            go_roundw
            case rel => exact ⟨p + 1, b' ++ [x.1] ++ [x.2 + 1], by omega, by go_num, (by rw [List.length_append] at how5; exact how5), HN2.out, by simp; omega, ((((hB.alloc hB' _).alloc (by simp; omega) _).trans hB3).alloc (by simp at hsz3; omega) _).trans hB5, hl3.app hB5.size hgg5 hoth5⟩
            case measure => simp [intOf]; omega
        · have hpe : m.take p = m := List.take_of_length_le (by omega)
          have hpm : p ≤ l.length := by omega
          have HN3 : Hid (∀ n, n ∈ b' ↔ n = 0 ∨ ∃ j l', j < k + 1 ∧ L[j]? = some l' ∧ DiffAt l' n) := fun n => by
            rw [HM2.out n, hpe, HM.out n]
            constructor
            · rintro ((h | ⟨j, l', hj, hl', h⟩) | ⟨s, hs, h⟩)
              · exact Or.inl h
              · exact Or.inr ⟨j, l', by omega, hl', h⟩
              · rcases edge_diff HNF.out HMM.out hs h with h | h
                · exact Or.inl h
                · exact Or.inr ⟨k, l, by omega, HL.out, h⟩
            · rintro (h | ⟨j, l', hj, hl', h⟩)
              · exact Or.inl (Or.inl h)
              · by_cases e : j = k
                · subst e
                  rw [HL.out] at hl'
                  injection hl' with hl'
                  subst hl'
                  exact Or.inr (diff_edge HMM.out h)
                · exact Or.inl (Or.inr ⟨j, l', by omega, hl', h⟩)
          clear hpe hc hlie
          go_wp2_with fail
          go_roundw
          case rel => exact ⟨k + 1, b', by omega, by go_num, hown, HN3.out, by rw [HCS.out]; omega, hB⟩
          case measure => simp [intOf]; omega
    · have hke : k = L.length := by omega
      subst hke
      have hat : AtBeg L b := fun n => by
        rw [HM.out n]
        constructor
        · rintro (h | ⟨j, l, _, hl, h⟩)
          · exact Or.inl h
          · exact Or.inr ⟨l, List.mem_of_getElem? hl, h⟩
        · rintro (h | ⟨l, hl, h⟩)
          · exact Or.inl h
          · obtain ⟨j, hj⟩ := List.mem_iff_getElem?.1 hl
            exact Or.inr ⟨j, l, (List.getElem?_eq_some_iff.1 hj).1, hj, h⟩
      have hne : b ≠ [] := fun e => by
        have := (hat 0).2 (Or.inl rfl)
        rw [e] at this
        simp at this
      obtain ⟨g, cap2, rfl, hg1, hg2, hcap, _, _⟩ := hown.shape hne
      have hH := holdsOwn1 hown hne
      have hsort := HS.out g 0 cap2 b.toArray wr hH hg2 (by simp; omega)
      change Calls Try.prog 28 #[.slice (some ⟨g, 0, none⟩) b.length cap2] wr _ at hsort
      have HAT : Hid (AtBeg L b) := hat
      have HH := hH
      clear hc hat hne hown hH
      go_wp2_with fail
      refine hsort.mono ?_
      rintro e w1 ⟨rfl, d', n, os, hsz, hperm, hpw, rfl⟩
      have hH1 : Holds (Value.int .u32) (grow (putRow (Value.int .u32) (Go.Sort.ahead wr n) g 0 d') os) g 0 d' := holds_grow _ _ _ _ _ _ (by simpa using hg2) (holds_putRow _ _ _ _ b.toArray d' (holds_ahead _ _ _ _ _ _ HH) hsz)
      have B1 := hB.trans (row_below (w := wr) (base := w.heap.size) (g := g) (off := 0) (m := n) (d := d') (os := os) hg1 hB')
      have hs1 : g < (grow (putRow (Value.int .u32) (Go.Sort.ahead wr n) g 0 d') os).heap.size := by simp; omega
      have hdb : d'.size = b.length := by simpa using hsz
      clear hsort HH
      generalize grow (putRow (Value.int .u32) (Go.Sort.ahead wr n) g 0 d') os = W1 at *
      have hcomp := compact_any g 0 cap2 d' W1 hH1 (by omega) (by omega)
      have hclen : (Lib.compactUpTo d' d'.size).length ≤ d'.size := by
        unfold Lib.compactUpTo
        rw [List.length_map]
        exact Nat.le_trans (List.length_filter_le _ _) (by simp)
      have HCM : Hid (∀ n, n ∈ Lib.compactUpTo d' d'.size ↔ n ∈ b) := fun n => by
        rw [compact_mem, hperm.mem_iff]
      have HCR : Hid (Rising (Lib.compactUpTo d' d'.size)) := compact_rising hpw
      rw [hdb] at hcomp hclen HCM HCR
      go_wp2_with fail
      refine hcomp.mono ?_
      rintro e w2 ⟨rfl, q, rfl⟩
      have hrow : Row1 (putRow (Value.int .u32) (Go.Sort.ahead W1 q) g 0 (Lib.compactUpTo d' b.length ++ List.replicate (b.length - (Lib.compactUpTo d' b.length).length) 0).toArray) (.slice (some ⟨g, 0, none⟩) (Lib.compactUpTo d' b.length).length cap2) (Lib.compactUpTo d' b.length) := by
        refine ⟨_, _, rfl, fun _ => ⟨g, 0, rfl, by simpa using hs1, fun i x hx => ?_⟩⟩
        have hi := (List.getElem?_eq_some_iff.1 hx).1
        have h := Go.Sort.cell?_putRow (Value.int .u32) (Go.Sort.ahead W1 q) g 0 d' (Lib.compactUpTo d' b.length ++ List.replicate (b.length - (Lib.compactUpTo d' b.length).length) 0).toArray (holds_ahead _ _ _ _ _ _ hH1) (by simp; omega) i (by simp; omega)
        rw [h, getElem!_pos _ i (by simp; omega)]
        obtain ⟨_, rfl⟩ := List.getElem?_eq_some_iff.1 hx
        simp [List.getElem_append_left hi]
      have B2 := B1.trans (by
        have := row_below (w := W1) (base := w.heap.size) (g := g) (off := 0) (m := q) (d := (Lib.compactUpTo d' b.length ++ List.replicate (b.length - (Lib.compactUpTo d' b.length).length) 0).toArray) (os := #[]) hg1 (by omega)
        rw [Go.Sort.grow_empty] at this
        exact this)
      have HAC : Hid (AtBeg L (Lib.compactUpTo d' b.length)) := fun n => by rw [HCM.out n]; exact HAT.out n
      have hbtw := between_full _ _ _ (HAC.out.beg HCR.out) (by omega) hrow
      clear hcomp hrow hH1
      generalize putRow (Value.int .u32) (Go.Sort.ahead W1 q) g 0 (Lib.compactUpTo d' b.length ++ List.replicate (b.length - (Lib.compactUpTo d' b.length).length) 0).toArray = W2 at *
      generalize Lib.compactUpTo d' b.length = c at *
      go_wp2_with fail
      refine hbtw.mono ?_
      rintro e w3 ⟨u3, rfl, hr3, hB3, hF3⟩
      go_wp2_with fail
      go_ret
      exact ⟨_, spansOf c, rfl, ⟨c, HCR.out, HAC.out, rfl⟩, by simp [spansOf]; omega, hr3, B2.trans (hB3.mono B2.size), hF3⟩

theorem atoms_any (S : Nat) (hS : SortsUpTo S) (v : Value) (L : List (List Sp)) (w : World) (hL : L.length ≤ 100000) (hcnt : 1 + 2 * cnt L L.length ≤ S) (hS2 : S ≤ 10000) (hlen : ∀ l ∈ L, l.length ≤ 1000) (hgood : ∀ l ∈ L, Good l) (hv : RowS w v L) :
    Calls Try.prog 20 #[v] w fun e w' => ∃ u o, e = .returned u ∧ Atoms L o ∧ o.length ≤ S ∧ Row2 w' u o ∧ Below w.heap.size w w' :=
  (atoms_full S hS v L w hL hcnt hS2 hlen hgood hv).mono fun _ _ ⟨u, o, h1, h2, h3, h4, h5, _⟩ => ⟨u, o, h1, h2, h3, h4, h5⟩
end Go.Proofs.Ythcaijcchjociaa
