/-
  The walk of pattern: a whole text is read.
-/
import Derived.Test.YtihnmamejfoeeaaGreatDoorRb5
namespace Go.Proofs.YtihnmamejfoeeaaGreatDoor
open Go.RowKit

/-- One part more behind the row, whatever its blocks are. -/
theorem LI.stepQ {s : ByteArray} {b : Nat} {w : World} {b3 i : Nat} {wr ou fu : Bool} {k : Int} {ts : List Tree} {bs : Sl} {rows : List PC} {W W' : World} (h : LI s b w b3 i wr ou fu k ts bs rows W) {t : Tree} {r : PC} (hr : HO (fun g => w.heap.size + 1 ≤ g ∧ g < W.heap.size ∧ g ≠ b3 ∧ bs.v.ownBlock ≠ some g) W t r) (hk : rightT t = true) (hlen : ts.length + 1 ≤ i + 4)
    {g n cap : Nat} (how : OwnT 0 W' (.slice (some ⟨g, 0, none⟩) n cap) (rows ++ [r])) (gr : W.grownBy W' bs.v.ownBlock) (hg : bs.v.ownBlock = some g ∨ g = W.heap.size) :
    LI s b w b3 i wr ou fu k (ts ++ [t]) ⟨some ⟨g, 0, none⟩, n, cap⟩ (rows ++ [r]) (W'.setCell ⟨b3, 2, none⟩ (.slice (some ⟨g, 0, none⟩) n cap)) := by
  have hb3 := h.hb3
  have m3 := h.me.lt
  have hlt := h.ax.lt
  have hk' : ∀ q, bs.v.ownBlock = some q → w.heap.size ≤ q := fun q hq => by have := (h.rowP q hq).1; omega
  have hgb : w.heap.size + 1 ≤ g ∧ g ≠ b3 := by
    rcases hg with hg | hg
    · exact h.rowP g hg
    · have := h.ax.res.lt; omega
  have hnew : ∀ q, q < W.heap.size → bs.v.ownBlock ≠ some q → (Sl.v ⟨some ⟨g, 0, none⟩, n, cap⟩).ownBlock ≠ some q := fun q h1 h2 e => by
    injection e with e
    have e : g = q := e
    subst e
    rcases hg with hg | hg
    · exact h2 hg
    · omega
  have hheap : ∀ q, q < W.heap.size → q ≠ b3 → bs.v.ownBlock ≠ some q → (W'.setCell ⟨b3, 2, none⟩ (.slice (some ⟨g, 0, none⟩) n cap)).heap[q]? = W.heap[q]? := fun q h1 h2 h3 => (Below.heap_setCell _ _ _ _ h2).trans (gr.block q h1 (fun e => h3 e.symm))
  have hsz : (W'.setCell ⟨b3, 2, none⟩ (.slice (some ⟨g, 0, none⟩) n cap)).heap.size = W'.heap.size := by simp
  have hex : Ex b w (W'.setCell ⟨b3, 2, none⟩ (.slice (some ⟨g, 0, none⟩) n cap)) := (h.ax.ex.grown gr hk').setNew (by omega) 2 _
  refine ⟨⟨hex, (h.ax.res.grown gr (fun e => by have := (h.rowP _ e).1; omega)).other (by show w.heap.size ≠ b3; omega) _, (h.ax.rd.grown gr (fun e => by have := (h.rowP _ e).1; omega)).other (by show b ≠ b3; omega) _, hlt⟩, ?_, how.setOther (by intro e; injection e with e; exact hgb.2 e) _, ?_, ?_, hb3, ?_, h.le, by simp; omega⟩
  · exact (h.me.grown gr (fun e => (h.rowP _ e).2 rfl)).set 2 (.slice (some ⟨g, 0, none⟩) n cap)
  · intro g1 hg1
    injection hg1 with hg1
    have hg1 : g = g1 := hg1
    subst hg1
    exact hgb
  · refine HOs.snoc (HOs.same ?_ ?_ h.hos) (HO.same ?_ ?_ hr)
    all_goals intro q ⟨h1, h2, h3, h4⟩
    · exact ⟨h1, by rw [hsz]; exact Nat.lt_of_lt_of_le h2 gr.size, h3, hnew q h2 h4⟩
    · exact hheap q h2 h3 h4
    · exact ⟨h1, by rw [hsz]; exact Nat.lt_of_lt_of_le h2 gr.size, h3, hnew q h2 h4⟩
    · exact hheap q h2 h3 h4
  · intro u hu
    rcases List.mem_append.1 hu with hu | hu
    · exact h.rt u hu
    · simp at hu; subst hu; exact hk

/-- What was read lies in block b4. -/
structure XI (s : ByteArray) (b : Nat) (w : World) (b4 i : Nat) (wr ou fu : Bool) (t : Tree) (x : PC) (W : World) : Prop where
  ax : AX s b w i wr ou fu W
  box : Blk W b4 (encT x).toArray 26
  ho : HO (fun g => w.heap.size + 1 ≤ g ∧ g < b4) W t x
  hb4 : w.heap.size < b4
  rt : rightT t = true
theorem XI.go {s : ByteArray} {b : Nat} {w : World} {b4 i i' : Nat} {wr ou fu wr' ou' fu' : Bool} {t : Tree} {x : PC} {W W' : World} (h : XI s b w b4 i wr ou fu t x W) (g : Ex b W W') (hb : BlkR W' b s i' wr' ou' fu') : XI s b w b4 i' wr' ou' fu' t x W' :=
  ⟨h.ax.go g hb, Blk.ex g h.box (by have := h.ax.lt; have := h.hb4; omega), HO.same (fun _ h1 => h1) (fun q h1 => g.block q (by have := h.box.lt; omega) (by have := h.ax.lt; omega)) h.ho, h.hb4, h.rt⟩
theorem XI.bel {s : ByteArray} {b : Nat} {w : World} {b4 i : Nat} {wr ou fu : Bool} {t : Tree} {x : PC} {W W' : World} (h : XI s b w b4 i wr ou fu t x W) (g : Below W.heap.size W W') : XI s b w b4 i wr ou fu t x W' := h.go (.of_bel g) (h.ax.rd.bel g)
/-- Stores elsewhere. -/
theorem XI.same {s : ByteArray} {b : Nat} {w : World} {b4 i : Nat} {wr ou fu : Bool} {t : Tree} {x : PC} {W W' : World} (h : XI s b w b4 i wr ou fu t x W) (ha : AX s b w i wr ou fu W') (hs : ∀ q, q ≤ b4 → w.heap.size < q → W'.heap[q]? = W.heap[q]?) : XI s b w b4 i wr ou fu t x W' :=
  ⟨ha, (hs b4 (Nat.le_refl _) h.hb4).trans h.box, HO.same (fun _ h1 => h1) (fun q h1 => hs q (by omega) (by omega)) h.ho, h.hb4, h.rt⟩

/-- The list that is put together, beside it. -/
structure PI (s : ByteArray) (b : Nat) (w : World) (b4 b3 i : Nat) (wr ou fu : Bool) (t : Tree) (x : PC) (ts : List Tree) (bs : Sl) (rows : List PC) (W : World) : Prop where
  xi : XI s b w b4 i wr ou fu t x W
  li : LI s b w b3 i wr ou fu 2 ts bs rows W
  lt : b4 < b3
  rowB : ∀ g, bs.v.ownBlock = some g → b4 < g
theorem PI.bel {s : ByteArray} {b : Nat} {w : World} {b4 b3 i : Nat} {wr ou fu : Bool} {t : Tree} {x : PC} {ts : List Tree} {bs : Sl} {rows : List PC} {W W' : World} (h : PI s b w b4 b3 i wr ou fu t x ts bs rows W) (g : Below W.heap.size W W') : PI s b w b4 b3 i wr ou fu t x ts bs rows W' := ⟨h.xi.bel g, h.li.bel g, h.lt, h.rowB⟩
theorem PI.step {s : ByteArray} {b : Nat} {w : World} {b4 b3 i : Nat} {wr ou fu : Bool} {t : Tree} {x : PC} {ts : List Tree} {bs : Sl} {rows : List PC} {W W' : World} (h : PI s b w b4 b3 i wr ou fu t x ts bs rows W) {u : Tree} {r : PC} (hr : HO (fun g => w.heap.size + 1 ≤ g ∧ g < W.heap.size ∧ g ≠ b3 ∧ bs.v.ownBlock ≠ some g) W u r) (hk : rightT u = true) (hlen : ts.length + 1 ≤ i + 4)
    {g n cap : Nat} (how : OwnT 0 W' (.slice (some ⟨g, 0, none⟩) n cap) (rows ++ [r])) (gr : W.grownBy W' bs.v.ownBlock) (hg : bs.v.ownBlock = some g ∨ g = W.heap.size) :
    PI s b w b4 b3 i wr ou fu t x (ts ++ [u]) ⟨some ⟨g, 0, none⟩, n, cap⟩ (rows ++ [r]) (W'.setCell ⟨b3, 2, none⟩ (.slice (some ⟨g, 0, none⟩) n cap)) := by
  have hl := h.li.stepQ hr hk hlen how gr hg
  have hb := h.xi.box.lt
  refine ⟨h.xi.same hl.ax fun q h1 h2 => ?_, hl, h.lt, ?_⟩
  · exact (Below.heap_setCell _ _ _ _ (by have := h.lt; show q ≠ b3; omega)).trans (gr.block q (by omega) (fun e => by have := h.rowB q e.symm; omega))
  · intro g1 hg1
    injection hg1 with hg1
    have hg1 : g = g1 := hg1
    subst hg1
    rcases hg with hg | hg
    · exact h.rowB g hg
    · omega

/-- The end of a text: what is left behind it isn't of the grammar. -/
def EndD (s : ByteArray) (i : Nat) (wr : Bool) (wr' : Bool) : Prop := (wr = true → wr' = true) ∧ (wr = false → (s.data.toList.drop i = [] ∧ wr' = false) ∨ (s.data.toList.drop i ≠ [] ∧ wr' = true))

def endI (s : ByteArray) (i : Nat) : Nat := if headIs 36 (s.data.toList.drop i) = true then i + 1 else i

theorem tailIf_drop (s : ByteArray) (c : UInt8) (i : Nat) : tailIf (headIs c (s.data.toList.drop i)) (s.data.toList.drop i) = s.data.toList.drop (if headIs c (s.data.toList.drop i) = true then i + 1 else i) := by
  cases h : headIs c (s.data.toList.drop i) with
  | true =>
    have := (headIs_drop h).1
    simp only [tailIf, if_true]
    rw [this]; rfl
  | false => simp [tailIf]

/-- What pattern comes to. -/
def PatP (s : ByteArray) (b : Nat) (w : World) (e : Ending) (w' : World) : Prop :=
  ∃ (r : PC) (t : Tree) (i' : Nat) (wr' ou' fu' : Bool), e = .returned r.v ∧ HO (fun g => w.heap.size ≤ g ∧ g < w'.heap.size) w' t r ∧ rightT t = true ∧ Ex b w w' ∧ BlkR w' b s i' wr' ou' fu' ∧ ((patM s.data.toList = none ∧ wr' = true) ∨ (wr' = false ∧ patM s.data.toList = some (t, ou', fu')))

theorem pat_fin {s : ByteArray} {i4 i1 : Nat} {t4 : Tree} {wr4 ou4 fu4 wr6 : Bool} (hi1 : i1 = if headIs 94 (s.data.toList.drop 0) = true then 0 + 1 else 0) (hd : Does s false false false (altN (s.size + 1) (s.data.toList.drop i1)) t4 i4 wr4 ou4 fu4) (he : EndD s (endI s i4) wr4 wr6) :
    (patM s.data.toList = none ∧ wr6 = true) ∨ (wr6 = false ∧ patM s.data.toList = some ((wholeM (headIs 94 (s.data.toList.drop 0)) (headIs 36 (s.data.toList.drop i4)) t4).1, ou4, fu4 || (wholeM (headIs 94 (s.data.toList.drop 0)) (headIs 36 (s.data.toList.drop i4)) t4).2)) := by
  have e0 : s.data.toList.length + 1 = s.size + 1 := by rw [Array.length_toList]; rfl
  have e1 := tailIf_drop s 94 0
  rw [← hi1] at e1
  rw [List.drop_zero] at e1 ⊢
  unfold patM
  rw [e0, e1]
  rcases hd.2 rfl with ⟨h1, h2⟩ | ⟨x, h1, h2, h3, h4, h5, h6⟩
  · left; rw [h1]; exact ⟨rfl, he.1 h2⟩
  · rw [h1]
    simp only
    have e2 := tailIf_drop s 36 i4
    rw [← h4, e2]
    have e3 : (if headIs 36 (s.data.toList.drop i4) = true then i4 + 1 else i4) = endI s i4 := rfl
    rw [e3]
    simp at h5 h6
    rcases he.2 h2 with ⟨h7, h8⟩ | ⟨h7, h8⟩
    · right
      rw [if_pos h7, h3, h5, h6]
      exact ⟨h8, rfl⟩
    · left
      rw [if_neg h7]
      exact ⟨rfl, h8⟩

set_option maxRecDepth 100000 in
set_option maxHeartbeats 8000000 in
theorem pattern_any {s : ByteArray} {b : Nat} {w : World} (hs : s.size ≤ 3000) (hb : BlkR w b s 0 false false false) :
    Calls Tryz.prog 14 #[.pointer (some ⟨b, 0, none⟩)] w fun e w' => PatP s b w e w' := by
  have hmx : Tryz.prog.follows .mixedOrders = true := by kernel_rfl
  have HA := AX.start hb
  have HS : Hid (s.size ≤ 3000) := hs
  have HAll : Hid (CA s b 29 (altN (s.size + 1)) (s.size + 1)) := reads_all hs _
  have kT : ∀ (c : UInt8) (j : Nat) (wr' ou' fu' : Bool) (W : World), j ≤ s.size → BlkR W b s j wr' ou' fu' → Calls Tryz.prog 28 #[.pointer (some ⟨b, 0, none⟩), .int .u8 c.toNat] W fun e w' => e = .returned (.bool (headIs c (s.data.toList.drop j))) ∧ Ex b W w' ∧ BlkR w' b s (if headIs c (s.data.toList.drop j) = true then j + 1 else j) wr' ou' fu' ∧ (if headIs c (s.data.toList.drop j) = true then j + 1 else j) ≤ s.size := by
    intro c j wr' ou' fu' W hj h
    cases hc : headIs c (s.data.toList.drop j) with
    | true => exact (took_yes hs h hc).mono fun _ _ h' => ⟨h'.1, h'.2.1, h'.2.2, (headIs_drop hc).2⟩
    | false => exact (took_no hj h hc).mono fun _ _ h' => ⟨h'.1, .of_gr h'.2, h.gr h'.2, hj⟩
  have k94 : ∀ (W : World), BlkR W b s 0 false false false → Calls Tryz.prog 28 #[.pointer (some ⟨b, 0, none⟩), .int .u8 94] W fun e w' => e = .returned (.bool (headIs 94 (s.data.toList.drop 0))) ∧ Ex b W w' ∧ BlkR w' b s (if headIs 94 (s.data.toList.drop 0) = true then 0 + 1 else 0) false false false ∧ (if headIs 94 (s.data.toList.drop 0) = true then 0 + 1 else 0) ≤ s.size := fun W h => kT 94 0 _ _ _ W (Nat.zero_le _) h
  have k36 : ∀ (j : Nat) (wr' ou' fu' : Bool) (W : World), j ≤ s.size → BlkR W b s j wr' ou' fu' → Calls Tryz.prog 28 #[.pointer (some ⟨b, 0, none⟩), .int .u8 36] W fun e w' => e = .returned (.bool (headIs 36 (s.data.toList.drop j))) ∧ Ex b W w' ∧ BlkR w' b s (endI s j) wr' ou' fu' ∧ endI s j ≤ s.size := fun j wr' ou' fu' W hj h => kT 36 j _ _ _ W hj h
  have kr : ∀ (j : Nat) (wr' ou' fu' : Bool) (W : World), BlkR W b s j wr' ou' fu' → Calls Tryz.prog 30 #[.pointer (some ⟨b, 0, none⟩)] W fun e w' => (∃ v, e = .returned v) ∧ Ex b W w' ∧ BlkR w' b s s.size true ou' fu' := fun j wr' ou' fu' W h => refuse_any h
  generalize hW : w.alloc (.cells #[.int .i64 0, .slice none 0 0, .slice none 0 0] 26) = W0 at HA
  have HI : Hid (AX s b w 0 false false false W0) := HA
  clear hb HA hs kT
  obtain ⟨i1, hi1⟩ : ∃ i1, i1 = if headIs 94 (s.data.toList.drop 0) = true then 0 + 1 else 0 := ⟨_, rfl⟩
  have HI1 : Hid (i1 = if headIs 94 (s.data.toList.drop 0) = true then 0 + 1 else 0) := hi1
  simp only [← hi1] at k94
  obtain ⟨qb, hqb⟩ : ∃ q, q = headIs 94 (s.data.toList.drop 0) := ⟨_, rfl⟩
  have HQB : Hid (qb = headIs 94 (s.data.toList.drop 0)) := hqb
  rw [← hqb] at k94
  clear hi1 hqb
  go_enter Tryz.func14, Tryz.ntmps14
  go_upto_region 1 with fail
  clear hW
  go_upto_region 3 with (first
    | (go_at_call 28; (with_reducible refine (k94 _ HI.out.rd).mono ?_); rintro _ w1 ⟨rfl, ex1, b1, l1⟩; have A1 : Hid (AX s b w i1 false false false w1) := HI.out.go ex1 b1; have L1 : Hid (i1 ≤ s.size) := l1; clear ex1 b1 l1)
    | (go_at_call 29; refine (HAll.out i1 false false false _ L1.out (by omega) A1.out.rd).mono ?_; rintro _ w4 ⟨⟨x0, ⟨x1, x2, x3⟩, x4, x5, x6⟩, t4, i4, wr4, ou4, fu4, rfl, ho4, hk4, ex4, b4', le4, le5, d4⟩; have X4 : Hid (XI s b w w4.heap.size i4 wr4 ou4 fu4 t4 ⟨x0, ⟨x1, x2, x3⟩, ⟨x4, x5, x6⟩⟩ (w4.alloc (.cells #[.int .i64 x0, .slice x1 x2 x3, .slice x4 x5 x6] 26))) := ⟨(A1.out.go ex4 b4').bel (bel_alloc _ _), Blk.new _ _ _, HO.same (fun g hg => ⟨by have := A1.out.res.lt; omega, hg.2⟩) (fun g hg => (bel_alloc _ _).block g hg.2) ho4, (A1.out.go ex4 b4').res.lt, hk4⟩; have D4 : Hid (Does s false false false (altN (s.size + 1) (s.data.toList.drop i1)) t4 i4 wr4 ou4 fu4) := d4; have L4 : Hid (i4 ≤ s.size) := le5; clear ho4 hk4 ex4 b4' le4 le5 d4))
  generalize hWS : World.alloc _ _ = WS at X4 ⊢
  have X5 : Hid (XI s b w w4.heap.size i4 wr4 ou4 fu4 t4 ⟨x0, ⟨x1, x2, x3⟩, ⟨x4, x5, x6⟩⟩ WS) := X4.out
  clear hWS X4
  generalize w4.heap.size = b4 at X5 ⊢
  obtain ⟨qe, hqe⟩ : ∃ q, q = headIs 36 (s.data.toList.drop i4) := ⟨_, rfl⟩
  have HQE : Hid (qe = headIs 36 (s.data.toList.drop i4)) := hqe
  have k36' := fun W h => k36 i4 wr4 ou4 fu4 W L4.out h
  rw [← hqe] at k36'
  clear hqe k36 k94 HI HAll
  go_upto_region 4 with (go_at_call 28; (with_reducible refine (k36' _ X5.out.ax.rd).mono ?_); rintro _ w6 ⟨rfl, ex6, b6, l6⟩; have X6 : Hid (XI s b w b4 (endI s i4) wr4 ou4 fu4 t4 ⟨x0, ⟨x1, x2, x3⟩, ⟨x4, x5, x6⟩⟩ w6) := X5.out.go ex6 b6; have L6 : Hid (endI s i4 ≤ s.size) := l6; clear ex6 b6 l6)
  clear k36' X5
  have c0 := fun n os => (X6.out.ax.rd.grow n os).c 0
  have c1 := fun n os => (X6.out.ax.rd.grow n os).c 1
  simp at c0 c1
  have bl := X6.out.ax.rd.lt
  refine wp_region_quiet_grownB (by assumption) (by kernel_rfl) ?_
  repeat (refine wpQuiet_stepB (fun K hK => ?_); go_simp; first | (refine hK _ ?_; clear hK K) | (apply Exists.intro; refine ⟨fun _ => ?_, hK _ ?_⟩; fail; clear hK K))
  refine wpQuiet_nilB ?_
  intro _ hw'
  obtain ⟨⟨nq, osq⟩, hw''⟩ := hw'
  subst hw''
  clear c0 c1
  have X7 : Hid (XI s b w b4 (endI s i4) wr4 ou4 fu4 t4 ⟨x0, ⟨x1, x2, x3⟩, ⟨x4, x5, x6⟩⟩ (Sort.grow (w6.drewN nq) osq)) := X6.out.bel (Gr.below ⟨nq, osq, rfl⟩)
  generalize Sort.grow (w6.drewN nq) osq = w7 at *
  clear X6 bl
  have HEn : Hid (decide (endI s i4 < s.size) = true ↔ s.data.toList.drop (endI s i4) ≠ []) := by
    show _ ↔ _
    constructor
    · intro h e
      have h2 := congrArg List.length e
      rw [drop_len] at h2
      simp at h h2
      omega
    · intro h
      have h2 : (s.data.toList.drop (endI s i4)).length ≠ 0 := fun e => h (List.length_eq_zero_iff.1 e)
      rw [drop_len] at h2
      simp; omega
  generalize decide (endI s i4 < s.size) = qg at HEn ⊢
  go_upto_if 22 with fail
  go_cut [] (fun wx => ∃ i6 wr6, Hid (XI s b w b4 i6 wr6 ou4 fu4 t4 ⟨x0, ⟨x1, x2, x3⟩, ⟨x4, x5, x6⟩⟩ wx) ∧ Hid (EndD s (endI s i4) wr4 wr6) ∧ Hid (i6 ≤ s.size))
  case first =>
    cases qg with
    | true =>
      have HNE : Hid (s.data.toList.drop (endI s i4) ≠ []) := HEn.out.1 rfl
      clear HEn
      go_wp2_with (go_at_call 30; refine (kr _ _ _ _ _ X7.out.ax.rd).mono ?_; rintro _ w8 ⟨⟨v8, rfl⟩, ex8, b8⟩; have X8 : Hid (XI s b w b4 s.size true ou4 fu4 t4 ⟨x0, ⟨x1, x2, x3⟩, ⟨x4, x5, x6⟩⟩ w8) := X7.out.go ex8 b8; clear ex8 b8)
      go_meet
      case rel => exact ⟨s.size, true, X8, ⟨fun _ => rfl, fun _ => Or.inr ⟨HNE.out, rfl⟩⟩, Nat.le_refl _⟩
    | false =>
      have HNE : Hid (s.data.toList.drop (endI s i4) = []) := by
        rcases Classical.em (s.data.toList.drop (endI s i4) = []) with h2 | h2
        · exact h2
        · exact absurd (HEn.out.2 h2) (by decide)
      clear HEn
      go_wp2_with fail
      go_meet
      case rel => exact ⟨endI s i4, wr4, X7, ⟨id, fun h => Or.inl ⟨HNE.out, h⟩⟩, L6⟩
  case rest =>
    clear X7 HEn L6 kr
    obtain ⟨i6, wr6, X8, E8, L8⟩ := hcut
    have FIN : Hid ((patM s.data.toList = none ∧ wr6 = true) ∨ (wr6 = false ∧ patM s.data.toList = some ((wholeM qb qe t4).1, ou4, fu4 || (wholeM qb qe t4).2))) := by
      rw [HQB.out, HQE.out]
      exact pat_fin HI1.out D4.out E8.out
    clear HI1 D4 E8 HQB HQE L1 L4
    have kn := fun W => any_any W
    cases qb <;> cases qe
    case true.true =>
      clear kn
      obtain ⟨m0, m1, m2⟩ := BlkT.cs X8.out.box
      simp only at m0 m1 m2
      obtain ⟨y0, y1, y2⟩ := BlkT.cs X8.out.ax.res
      have z0 := X8.out.ax.res.frozen
      go_wp2_with fail
      refine bodyPost_ret (v := PC.v ⟨x0, ⟨x1, x2, x3⟩, ⟨x4, x5, x6⟩⟩) ?_ rfl ⟨_, t4, i6, wr6, ou4, fu4, rfl, HO.same (fun g hg => ⟨by omega, by have := X8.out.box.lt; simp; omega⟩) (fun g hg => heap_set3 (by omega) _ _ _) X8.out.ho, X8.out.rt, set3_ex X8.out.ax.ex (Nat.le_refl _) _ _ _, X8.out.ax.rd.set3 (by have := X8.out.ax.lt; omega) _ _ _, ?_⟩
      · simp [results, Tryz.results14]
        have B := blk_put3 X8.out.ax.res ⟨x0, ⟨x1, x2, x3⟩, ⟨x4, x5, x6⟩⟩
        simp only at B
        generalize hW7 : World.setCell _ _ _ = W7 at B ⊢
        exact run_ptv B
      · have := FIN.out
        simpa [wholeM] using this
    case true.false =>
      go_upto_region 11 with fail
      generalize hWP : World.alloc _ _ = WP
      obtain ⟨rows0, hr0⟩ : ∃ r : List PC, r = [] := ⟨_, rfl⟩
      have P0 : Hid (PI s b w b4 wc.heap.size i6 wr6 ou4 fu4 t4 ⟨x0, ⟨x1, x2, x3⟩, ⟨x4, x5, x6⟩⟩ [] ⟨none, 0, 0⟩ rows0 WP) := by
        rw [← hWP, hr0]
        exact ⟨X8.out.bel (bel_alloc _ _), LI.nil X8.out.ax L8.out, X8.out.box.lt, fun g hg => by cases hg⟩
      clear hWP X8 hr0
      generalize wc.heap.size = b3 at P0 ⊢
      obtain ⟨m0, m1, m2⟩ := BlkT.cs P0.out.li.me
      obtain ⟨q0, q1, q2⟩ := BlkT.cs P0.out.xi.box
      simp only at m0 m1 m2 q0 q1 q2
      have bl3 : b3 < WP.heap.size := P0.out.li.me.lt
      have bl4 : b4 < WP.heap.size := P0.out.xi.box.lt
      have PX : Hid (PI s b w b4 b3 i6 wr6 ou4 fu4 t4 ⟨x0, ⟨x1, x2, x3⟩, ⟨x4, x5, x6⟩⟩ (([] : List Tree)) ⟨none, 0, 0⟩ (rows0) (WP.alloc (.cells #[.int .i64 x0, .slice x1 x2 x3, .slice x4 x5 x6] 26))) := P0.out.bel (bel_alloc _ _)
      go_upto_region 13 with (at_builtin; refine wp_appX info26 Tryz.underlying24 encT_len oneT rfl (by decide) (by decide) (by rfl) _ _ (by rfl) 0 (.slice none 0 0) (rows0) (by rfl) PX.out.li.row ⟨x0, ⟨x1, x2, x3⟩, ⟨x4, x5, x6⟩⟩ WP.heap.size (by rfl) _ (Blk.new _ _ _) rfl (by have h1 := PX.out.li.rlen; have h2 := PX.out.li.le; have h3 := HS.out; omega) (Nat.zero_le _) ?_; intro g1 cap1 wg owg grg hgg _; have J9 : Hid _ := PX.out.step (PX.out.xi.ho.imp' (by intro g hg; have h1 := PX.out.lt; have h2 := PX.out.rowB; have h3 := PX.out.xi.box.lt; refine ⟨hg.1, by omega, by omega, fun e => ?_⟩; have := h2 g e; omega)) PX.out.xi.rt (by simp <;> omega) owg grg hgg; obtain ⟨p0, p1, p2⟩ := BlkT.cs (PX.out.li.me_grown grg); have pf := (PX.out.li.me_grown grg).frozen; clear owg grg hgg)
      have J10 := J9.out
      generalize hW10 : World.setCell _ _ _ = W1 at J10 ⊢
      have P1 : Hid (PI s b w b4 b3 i6 wr6 ou4 fu4 t4 ⟨x0, ⟨x1, x2, x3⟩, ⟨x4, x5, x6⟩⟩ (([] : List Tree) ++ [t4]) ⟨(some ⟨g1, 0, none⟩), ((rows0).length + 1), cap1⟩ (rows0 ++ [(⟨x0, ⟨x1, x2, x3⟩, ⟨x4, x5, x6⟩⟩ : PC)]) W1) := J10
      generalize (rows0 ++ [(⟨x0, ⟨x1, x2, x3⟩, ⟨x4, x5, x6⟩⟩ : PC)] : List PC) = rows1 at P1
      clear J10 hW10 J9 PX p0 p1 p2 pf m0 m1 m2 q0 q1 q2 bl3 bl4 P0
      have bl3 : b3 < W1.heap.size := P1.out.li.me.lt
      have RWL : Hid (∀ g, (Sl.v ⟨(some ⟨g1, 0, none⟩), ((rows0).length + 1), cap1⟩).ownBlock = some g → g < W1.heap.size) := fun g hg => (P1.out.li.row.lt hg).2
      have BW0 : Hid (w.heap.size + 1 ≤ W1.heap.size) := by have := P1.out.li.ax.res.lt; exact (by omega : w.heap.size + 1 ≤ W1.heap.size)
      obtain ⟨m0, m1, m2⟩ := BlkT.cs P1.out.li.me
      simp only at m0 m1 m2
      go_region_law
        (first
          | (go_simp; go_at_call 32; refine (kn _).mono ?_; rintro _ wa ⟨⟨v0, ⟨v1, v2, v3⟩, v4, v5, v6⟩, rfl, hoa, bba⟩; have PA : Hid (PI s b w b4 b3 i6 wr6 ou4 fu4 t4 ⟨x0, ⟨x1, x2, x3⟩, ⟨x4, x5, x6⟩⟩ (([] : List Tree) ++ [t4]) ⟨(some ⟨g1, 0, none⟩), ((rows0).length + 1), cap1⟩ (rows1) wa) := (P1.out.bel (below_drewN (Below.refl _ _) 1)).bel bba; have HA1 : Hid (HO (fun g => W1.heap.size ≤ g ∧ g < wa.heap.size) wa allT ⟨v0, ⟨v1, v2, v3⟩, v4, v5, v6⟩) := hoa.low (by simp); have SZA : Hid (W1.heap.size ≤ wa.heap.size) := (Nat.le_trans (by simp) bba.size); clear hoa bba; obtain ⟨a0, a1, a2⟩ := BlkT.cs PA.out.li.me; have al := PA.out.li.me.lt)
          | (go_simp; go_at_call 31; refine (star_P (P := fun g => W1.heap.size ≤ g ∧ g < wa.heap.size) (fun g hg => hg.2) HA1.out).mono ?_; rintro _ ws ⟨⟨u0_2, ⟨u1_2, u2_2, u3_2⟩, u4_2, u5_2, u6_2⟩, rfl, hos, bbs⟩; have PS : Hid (PI s b w b4 b3 i6 wr6 ou4 fu4 t4 ⟨x0, ⟨x1, x2, x3⟩, ⟨x4, x5, x6⟩⟩ (([] : List Tree) ++ [t4]) ⟨(some ⟨g1, 0, none⟩), ((rows0).length + 1), cap1⟩ (rows1) ws) := PA.out.bel bbs; have HS1 : Hid (HO (fun g => W1.heap.size ≤ g ∧ g < ws.heap.size) ws (stT allT) ⟨u0_2, ⟨u1_2, u2_2, u3_2⟩, ⟨u4_2, u5_2, u6_2⟩⟩) := hos.imp' (by intro g hg; have h1 := SZA.out; have h2 := bbs.size; omega); clear hos bbs; obtain ⟨n0, n1, n2⟩ := BlkT.cs PS.out.li.me; have nl := PS.out.li.me.lt)
          | (refine step_appT (by rfl) _ _ (by rfl) 0 (.slice (some ⟨g1, 0, none⟩) ((rows0).length + 1) cap1) (rows1) (by rfl) (PS.out.li.row.alloc _) ⟨u0_2, ⟨u1_2, u2_2, u3_2⟩, ⟨u4_2, u5_2, u6_2⟩⟩ ws.heap.size (by rfl) (Blk.new' _ _ _ _ (by simp)) (by have h1 := PS.out.li.rlen; have h2 := PS.out.li.le; have h3 := HS.out; omega) (Nat.zero_le _) (ws.heap.size + 1) (by simp) ?_; intro g2 cap2 wg owg grg hgg; have PB := PS.out.bel (bel_alloc _ (.cells (encT ⟨u0_2, ⟨u1_2, u2_2, u3_2⟩, ⟨u4_2, u5_2, u6_2⟩⟩).toArray 26)); have J9 : Hid _ := PB.step (HO.imp' (HS1.out.bel (bel_alloc _ _)) (by intro g hg; have h1 := BW0.out; have h2 := RWL.out; refine ⟨by omega, hg.2, by omega, fun e => ?_⟩; have := h2 g e; omega)) right_stAll (by simp <;> omega) owg grg (by simpa using hgg); obtain ⟨p0, p1, p2⟩ := BlkT.cs (PB.li.me_grown grg); have pf := (PB.li.me_grown grg).frozen; clear owg grg hgg PB))
      all_goals
        have J10 := J9.out
        generalize hW10 : World.setCell _ _ _ = W2 at J10 ⊢
        have P2 : Hid (PI s b w b4 b3 i6 wr6 ou4 fu4 t4 ⟨x0, ⟨x1, x2, x3⟩, ⟨x4, x5, x6⟩⟩ (([] : List Tree) ++ [t4] ++ [stT allT]) ⟨(some ⟨g2, 0, none⟩), ((rows1).length + 1), cap2⟩ (rows1 ++ [(⟨u0_2, ⟨u1_2, u2_2, u3_2⟩, ⟨u4_2, u5_2, u6_2⟩⟩ : PC)]) W2) := J10
        generalize (rows1 ++ [(⟨u0_2, ⟨u1_2, u2_2, u3_2⟩, ⟨u4_2, u5_2, u6_2⟩⟩ : PC)] : List PC) = rows2 at P2
        clear J10 hW10 J9 HS1 PS PA HA1 SZA a0 a1 a2 al n0 n1 n2 nl p0 p1 p2 pf m0 m1 m2 bl3 RWL BW0 P1

      all_goals
        obtain ⟨m0, m1, m2⟩ := BlkT.cs P2.out.li.me
        simp only at m0 m1 m2
        go_wp2_with (go_at_call 33; (refine (kept_any P2.out.li.ax.rd (ok_list' (by simp) P2.out.li.rt) (fun g hg => hg.2.1) P2.out.li.ho).mono ?_); rintro _ w9 ⟨⟨z0, ⟨z1, z2, z3⟩, z4, z5, z6⟩, rfl, ho9, ex9, b9⟩; have A9 : Hid (AX s b w i6 wr6 ou4 (fu4 || (keptM (.mk 2 [] (([] : List Tree) ++ [t4] ++ [stT allT]))).2) w9) := P2.out.li.ax.go ex9 b9; have H9 : Hid (HO (fun g => w.heap.size + 1 ≤ g ∧ g < w9.heap.size) w9 (keptM (.mk 2 [] (([] : List Tree) ++ [t4] ++ [stT allT]))).1 ⟨z0, ⟨z1, z2, z3⟩, ⟨z4, z5, z6⟩⟩) := ho9.imp' (fun g hg => ⟨hg.1, Nat.lt_of_lt_of_le hg.2.1 ex9.size⟩); obtain ⟨y0, y1, y2⟩ := BlkT.cs A9.out.res; have yf := A9.out.res.frozen; clear ho9 ex9 b9)
        refine bodyPost_ret (v := PC.v ⟨z0, ⟨z1, z2, z3⟩, ⟨z4, z5, z6⟩⟩) ?_ rfl ⟨_, _, i6, wr6, ou4, _, rfl, HO.same (fun g hg => ⟨by omega, by simpa using hg.2⟩) (fun g hg => heap_set3 (by omega) _ _ _) H9.out, right_kept _, set3_ex A9.out.ex (Nat.le_refl _) _ _ _, A9.out.rd.set3 (by have := A9.out.lt; omega) _ _ _, FIN.out⟩
        simp [results, Tryz.results14]
        have B := blk_put3 A9.out.res ⟨z0, ⟨z1, z2, z3⟩, ⟨z4, z5, z6⟩⟩
        simp only at B
        generalize hW7 : World.setCell _ _ _ = W7 at B ⊢
        exact run_ptv B

    case false.true =>
      go_upto_region 10 with fail
      generalize hWP : World.alloc _ _ = WP
      obtain ⟨rows0, hr0⟩ : ∃ r : List PC, r = [] := ⟨_, rfl⟩
      have P0 : Hid (PI s b w b4 wc.heap.size i6 wr6 ou4 fu4 t4 ⟨x0, ⟨x1, x2, x3⟩, ⟨x4, x5, x6⟩⟩ [] ⟨none, 0, 0⟩ rows0 WP) := by
        rw [← hWP, hr0]
        exact ⟨X8.out.bel (bel_alloc _ _), LI.nil X8.out.ax L8.out, X8.out.box.lt, fun g hg => by cases hg⟩
      clear hWP X8 hr0
      generalize wc.heap.size = b3 at P0 ⊢
      have bl3 : b3 < WP.heap.size := P0.out.li.me.lt
      have RWL : Hid (∀ g, (Sl.v ⟨none, 0, 0⟩).ownBlock = some g → g < WP.heap.size) := fun g hg => (P0.out.li.row.lt hg).2
      have BW0 : Hid (w.heap.size + 1 ≤ WP.heap.size) := by have := P0.out.li.ax.res.lt; exact (by omega : w.heap.size + 1 ≤ WP.heap.size)
      obtain ⟨m0, m1, m2⟩ := BlkT.cs P0.out.li.me
      simp only at m0 m1 m2
      go_region_law
        (first
          | (go_simp; go_at_call 32; refine (kn _).mono ?_; rintro _ wa ⟨⟨v0, ⟨v1, v2, v3⟩, v4, v5, v6⟩, rfl, hoa, bba⟩; have PA : Hid (PI s b w b4 b3 i6 wr6 ou4 fu4 t4 ⟨x0, ⟨x1, x2, x3⟩, ⟨x4, x5, x6⟩⟩ (([] : List Tree)) ⟨none, 0, 0⟩ (rows0) wa) := (P0.out.bel (below_drewN (Below.refl _ _) 1)).bel bba; have HA1 : Hid (HO (fun g => WP.heap.size ≤ g ∧ g < wa.heap.size) wa allT ⟨v0, ⟨v1, v2, v3⟩, v4, v5, v6⟩) := hoa.low (by simp); have SZA : Hid (WP.heap.size ≤ wa.heap.size) := (Nat.le_trans (by simp) bba.size); clear hoa bba; obtain ⟨a0, a1, a2⟩ := BlkT.cs PA.out.li.me; have al := PA.out.li.me.lt)
          | (go_simp; go_at_call 31; refine (star_P (P := fun g => WP.heap.size ≤ g ∧ g < wa.heap.size) (fun g hg => hg.2) HA1.out).mono ?_; rintro _ ws ⟨⟨u0_3, ⟨u1_3, u2_3, u3_3⟩, u4_3, u5_3, u6_3⟩, rfl, hos, bbs⟩; have PS : Hid (PI s b w b4 b3 i6 wr6 ou4 fu4 t4 ⟨x0, ⟨x1, x2, x3⟩, ⟨x4, x5, x6⟩⟩ (([] : List Tree)) ⟨none, 0, 0⟩ (rows0) ws) := PA.out.bel bbs; have HS1 : Hid (HO (fun g => WP.heap.size ≤ g ∧ g < ws.heap.size) ws (stT allT) ⟨u0_3, ⟨u1_3, u2_3, u3_3⟩, ⟨u4_3, u5_3, u6_3⟩⟩) := hos.imp' (by intro g hg; have h1 := SZA.out; have h2 := bbs.size; omega); clear hos bbs; obtain ⟨n0, n1, n2⟩ := BlkT.cs PS.out.li.me; have nl := PS.out.li.me.lt)
          | (refine step_appT (by rfl) _ _ (by rfl) 0 (.slice none 0 0) (rows0) (by rfl) (PS.out.li.row.alloc _) ⟨u0_3, ⟨u1_3, u2_3, u3_3⟩, ⟨u4_3, u5_3, u6_3⟩⟩ ws.heap.size (by rfl) (Blk.new' _ _ _ _ (by simp)) (by have h1 := PS.out.li.rlen; have h2 := PS.out.li.le; have h3 := HS.out; omega) (Nat.zero_le _) (ws.heap.size + 1) (by simp) ?_; intro g3 cap3 wg owg grg hgg; have PB := PS.out.bel (bel_alloc _ (.cells (encT ⟨u0_3, ⟨u1_3, u2_3, u3_3⟩, ⟨u4_3, u5_3, u6_3⟩⟩).toArray 26)); have J9 : Hid _ := PB.step (HO.imp' (HS1.out.bel (bel_alloc _ _)) (by intro g hg; have h1 := BW0.out; have h2 := RWL.out; refine ⟨by omega, hg.2, by omega, fun e => ?_⟩; have := h2 g e; omega)) right_stAll (by simp <;> omega) owg grg (by simpa using hgg); obtain ⟨p0, p1, p2⟩ := BlkT.cs (PB.li.me_grown grg); have pf := (PB.li.me_grown grg).frozen; clear owg grg hgg PB))
      all_goals
        have J10 := J9.out
        generalize hW10 : World.setCell _ _ _ = W3 at J10 ⊢
        have P3 : Hid (PI s b w b4 b3 i6 wr6 ou4 fu4 t4 ⟨x0, ⟨x1, x2, x3⟩, ⟨x4, x5, x6⟩⟩ (([] : List Tree) ++ [stT allT]) ⟨(some ⟨g3, 0, none⟩), ((rows0).length + 1), cap3⟩ (rows0 ++ [(⟨u0_3, ⟨u1_3, u2_3, u3_3⟩, ⟨u4_3, u5_3, u6_3⟩⟩ : PC)]) W3) := J10
        generalize (rows0 ++ [(⟨u0_3, ⟨u1_3, u2_3, u3_3⟩, ⟨u4_3, u5_3, u6_3⟩⟩ : PC)] : List PC) = rows3 at P3
        clear J10 hW10 J9 HS1 PS PA HA1 SZA a0 a1 a2 al n0 n1 n2 nl p0 p1 p2 pf m0 m1 m2 bl3 RWL BW0 P0

      all_goals
        obtain ⟨m0, m1, m2⟩ := BlkT.cs P3.out.li.me
        obtain ⟨q0, q1, q2⟩ := BlkT.cs P3.out.xi.box
        simp only at m0 m1 m2 q0 q1 q2
        have bl3 : b3 < W3.heap.size := P3.out.li.me.lt
        have bl4 : b4 < W3.heap.size := P3.out.xi.box.lt
        have PX : Hid (PI s b w b4 b3 i6 wr6 ou4 fu4 t4 ⟨x0, ⟨x1, x2, x3⟩, ⟨x4, x5, x6⟩⟩ (([] : List Tree) ++ [stT allT]) ⟨(some ⟨g3, 0, none⟩), ((rows0).length + 1), cap3⟩ (rows3) (W3.alloc (.cells #[.int .i64 x0, .slice x1 x2 x3, .slice x4 x5 x6] 26))) := P3.out.bel (bel_alloc _ _)
        go_upto_region 14 with (at_builtin; refine wp_appX info26 Tryz.underlying24 encT_len oneT rfl (by decide) (by decide) (by rfl) _ _ (by rfl) 0 (.slice (some ⟨g3, 0, none⟩) ((rows0).length + 1) cap3) (rows3) (by rfl) PX.out.li.row ⟨x0, ⟨x1, x2, x3⟩, ⟨x4, x5, x6⟩⟩ W3.heap.size (by rfl) _ (Blk.new _ _ _) rfl (by have h1 := PX.out.li.rlen; have h2 := PX.out.li.le; have h3 := HS.out; omega) (Nat.zero_le _) ?_; intro g4 cap4 wg owg grg hgg _; have J9 : Hid _ := PX.out.step (PX.out.xi.ho.imp' (by intro g hg; have h1 := PX.out.lt; have h2 := PX.out.rowB; have h3 := PX.out.xi.box.lt; refine ⟨hg.1, by omega, by omega, fun e => ?_⟩; have := h2 g e; omega)) PX.out.xi.rt (by simp <;> omega) owg grg hgg; obtain ⟨p0, p1, p2⟩ := BlkT.cs (PX.out.li.me_grown grg); have pf := (PX.out.li.me_grown grg).frozen; clear owg grg hgg)
        have J10 := J9.out
        generalize hW10 : World.setCell _ _ _ = W4 at J10 ⊢
        have P4 : Hid (PI s b w b4 b3 i6 wr6 ou4 fu4 t4 ⟨x0, ⟨x1, x2, x3⟩, ⟨x4, x5, x6⟩⟩ (([] : List Tree) ++ [stT allT] ++ [t4]) ⟨(some ⟨g4, 0, none⟩), ((rows3).length + 1), cap4⟩ (rows3 ++ [(⟨x0, ⟨x1, x2, x3⟩, ⟨x4, x5, x6⟩⟩ : PC)]) W4) := J10
        generalize (rows3 ++ [(⟨x0, ⟨x1, x2, x3⟩, ⟨x4, x5, x6⟩⟩ : PC)] : List PC) = rows4 at P4
        clear J10 hW10 J9 PX p0 p1 p2 pf m0 m1 m2 q0 q1 q2 bl3 bl4 P3
        obtain ⟨m0, m1, m2⟩ := BlkT.cs P4.out.li.me
        simp only at m0 m1 m2
        go_wp2_with (go_at_call 33; (refine (kept_any P4.out.li.ax.rd (ok_list' (by simp) P4.out.li.rt) (fun g hg => hg.2.1) P4.out.li.ho).mono ?_); rintro _ w9 ⟨⟨z0, ⟨z1, z2, z3⟩, z4, z5, z6⟩, rfl, ho9, ex9, b9⟩; have A9 : Hid (AX s b w i6 wr6 ou4 (fu4 || (keptM (.mk 2 [] (([] : List Tree) ++ [stT allT] ++ [t4]))).2) w9) := P4.out.li.ax.go ex9 b9; have H9 : Hid (HO (fun g => w.heap.size + 1 ≤ g ∧ g < w9.heap.size) w9 (keptM (.mk 2 [] (([] : List Tree) ++ [stT allT] ++ [t4]))).1 ⟨z0, ⟨z1, z2, z3⟩, ⟨z4, z5, z6⟩⟩) := ho9.imp' (fun g hg => ⟨hg.1, Nat.lt_of_lt_of_le hg.2.1 ex9.size⟩); obtain ⟨y0, y1, y2⟩ := BlkT.cs A9.out.res; have yf := A9.out.res.frozen; clear ho9 ex9 b9)
        refine bodyPost_ret (v := PC.v ⟨z0, ⟨z1, z2, z3⟩, ⟨z4, z5, z6⟩⟩) ?_ rfl ⟨_, _, i6, wr6, ou4, _, rfl, HO.same (fun g hg => ⟨by omega, by simpa using hg.2⟩) (fun g hg => heap_set3 (by omega) _ _ _) H9.out, right_kept _, set3_ex A9.out.ex (Nat.le_refl _) _ _ _, A9.out.rd.set3 (by have := A9.out.lt; omega) _ _ _, FIN.out⟩
        simp [results, Tryz.results14]
        have B := blk_put3 A9.out.res ⟨z0, ⟨z1, z2, z3⟩, ⟨z4, z5, z6⟩⟩
        simp only at B
        generalize hW7 : World.setCell _ _ _ = W7 at B ⊢
        exact run_ptv B

    case false.false =>
      go_upto_region 10 with fail
      generalize hWP : World.alloc _ _ = WP
      obtain ⟨rows0, hr0⟩ : ∃ r : List PC, r = [] := ⟨_, rfl⟩
      have P0 : Hid (PI s b w b4 wc.heap.size i6 wr6 ou4 fu4 t4 ⟨x0, ⟨x1, x2, x3⟩, ⟨x4, x5, x6⟩⟩ [] ⟨none, 0, 0⟩ rows0 WP) := by
        rw [← hWP, hr0]
        exact ⟨X8.out.bel (bel_alloc _ _), LI.nil X8.out.ax L8.out, X8.out.box.lt, fun g hg => by cases hg⟩
      clear hWP X8 hr0
      generalize wc.heap.size = b3 at P0 ⊢
      have bl3 : b3 < WP.heap.size := P0.out.li.me.lt
      have RWL : Hid (∀ g, (Sl.v ⟨none, 0, 0⟩).ownBlock = some g → g < WP.heap.size) := fun g hg => (P0.out.li.row.lt hg).2
      have BW0 : Hid (w.heap.size + 1 ≤ WP.heap.size) := by have := P0.out.li.ax.res.lt; exact (by omega : w.heap.size + 1 ≤ WP.heap.size)
      obtain ⟨m0, m1, m2⟩ := BlkT.cs P0.out.li.me
      simp only at m0 m1 m2
      go_region_law
        (first
          | (go_simp; go_at_call 32; refine (kn _).mono ?_; rintro _ wa ⟨⟨v0, ⟨v1, v2, v3⟩, v4, v5, v6⟩, rfl, hoa, bba⟩; have PA : Hid (PI s b w b4 b3 i6 wr6 ou4 fu4 t4 ⟨x0, ⟨x1, x2, x3⟩, ⟨x4, x5, x6⟩⟩ (([] : List Tree)) ⟨none, 0, 0⟩ (rows0) wa) := (P0.out.bel (below_drewN (Below.refl _ _) 1)).bel bba; have HA1 : Hid (HO (fun g => WP.heap.size ≤ g ∧ g < wa.heap.size) wa allT ⟨v0, ⟨v1, v2, v3⟩, v4, v5, v6⟩) := hoa.low (by simp); have SZA : Hid (WP.heap.size ≤ wa.heap.size) := (Nat.le_trans (by simp) bba.size); clear hoa bba; obtain ⟨a0, a1, a2⟩ := BlkT.cs PA.out.li.me; have al := PA.out.li.me.lt)
          | (go_simp; go_at_call 31; refine (star_P (P := fun g => WP.heap.size ≤ g ∧ g < wa.heap.size) (fun g hg => hg.2) HA1.out).mono ?_; rintro _ ws ⟨⟨u0_5, ⟨u1_5, u2_5, u3_5⟩, u4_5, u5_5, u6_5⟩, rfl, hos, bbs⟩; have PS : Hid (PI s b w b4 b3 i6 wr6 ou4 fu4 t4 ⟨x0, ⟨x1, x2, x3⟩, ⟨x4, x5, x6⟩⟩ (([] : List Tree)) ⟨none, 0, 0⟩ (rows0) ws) := PA.out.bel bbs; have HS1 : Hid (HO (fun g => WP.heap.size ≤ g ∧ g < ws.heap.size) ws (stT allT) ⟨u0_5, ⟨u1_5, u2_5, u3_5⟩, ⟨u4_5, u5_5, u6_5⟩⟩) := hos.imp' (by intro g hg; have h1 := SZA.out; have h2 := bbs.size; omega); clear hos bbs; obtain ⟨n0, n1, n2⟩ := BlkT.cs PS.out.li.me; have nl := PS.out.li.me.lt)
          | (refine step_appT (by rfl) _ _ (by rfl) 0 (.slice none 0 0) (rows0) (by rfl) (PS.out.li.row.alloc _) ⟨u0_5, ⟨u1_5, u2_5, u3_5⟩, ⟨u4_5, u5_5, u6_5⟩⟩ ws.heap.size (by rfl) (Blk.new' _ _ _ _ (by simp)) (by have h1 := PS.out.li.rlen; have h2 := PS.out.li.le; have h3 := HS.out; omega) (Nat.zero_le _) (ws.heap.size + 1) (by simp) ?_; intro g5 cap5 wg owg grg hgg; have PB := PS.out.bel (bel_alloc _ (.cells (encT ⟨u0_5, ⟨u1_5, u2_5, u3_5⟩, ⟨u4_5, u5_5, u6_5⟩⟩).toArray 26)); have J9 : Hid _ := PB.step (HO.imp' (HS1.out.bel (bel_alloc _ _)) (by intro g hg; have h1 := BW0.out; have h2 := RWL.out; refine ⟨by omega, hg.2, by omega, fun e => ?_⟩; have := h2 g e; omega)) right_stAll (by simp <;> omega) owg grg (by simpa using hgg); obtain ⟨p0, p1, p2⟩ := BlkT.cs (PB.li.me_grown grg); have pf := (PB.li.me_grown grg).frozen; clear owg grg hgg PB))
      all_goals
        have J10 := J9.out
        generalize hW10 : World.setCell _ _ _ = W5 at J10 ⊢
        have P5 : Hid (PI s b w b4 b3 i6 wr6 ou4 fu4 t4 ⟨x0, ⟨x1, x2, x3⟩, ⟨x4, x5, x6⟩⟩ (([] : List Tree) ++ [stT allT]) ⟨(some ⟨g5, 0, none⟩), ((rows0).length + 1), cap5⟩ (rows0 ++ [(⟨u0_5, ⟨u1_5, u2_5, u3_5⟩, ⟨u4_5, u5_5, u6_5⟩⟩ : PC)]) W5) := J10
        generalize (rows0 ++ [(⟨u0_5, ⟨u1_5, u2_5, u3_5⟩, ⟨u4_5, u5_5, u6_5⟩⟩ : PC)] : List PC) = rows5 at P5
        clear J10 hW10 J9 HS1 PS PA HA1 SZA a0 a1 a2 al n0 n1 n2 nl p0 p1 p2 pf m0 m1 m2 bl3 RWL BW0 P0

      all_goals
        obtain ⟨m0, m1, m2⟩ := BlkT.cs P5.out.li.me
        obtain ⟨q0, q1, q2⟩ := BlkT.cs P5.out.xi.box
        simp only at m0 m1 m2 q0 q1 q2
        have bl3 : b3 < W5.heap.size := P5.out.li.me.lt
        have bl4 : b4 < W5.heap.size := P5.out.xi.box.lt
        have PX : Hid (PI s b w b4 b3 i6 wr6 ou4 fu4 t4 ⟨x0, ⟨x1, x2, x3⟩, ⟨x4, x5, x6⟩⟩ (([] : List Tree) ++ [stT allT]) ⟨(some ⟨g5, 0, none⟩), ((rows0).length + 1), cap5⟩ (rows5) (W5.alloc (.cells #[.int .i64 x0, .slice x1 x2 x3, .slice x4 x5 x6] 26))) := P5.out.bel (bel_alloc _ _)
        go_upto_region 13 with (at_builtin; refine wp_appX info26 Tryz.underlying24 encT_len oneT rfl (by decide) (by decide) (by rfl) _ _ (by rfl) 0 (.slice (some ⟨g5, 0, none⟩) ((rows0).length + 1) cap5) (rows5) (by rfl) PX.out.li.row ⟨x0, ⟨x1, x2, x3⟩, ⟨x4, x5, x6⟩⟩ W5.heap.size (by rfl) _ (Blk.new _ _ _) rfl (by have h1 := PX.out.li.rlen; have h2 := PX.out.li.le; have h3 := HS.out; omega) (Nat.zero_le _) ?_; intro g6 cap6 wg owg grg hgg _; have J9 : Hid _ := PX.out.step (PX.out.xi.ho.imp' (by intro g hg; have h1 := PX.out.lt; have h2 := PX.out.rowB; have h3 := PX.out.xi.box.lt; refine ⟨hg.1, by omega, by omega, fun e => ?_⟩; have := h2 g e; omega)) PX.out.xi.rt (by simp <;> omega) owg grg hgg; obtain ⟨p0, p1, p2⟩ := BlkT.cs (PX.out.li.me_grown grg); have pf := (PX.out.li.me_grown grg).frozen; clear owg grg hgg)
        have J10 := J9.out
        generalize hW10 : World.setCell _ _ _ = W6 at J10 ⊢
        have P6 : Hid (PI s b w b4 b3 i6 wr6 ou4 fu4 t4 ⟨x0, ⟨x1, x2, x3⟩, ⟨x4, x5, x6⟩⟩ (([] : List Tree) ++ [stT allT] ++ [t4]) ⟨(some ⟨g6, 0, none⟩), ((rows5).length + 1), cap6⟩ (rows5 ++ [(⟨x0, ⟨x1, x2, x3⟩, ⟨x4, x5, x6⟩⟩ : PC)]) W6) := J10
        generalize (rows5 ++ [(⟨x0, ⟨x1, x2, x3⟩, ⟨x4, x5, x6⟩⟩ : PC)] : List PC) = rows6 at P6
        clear J10 hW10 J9 PX p0 p1 p2 pf m0 m1 m2 q0 q1 q2 bl3 bl4 P5
        have bl3 : b3 < W6.heap.size := P6.out.li.me.lt
        have RWL : Hid (∀ g, (Sl.v ⟨(some ⟨g6, 0, none⟩), ((rows5).length + 1), cap6⟩).ownBlock = some g → g < W6.heap.size) := fun g hg => (P6.out.li.row.lt hg).2
        have BW0 : Hid (w.heap.size + 1 ≤ W6.heap.size) := by have := P6.out.li.ax.res.lt; exact (by omega : w.heap.size + 1 ≤ W6.heap.size)
        obtain ⟨m0, m1, m2⟩ := BlkT.cs P6.out.li.me
        simp only at m0 m1 m2
        go_region_law
          (first
            | (go_simp; go_at_call 32; refine (kn _).mono ?_; rintro _ wa ⟨⟨v0, ⟨v1, v2, v3⟩, v4, v5, v6⟩, rfl, hoa, bba⟩; have PA : Hid (PI s b w b4 b3 i6 wr6 ou4 fu4 t4 ⟨x0, ⟨x1, x2, x3⟩, ⟨x4, x5, x6⟩⟩ (([] : List Tree) ++ [stT allT] ++ [t4]) ⟨(some ⟨g6, 0, none⟩), ((rows5).length + 1), cap6⟩ (rows6) wa) := (P6.out.bel (below_drewN (Below.refl _ _) 1)).bel bba; have HA1 : Hid (HO (fun g => W6.heap.size ≤ g ∧ g < wa.heap.size) wa allT ⟨v0, ⟨v1, v2, v3⟩, v4, v5, v6⟩) := hoa.low (by simp); have SZA : Hid (W6.heap.size ≤ wa.heap.size) := (Nat.le_trans (by simp) bba.size); clear hoa bba; obtain ⟨a0, a1, a2⟩ := BlkT.cs PA.out.li.me; have al := PA.out.li.me.lt)
            | (go_simp; go_at_call 31; refine (star_P (P := fun g => W6.heap.size ≤ g ∧ g < wa.heap.size) (fun g hg => hg.2) HA1.out).mono ?_; rintro _ ws ⟨⟨u0_7, ⟨u1_7, u2_7, u3_7⟩, u4_7, u5_7, u6_7⟩, rfl, hos, bbs⟩; have PS : Hid (PI s b w b4 b3 i6 wr6 ou4 fu4 t4 ⟨x0, ⟨x1, x2, x3⟩, ⟨x4, x5, x6⟩⟩ (([] : List Tree) ++ [stT allT] ++ [t4]) ⟨(some ⟨g6, 0, none⟩), ((rows5).length + 1), cap6⟩ (rows6) ws) := PA.out.bel bbs; have HS1 : Hid (HO (fun g => W6.heap.size ≤ g ∧ g < ws.heap.size) ws (stT allT) ⟨u0_7, ⟨u1_7, u2_7, u3_7⟩, ⟨u4_7, u5_7, u6_7⟩⟩) := hos.imp' (by intro g hg; have h1 := SZA.out; have h2 := bbs.size; omega); clear hos bbs; obtain ⟨n0, n1, n2⟩ := BlkT.cs PS.out.li.me; have nl := PS.out.li.me.lt)
            | (refine step_appT (by rfl) _ _ (by rfl) 0 (.slice (some ⟨g6, 0, none⟩) ((rows5).length + 1) cap6) (rows6) (by rfl) (PS.out.li.row.alloc _) ⟨u0_7, ⟨u1_7, u2_7, u3_7⟩, ⟨u4_7, u5_7, u6_7⟩⟩ ws.heap.size (by rfl) (Blk.new' _ _ _ _ (by simp)) (by have h1 := PS.out.li.rlen; have h2 := PS.out.li.le; have h3 := HS.out; omega) (Nat.zero_le _) (ws.heap.size + 1) (by simp) ?_; intro g7 cap7 wg owg grg hgg; have PB := PS.out.bel (bel_alloc _ (.cells (encT ⟨u0_7, ⟨u1_7, u2_7, u3_7⟩, ⟨u4_7, u5_7, u6_7⟩⟩).toArray 26)); have J9 : Hid _ := PB.step (HO.imp' (HS1.out.bel (bel_alloc _ _)) (by intro g hg; have h1 := BW0.out; have h2 := RWL.out; refine ⟨by omega, hg.2, by omega, fun e => ?_⟩; have := h2 g e; omega)) right_stAll (by simp <;> omega) owg grg (by simpa using hgg); obtain ⟨p0, p1, p2⟩ := BlkT.cs (PB.li.me_grown grg); have pf := (PB.li.me_grown grg).frozen; clear owg grg hgg PB))
        all_goals
          have J10 := J9.out
          generalize hW10 : World.setCell _ _ _ = W7 at J10 ⊢
          have P7 : Hid (PI s b w b4 b3 i6 wr6 ou4 fu4 t4 ⟨x0, ⟨x1, x2, x3⟩, ⟨x4, x5, x6⟩⟩ (([] : List Tree) ++ [stT allT] ++ [t4] ++ [stT allT]) ⟨(some ⟨g7, 0, none⟩), ((rows6).length + 1), cap7⟩ (rows6 ++ [(⟨u0_7, ⟨u1_7, u2_7, u3_7⟩, ⟨u4_7, u5_7, u6_7⟩⟩ : PC)]) W7) := J10
          generalize (rows6 ++ [(⟨u0_7, ⟨u1_7, u2_7, u3_7⟩, ⟨u4_7, u5_7, u6_7⟩⟩ : PC)] : List PC) = rows7 at P7
          clear J10 hW10 J9 HS1 PS PA HA1 SZA a0 a1 a2 al n0 n1 n2 nl p0 p1 p2 pf m0 m1 m2 bl3 RWL BW0 P6

        all_goals
          obtain ⟨m0, m1, m2⟩ := BlkT.cs P7.out.li.me
          simp only at m0 m1 m2
          go_wp2_with (go_at_call 33; (refine (kept_any P7.out.li.ax.rd (ok_list' (by simp) P7.out.li.rt) (fun g hg => hg.2.1) P7.out.li.ho).mono ?_); rintro _ w9 ⟨⟨z0, ⟨z1, z2, z3⟩, z4, z5, z6⟩, rfl, ho9, ex9, b9⟩; have A9 : Hid (AX s b w i6 wr6 ou4 (fu4 || (keptM (.mk 2 [] (([] : List Tree) ++ [stT allT] ++ [t4] ++ [stT allT]))).2) w9) := P7.out.li.ax.go ex9 b9; have H9 : Hid (HO (fun g => w.heap.size + 1 ≤ g ∧ g < w9.heap.size) w9 (keptM (.mk 2 [] (([] : List Tree) ++ [stT allT] ++ [t4] ++ [stT allT]))).1 ⟨z0, ⟨z1, z2, z3⟩, ⟨z4, z5, z6⟩⟩) := ho9.imp' (fun g hg => ⟨hg.1, Nat.lt_of_lt_of_le hg.2.1 ex9.size⟩); obtain ⟨y0, y1, y2⟩ := BlkT.cs A9.out.res; have yf := A9.out.res.frozen; clear ho9 ex9 b9)
          refine bodyPost_ret (v := PC.v ⟨z0, ⟨z1, z2, z3⟩, ⟨z4, z5, z6⟩⟩) ?_ rfl ⟨_, _, i6, wr6, ou4, _, rfl, HO.same (fun g hg => ⟨by omega, by simpa using hg.2⟩) (fun g hg => heap_set3 (by omega) _ _ _) H9.out, right_kept _, set3_ex A9.out.ex (Nat.le_refl _) _ _ _, A9.out.rd.set3 (by have := A9.out.lt; omega) _ _ _, FIN.out⟩
          simp [results, Tryz.results14]
          have B := blk_put3 A9.out.res ⟨z0, ⟨z1, z2, z3⟩, ⟨z4, z5, z6⟩⟩
          simp only at B
          generalize hW7 : World.setCell _ _ _ = W7 at B ⊢
          exact run_ptv B


end Go.Proofs.YtihnmamejfoeeaaGreatDoor
