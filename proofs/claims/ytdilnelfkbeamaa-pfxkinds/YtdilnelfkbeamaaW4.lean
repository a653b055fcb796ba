/-
  Walks: Right, hasLength, firstBits, In, the document's Right, cut, In.
-/
import Derived.Test.YtdilnelfkbeamaaW3
import Derived.Test.YtdilnelfkbeamaaMath2
namespace Go.Proofs.Ytdilnelfkbeamaa
open Go.RowKit

abbrev pv (p : Pf) : Value := .agg #[.int .u32 p.addr, .int .i64 p.len]
abbrev gv (x : Rg) : Value := .agg #[.int .u32 x.addr, .int .i64 x.len, .int .i64 x.ge, .int .i64 x.le]
abbrev ev (e : En) : Value := .agg #[.bool e.deny, .int .u32 e.rg.addr, .int .i64 e.rg.len, .int .i64 e.rg.ge, .int .i64 e.rg.le]

/-- A block of cells of the call's own. -/
def Blk (W : World) (b : Nat) (cs : Array Value) (t : TypeId) : Prop := W.heap[b]? = some (.cells cs t (0, 0))

theorem Blk.lt {w : World} {b : Nat} {cs : Array Value} {t : TypeId} (h : Blk w b cs t) : b < w.heap.size := (Array.getElem?_eq_some_iff.1 h).1
theorem Blk.new (w : World) (cs : Array Value) (t : TypeId) : Blk (w.alloc (.cells cs t)) w.heap.size cs t := heap_alloc_new w _
theorem Blk.new' (w : World) (cs : Array Value) (t : TypeId) (b : Nat) (hb : b = w.heap.size) : Blk (w.alloc (.cells cs t)) b cs t := by subst hb; exact Blk.new _ _ _
theorem Blk.bel {w w' : World} {b : Nat} {cs : Array Value} {t : TypeId} (h : Blk w b cs t) (hB : Below w.heap.size w w') : Blk w' b cs t := (hB.block b h.lt).trans h
theorem Blk.gr {w w' : World} {b : Nat} {cs : Array Value} {t : TypeId} (h : Blk w b cs t) (k : Gr w w') : Blk w' b cs t := h.bel k.below
theorem Blk.grow {w : World} {b : Nat} {cs : Array Value} {t : TypeId} (h : Blk w b cs t) (n : Nat) (os : Array Obj) : Blk (Sort.grow (w.drewN n) os) b cs t := h.gr ⟨n, os, rfl⟩
theorem Blk.drewN {w : World} {b : Nat} {cs : Array Value} {t : TypeId} (h : Blk w b cs t) (n : Nat) : Blk (w.drewN n) b cs t := h
theorem Blk.alloc {w : World} {b : Nat} {cs : Array Value} {t : TypeId} (h : Blk w b cs t) (o : Obj) : Blk (w.alloc o) b cs t := h.bel ((Below.refl _ _).alloc (Nat.le_refl _) o)
theorem Blk.other {w : World} {b : Nat} {cs : Array Value} {t : TypeId} (h : Blk w b cs t) {p : Addr} (hp : b ≠ p.block) (z : Value) : Blk (w.setCell p z) b cs t := (Below.heap_setCell _ _ _ _ hp).trans h
theorem Blk.set {w : World} {b : Nat} {cs : Array Value} {t : TypeId} (h : Blk w b cs t) (i : Nat) (z : Value) : Blk (w.setCell ⟨b, i, none⟩ z) b (cs.setIfInBounds i z) t := heap_setCell_same w b i _ t z h
theorem Blk.frozen {w : World} {b : Nat} {cs : Array Value} {t : TypeId} (h : Blk w b cs t) (o : Nat) : w.frozen? ⟨b, o, none⟩ = false := by
  unfold Blk at h
  simp [World.frozen?, h]
theorem Blk.c {w : World} {b : Nat} {cs : Array Value} {t : TypeId} (h : Blk w b cs t) (i : Nat) : w.cell? ⟨b, i, none⟩ = cs[i]? := by
  unfold Blk at h
  simp [World.cell?, h]
theorem Blk.grown {w w' : World} {b : Nat} {cs : Array Value} {t : TypeId} (h : Blk w b cs t) {o : Option Nat} (hB : w.grownBy w' o) (ho : o ≠ some b) : Blk w' b cs t := (hB.block b h.lt (fun e => ho e.symm)).trans h

/-- The cells of a range, and of a prefix. -/
abbrev gc (x : Rg) : Array Value := #[.int .u32 x.addr, .int .i64 x.len, .int .i64 x.ge, .int .i64 x.le]
abbrev pc (p : Pf) : Array Value := #[.int .u32 p.addr, .int .i64 p.len]

/-- A block that holds a range. -/
abbrev BlkG (W : World) (b : Nat) (a l g e : Int) : Prop := Blk W b #[.int .u32 a, .int .i64 l, .int .i64 g, .int .i64 e] 28
/-- A block that holds a prefix. -/
abbrev BlkP (W : World) (b : Nat) (a l : Int) : Prop := Blk W b #[.int .u32 a, .int .i64 l] 25

theorem BlkG.cs {W : World} {b : Nat} {a l g e : Int} (h : BlkG W b a l g e) : W.cell? ⟨b, 0, none⟩ = some (.int .u32 a) ∧ W.cell? ⟨b, 1, none⟩ = some (.int .i64 l) ∧ W.cell? ⟨b, 2, none⟩ = some (.int .i64 g) ∧ W.cell? ⟨b, 3, none⟩ = some (.int .i64 e) := ⟨h.c 0, h.c 1, h.c 2, h.c 3⟩
theorem BlkP.cs {W : World} {b : Nat} {a l : Int} (h : BlkP W b a l) : W.cell? ⟨b, 0, none⟩ = some (.int .u32 a) ∧ W.cell? ⟨b, 1, none⟩ = some (.int .i64 l) := ⟨h.c 0, h.c 1⟩

set_option maxHeartbeats 1000000 in
theorem pright_any (a l g e : Int) (ha : Num a) (w : World) :
    Calls Try.prog 11 #[.agg #[.int .u32 a, .int .i64 l, .int .i64 g, .int .i64 e]] w fun e' w' => e' = .returned (.bool (rightR ⟨a, l, g, e⟩)) ∧ Gr w w' := by
  have k1 := fun W => right_any a l ha W
  have HR : Hid (rightR ⟨a, l, g, e⟩ = (rightP a l && (decide (l ≤ g) && (decide (g ≤ e) && decide (e ≤ 32))))) := rfl
  obtain ⟨W, hW⟩ : ∃ W, W = w.alloc (.cells #[.int .u32 a, .int .i64 l, .int .i64 g, .int .i64 e] 28) := ⟨_, rfl⟩
  have HB : Hid (BlkG W w.heap.size a l g e) := by rw [hW]; exact Blk.new _ _ _
  have HW : Hid (Gr w W) := by rw [hW]; exact (Gr.refl _).alloc _
  generalize rightR ⟨a, l, g, e⟩ = r at *
  generalize rightP a l = q at *
  obtain ⟨c0, c1, c2, c3⟩ := BlkG.cs HB.out
  go_enter Try.func11, Try.ntmps11
  go_wp2_with fail
  rw [← hW]
  clear hW
  go_wp2_with (go_at_call 28; refine (k1 _).mono ?_; rintro e1 w1 ⟨rfl, hg⟩; have HG : Hid (Gr w w1) := HW.out.trans hg; obtain ⟨d0, d1, d2, d3⟩ := BlkG.cs (HB.out.gr hg); clear hg)
  all_goals
    go_ret
    refine ⟨?_, HG.out⟩
    rw [HR.out]
    first | (simp [*]; done) | (simp [*]; omega)

set_option maxHeartbeats 1000000 in
theorem rrightR_any (a l g e : Int) (ha : Num a) (w : World) :
    Calls Try.prog 12 #[.agg #[.int .u32 a, .int .i64 l, .int .i64 g, .int .i64 e]] w fun e' w' => e' = .returned (.bool (rightR ⟨a, l, g, e⟩)) ∧ Gr w w' := by
  have k1 := fun W => rright_any a l ha W
  have HR : Hid (rightR ⟨a, l, g, e⟩ = (rightP a l && (decide (l ≤ g) && (decide (g ≤ e) && decide (e ≤ 32))))) := rfl
  obtain ⟨W, hW⟩ : ∃ W, W = w.alloc (.cells #[.int .u32 a, .int .i64 l, .int .i64 g, .int .i64 e] 28) := ⟨_, rfl⟩
  have HB : Hid (BlkG W w.heap.size a l g e) := by rw [hW]; exact Blk.new _ _ _
  have HW : Hid (Gr w W) := by rw [hW]; exact (Gr.refl _).alloc _
  generalize rightR ⟨a, l, g, e⟩ = r at *
  generalize rightP a l = q at *
  obtain ⟨c0, c1, c2, c3⟩ := BlkG.cs HB.out
  go_enter Try.func12, Try.ntmps12
  go_wp2_with fail
  rw [← hW]
  clear hW
  go_wp2_with (go_at_call 26; refine (k1 _).mono ?_; rintro e1 w1 ⟨rfl, hg⟩; have HG : Hid (Gr w w1) := HW.out.trans hg; obtain ⟨d0, d1, d2, d3⟩ := BlkG.cs (HB.out.gr hg); clear hg)
  all_goals
    go_ret
    refine ⟨?_, HG.out⟩
    rw [HR.out]
    first | (simp [*]; done) | (simp [*]; omega)

set_option maxHeartbeats 1000000 in
theorem hasLength_any (a l g e n : Int) (ha : Num a) (w : World) :
    Calls Try.prog 29 #[.agg #[.int .u32 a, .int .i64 l, .int .i64 g, .int .i64 e], .int .i64 n] w fun e' w' => e' = .returned (.bool (hasLen ⟨a, l, g, e⟩ n)) ∧ Gr w w' := by
  have k1 := fun W => pright_any a l g e ha W
  have HR : Hid (hasLen ⟨a, l, g, e⟩ n = (rightR ⟨a, l, g, e⟩ && (decide (g ≤ n) && decide (n ≤ e)))) := rfl
  obtain ⟨W, hW⟩ : ∃ W, W = w.alloc (.cells #[.int .u32 a, .int .i64 l, .int .i64 g, .int .i64 e] 28) := ⟨_, rfl⟩
  have HB : Hid (BlkG W w.heap.size a l g e) := by rw [hW]; exact Blk.new _ _ _
  have HW : Hid (Gr w W) := by rw [hW]; exact (Gr.refl _).alloc _
  generalize hasLen ⟨a, l, g, e⟩ n = r at *
  generalize rightR ⟨a, l, g, e⟩ = q at *
  obtain ⟨c0, c1, c2, c3⟩ := BlkG.cs HB.out
  go_enter Try.func29, Try.ntmps29
  go_wp2_with fail
  rw [← hW]
  clear hW
  go_wp2_with (go_at_call 11; refine (k1 _).mono ?_; rintro e1 w1 ⟨rfl, hg⟩; have HG : Hid (Gr w w1) := HW.out.trans hg; obtain ⟨d0, d1, d2, d3⟩ := BlkG.cs (HB.out.gr hg); clear hg)
  all_goals
    go_ret
    refine ⟨?_, HG.out⟩
    rw [HR.out]
    first | (simp [*]; done) | (simp [*]; omega)

set_option maxHeartbeats 1000000 in
theorem firstBits_any (a l n : Int) (ha : Num a) (w : World) :
    Calls Try.prog 30 #[.agg #[.int .u32 a, .int .i64 l], .int .i64 n] w fun e' w' => e' = .returned (.agg #[.int .u32 (maskA a n), .int .i64 (clampL n)]) ∧ Gr w w' := by
  have k1 := fun W => mask_any a n ha W
  generalize maskA a n = z at *
  generalize clampL n = c at *
  obtain ⟨W, hW⟩ : ∃ W, W = (w.alloc (.cells #[.int .u32 a, .int .i64 l] 25)).alloc (.cells #[.int .u32 0, .int .i64 0] 25) := ⟨_, rfl⟩
  have HB : Hid (BlkP W w.heap.size a l) := by rw [hW]; exact (Blk.new _ _ _).alloc _
  have HB2 : Hid (BlkP W (w.heap.size + 1) 0 0) := by rw [hW]; exact Blk.new' _ _ _ _ (by simp)
  have HW : Hid (Gr w W) := by rw [hW]; exact ((Gr.refl _).alloc _).alloc _
  obtain ⟨c0, c1⟩ := BlkP.cs HB.out
  go_enter Try.func30, Try.ntmps30
  go_wp2_with fail
  rw [← hW]
  clear hW
  go_wp2_with (go_at_call 39; refine (k1 _).mono ?_; rintro e1 w1 ⟨rfl, hg⟩; have HG : Hid (Gr w w1) := HW.out.trans hg; obtain ⟨d0, d1⟩ := BlkP.cs (HB2.out.gr hg); have df := (HB2.out.gr hg).frozen; clear hg)
  refine bodyPost_ret (v := .agg #[.int .u32 z, .int .i64 c]) (by simp [results, Try.results30, go_sem, d0, d1]) rfl ⟨rfl, ?_⟩
  exact (HG.out.setCell (p := ⟨w.heap.size + 1, 0, none⟩) (by simp) _).setCell (p := ⟨w.heap.size + 1, 1, none⟩) (by simp) _

end Go.Proofs.Ytdilnelfkbeamaa
