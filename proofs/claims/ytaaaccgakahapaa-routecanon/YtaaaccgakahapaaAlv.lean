/-
  The walk of alive: the document's examples come out.
-/
import Derived.Test.YtaaaccgakahapaaW9
import Derived.Test.YtaaaccgakahapaaW10
import Derived.Test.YtaaaccgakahapaaW13
namespace Go.Proofs.Ytaaaccgakahapaa
open Go.RowKit

theorem cell_of_blk {w : World} {g : Nat} {cs : Array Value} {t : TypeId} {fr : Nat × Nat} (h : w.heap[g]? = some (.cells cs t fr)) (i : Nat) : w.cell? ⟨g, i, none⟩ = cs[i]? := by simp [World.cell?, h]

/-- A slice literal of numbers. -/
theorem Row1.lit (w : World) (l : List Int) : Row1 (w.alloc (.cells (l.map (Value.int .u32)).toArray 22)) (.slice (some ⟨w.heap.size, 0, none⟩) l.length l.length) l := by
  refine ⟨_, _, rfl, fun _ => ⟨w.heap.size, 0, rfl, by simp, fun i z hz => ?_⟩, fun h => by cases h⟩
  rw [cell_of_blk (heap_alloc_new w _), Nat.zero_add]
  simp [hz]

theorem ex_set {r : List Int} (h : IsSet [7, 3, 7] r) : r = [3, 7] := h.unique ⟨by simp [Rising], fun x => by
  simp only [List.mem_cons, List.not_mem_nil, or_false]
  constructor
  · rintro (h | h) <;> simp [h]
  · rintro (h | h | h) <;> simp [h]⟩
theorem ex_mask : maskA 167838211 8 = 167772160 := by decide +kernel
theorem ex_clamp : clampL 8 = 8 := by decide +kernel
def exA : Rt := ⟨0, 0, [1], [], 0, 0, 0, 0⟩
def exB : Rt := ⟨0, 0, [1, 2], [], 0, 0, 0, 0⟩
def exC : Rt := ⟨0, 0, [], [7, 3, 7], 0, 0, 0, 0⟩
def exO : Rt := ⟨0, 0, [], [], 0, 0, 3, 0⟩
theorem ex_cmp : cmpR exA exB = -1 := by decide +kernel
theorem ex_v0 : validR zeroR = true := by decide +kernel
theorem ex_v3 : validR exO = false := by decide +kernel
theorem ok_small {x : Rt} (h1 : x.addr = 0) (h2 : x.len = 0) (h3 : Good x.path) (h4 : Good x.comms) (h5 : x.pref = 0) (h6 : x.med = 0) (h7 : Num64 x.origin) (h8 : x.hop = 0) : Ok x :=
  ⟨by rw [h1]; exact ⟨by decide, by decide⟩, by rw [h2]; exact ⟨by decide, by decide⟩, h3, h4, by rw [h5]; exact ⟨by decide, by decide⟩, by rw [h6]; exact ⟨by decide, by decide⟩, h7, by rw [h8]; exact ⟨by decide, by decide⟩⟩
theorem ok_zero : Ok zeroR := ok_small rfl rfl (by intro x hx; cases hx) (by intro x hx; cases hx) rfl rfl ⟨by decide, by decide⟩ rfl
theorem ok_exO : Ok exO := ok_small rfl rfl (by intro x hx; cases hx) (by intro x hx; cases hx) rfl rfl ⟨by decide, by decide⟩ rfl

theorem alive_canon (w : World) : Calls Try.prog 15 #[.agg #[.int .u32 0, .int .i64 0, .slice none 0 0, .slice (some ⟨w.heap.size, 0, none⟩) 3 3, .int .u32 0, .int .u32 0, .int .i64 0, .int .u32 0]] (w.alloc (.cells #[.int .u32 7, .int .u32 3, .int .u32 7] 22))
    fun e w1 => ∃ q0 q1 a1 c1 a2 c2, e = .returned (.agg #[.int .u32 q0, .int .i64 q1, .slice a1 0 c1, .slice a2 2 c2, .int .u32 0, .int .u32 0, .int .i64 0, .int .u32 0]) ∧ Row1 w1 (.slice a2 2 c2) [3, 7] ∧ Below w.heap.size w w1 := by
  refine (canon_any exC nilV (.slice (some ⟨w.heap.size, 0, none⟩) 3 3) (w.alloc (.cells #[.int .u32 7, .int .u32 3, .int .u32 7] 22)) ⟨by decide, by decide⟩ (by decide) (by decide) ⟨Row1.nil _, Row1.lit w [7, 3, 7]⟩).mono ?_
  rintro e w1 ⟨u1, v1, B, r, he, hset, _, o1, o2, _, _, B1⟩
  have er := ex_set hset
  subst er
  have hv : Row1 w1 v1 [3, 7] := Row1.of_owns o2
  obtain ⟨a1, c1, rfl⟩ := o1.form
  obtain ⟨a2, c2, rfl⟩ := o2.form
  exact ⟨_, _, a1, c1, a2, c2, he, hv, ((Below.refl _ _).alloc (Nat.le_refl _) _).trans (B1.mono (by simp))⟩

theorem alive_mask (w : World) : Calls Try.prog 11 #[.agg #[.int .u32 167838211, .int .i64 8]] w fun e w' => e = .returned (.agg #[.int .u32 167772160, .int .i64 8]) ∧ Below w.heap.size w w' := by
  have h := mask_any 167838211 8 ⟨by decide, by decide⟩ w
  rw [ex_mask, ex_clamp] at h
  exact h.mono fun e w' ⟨h1, h2⟩ => ⟨h1, h2.below⟩

theorem alive_nums (w : World) (v : Value) (hv : Row1 w v [3, 7]) : Calls Try.prog 20 #[v, .slice (some ⟨w.heap.size, 0, none⟩) 2 2] (w.alloc (.cells #[.int .u32 3, .int .u32 7] 22)) fun e w' => e = .returned (.bool true) ∧ Below w.heap.size w w' := by
  have h := nums_any v (.slice (some ⟨w.heap.size, 0, none⟩) 2 2) [3, 7] [3, 7] (w.alloc (.cells #[.int .u32 3, .int .u32 7] 22)) (by decide) (hv.alloc _) (Row1.lit w [3, 7])
  rw [decide_eq_true rfl] at h
  exact h.mono fun e w' ⟨h1, h2⟩ => ⟨h1, ((Below.refl _ _).alloc (Nat.le_refl _) _).trans (h2.below.mono (by simp))⟩

theorem alive_cmp (w : World) : Calls Try.prog 19 #[.agg #[.int .u32 0, .int .i64 0, .slice (some ⟨w.heap.size, 0, none⟩) 1 1, .slice none 0 0, .int .u32 0, .int .u32 0, .int .i64 0, .int .u32 0], .agg #[.int .u32 0, .int .i64 0, .slice (some ⟨w.heap.size + 1, 0, none⟩) 2 2, .slice none 0 0, .int .u32 0, .int .u32 0, .int .i64 0, .int .u32 0]]
    ((w.alloc (.cells #[.int .u32 1] 22)).alloc (.cells #[.int .u32 1, .int .u32 2] 22)) fun e w' => e = .returned (.int .i64 (-1)) ∧ Below w.heap.size w w' := by
  have r2 : Row1 ((w.alloc (.cells #[.int .u32 1] 22)).alloc (.cells #[.int .u32 1, .int .u32 2] 22)) (.slice (some ⟨w.heap.size + 1, 0, none⟩) 2 2) [1, 2] := by
    have := Row1.lit (w.alloc (.cells #[.int .u32 1] 22)) [1, 2]
    rw [show (w.alloc (.cells #[.int .u32 1] 22)).heap.size = w.heap.size + 1 from by simp] at this
    exact this
  have h := cmp_any exA exB (.slice (some ⟨w.heap.size, 0, none⟩) 1 1) nilV (.slice (some ⟨w.heap.size + 1, 0, none⟩) 2 2) nilV ((w.alloc (.cells #[.int .u32 1] 22)).alloc (.cells #[.int .u32 1, .int .u32 2] 22)) ⟨by decide, by decide⟩ ⟨by decide, by decide⟩ ⟨(Row1.lit w [1]).alloc _, Row1.nil _⟩ ⟨r2, Row1.nil _⟩
  rw [ex_cmp] at h
  exact h.mono fun e w' ⟨h1, h2⟩ => ⟨h1, (((Below.refl _ _).alloc (Nat.le_refl _) _).alloc (by simp) _).trans (h2.below.mono (by simp; omega))⟩

theorem alive_valid0 (w : World) : Calls Try.prog 9 #[.agg #[.int .u32 0, .int .i64 0, .slice none 0 0, .slice none 0 0, .int .u32 0, .int .u32 0, .int .i64 0, .int .u32 0]] w fun e w' => e = .returned (.bool true) ∧ Below w.heap.size w w' := by
  have h := valid_any zeroR nilV nilV w ok_zero ⟨by decide, by decide⟩ ⟨Row1.nil _, Row1.nil _⟩
  rw [ex_v0] at h
  exact h.mono fun e w' ⟨h1, h2⟩ => ⟨h1, h2.below⟩

theorem alive_valid3 (w : World) : Calls Try.prog 9 #[.agg #[.int .u32 0, .int .i64 0, .slice none 0 0, .slice none 0 0, .int .u32 0, .int .u32 0, .int .i64 3, .int .u32 0]] w fun e w' => e = .returned (.bool false) ∧ Below w.heap.size w w' := by
  have h := valid_any exO nilV nilV w ok_exO ⟨by decide, by decide⟩ ⟨Row1.nil _, Row1.nil _⟩
  rw [ex_v3] at h
  exact h.mono fun e w' ⟨h1, h2⟩ => ⟨h1, h2.below⟩

set_option maxHeartbeats 2000000 in
theorem alive_any (w : World) : Calls Try.prog 8 #[] w fun e w' => e = .returned (.bool true) ∧ Below w.heap.size w w' := by
  have h1 := alive_canon w
  have heq : ∀ W, (binOp .eql 24 (.agg #[.int .u32 167772160, .int .i64 8]) (.agg #[.int .u32 167772160, .int .i64 8])).run Try.prog W = .ok (.bool true) W := fun W => by rw [eql24]; rfl
  go_enter Try.func8, Try.ntmps8
  go_wp2_with fail
  refine h1.mono ?_
  rintro e w1 ⟨q0, q1, a1, c1, a2, c2, rfl, hv, C1⟩
  have HC : Hid (Below w.heap.size w w1) := C1
  have HV : Hid (Row1 w1 (.slice a2 2 c2) [3, 7]) := hv
  clear h1 C1 hv
  go_wp2_with fail
  have h2 := alive_mask (w1.alloc (.cells #[.int .u32 q0, .int .i64 q1, .slice a1 0 c1, .slice a2 2 c2, .int .u32 0, .int .u32 0, .int .i64 0, .int .u32 0] 27))
  refine h2.mono ?_
  rintro e w2 ⟨rfl, B2⟩
  have c3 : w2.cell? ⟨w1.heap.size, 3, none⟩ = some (.slice a2 2 c2) := (B2.cell (by simp)).trans (by simp [go_sem])
  have C2 : Below w1.heap.size w1 w2 := ((Below.refl _ _).alloc (Nat.le_refl _) _).trans (B2.mono (by simp))
  have D2 : Hid (Below w.heap.size w w2) := HC.out.trans (C2.mono HC.out.size)
  have h3 := alive_nums w2 (.slice a2 2 c2) (HV.out.bel C2)
  clear h2 B2 C2 HV HC
  go_wp2_with fail
  refine h3.mono ?_
  rintro e w3 ⟨rfl, B3⟩
  have D3 : Hid (Below w.heap.size w w3) := D2.out.trans (B3.mono D2.out.size)
  have h4 := alive_cmp w3
  clear h3 B3 D2 c3
  go_wp2_with fail
  refine h4.mono ?_
  rintro e w4 ⟨rfl, B4⟩
  have D4 : Hid (Below w.heap.size w w4) := D3.out.trans (B4.mono D3.out.size)
  have h5 := alive_valid0 w4
  clear h4 B4 D3
  go_wp2_with fail
  refine h5.mono ?_
  rintro e w5 ⟨rfl, B5⟩
  have D5 : Hid (Below w.heap.size w w5) := D4.out.trans (B5.mono D4.out.size)
  have h6 := alive_valid3 w5
  clear h5 B5 D4
  go_wp2_with fail
  refine h6.mono ?_
  rintro e w6 ⟨rfl, B6⟩
  have D6 : Hid (Below w.heap.size w w6) := D5.out.trans (B6.mono D5.out.size)
  clear h6 B6 D5
  go_wp2_with fail
  go_ret
  exact ⟨rfl, D6.out⟩
end Go.Proofs.Ytaaaccgakahapaa
