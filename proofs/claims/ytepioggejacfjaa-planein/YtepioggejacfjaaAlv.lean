/-
  The walk of alive: the document's examples come out.
-/
import Derived.Test.YtepioggejacfjaaAny
import Derived.Test.YtepioggejacfjaaCel
import Derived.Test.YtepioggejacfjaaSeq
import Derived.Deep.RegionHeld3
namespace Go.Proofs.Ytepioggejacfjaa
open Go.RowKit

theorem lp (a b r : Int) (a0 : 0 ≤ a) (a1 : a ≤ 65535) (b0 : 0 ≤ b) (b1 : b ≤ 65535) (h : 65536 * a + b = r) (w : World) :
    Calls Try.prog 18 #[.int .u32 a, .int .u32 b] w fun e w' => e = .returned (.int .u32 r) ∧ w' = w := by
  subst h
  exact lpoint_any a b a0 a1 b0 b1 w

theorem bx_of {a b : Int} (a0 : 0 ≤ a) (a1 : a ≤ 4294967295) (b0 : 0 ≤ b) (b1 : b ≤ 4294967295) : Bx (a, b) := ⟨⟨a0, a1⟩, ⟨b0, b1⟩⟩

theorem ex_good : Good [(65537, 65538)] := by
  intro s hs
  simp at hs
  subst hs
  simp only
  omega

theorem ex_begs_hi : Begs hiP [(65537, 65538)] [0, 1, 2] := ⟨by simp [Rising], fun x => by simp [hiP]⟩
theorem ex_begs_lo : Begs loP [(65537, 65538)] [0, 1, 3] := ⟨by simp [Rising], fun x => by simp [loP]⟩

theorem ex_cells {o : List Int} (h : IsCells [(65537, 65538)] o) : o = [0, 65537] :=
  h.unique ⟨_, _, ex_begs_hi, ex_begs_lo, by decide +kernel⟩

theorem ex_meet : meetV (65541, 589833) (196608, 1310726) = .tuple #[.agg #[.int .u32 196613, .int .u32 589830], .bool true] := by
  have h1 : some2 (65541, 589833) (196608, 1310726) = true := by decide +kernel
  have h2 : meetB (65541, 589833) (196608, 1310726) = (196613, 589830) := by decide +kernel
  unfold meetV
  rw [h1, h2]
  rfl

theorem ex_in : inB (4259840000, 4259905535) 4259840007 = true := by decide +kernel

/-- A slice literal of boxes. -/
theorem Row2.lit (w : World) (l : List Sp) (hl : l.length ≤ 1000) : Row2 (w.alloc (.cells (cells2 l).toArray 26)) (.slice (some ⟨w.heap.size, 0, none⟩) l.length l.length) l :=
  Row2.of_owns (base := w.heap.size) (e := 26) ⟨cells2_length l, .inr ⟨w.heap.size, l.length, (cells2 l).toArray, rfl, Nat.le_refl _, heap_alloc_new w _, Nat.le_refl _, by unfold maxLen; omega, by simp [cells2_length], by rw [← cells2_length l]; simp⟩⟩

/-- A slice literal of numbers. -/
theorem Row1.lit2 (w : World) (x y : Int) : Row1 (w.alloc (.cells #[.int .u32 x, .int .u32 y] 23)) (.slice (some ⟨w.heap.size, 0, none⟩) 2 2) [x, y] := by
  refine ⟨_, _, rfl, fun _ => ⟨w.heap.size, 0, rfl, by simp, fun i z hz => ?_⟩⟩
  match i with
  | 0 => simp at hz; subst hz; simp [go_sem]
  | 1 => simp at hz; subst hz; simp [go_sem]
  | i + 2 => simp at hz

theorem Row1.heapEq {w w' : World} {v : Value} {l : List Int} (h : Row1 w v l) (e : w'.heap = w.heap) : Row1 w' v l := by
  obtain ⟨ao, cap, rfl, hc⟩ := h
  refine ⟨ao, cap, rfl, fun hne => ?_⟩
  obtain ⟨b, off, rfl, hb, hcell⟩ := hc hne
  exact ⟨b, off, rfl, by rw [e]; exact hb, fun i x hx => by rw [World.cell?_of_block (w := w) (a := ⟨b, off + i, none⟩) (by rw [e])]; exact hcell i x hx⟩

theorem alive_nums {w w3 : World} {b : Nat} {u : Value} (hs : b < w3.heap.size) (hm0 : w3.cell? ⟨b, 0, none⟩ = some (.int .u32 196613)) (hm1 : w3.cell? ⟨b, 1, none⟩ = some (.int .u32 589830)) (hr : Row1 w3 u [0, 65537]) (W : World) (C : Below w.heap.size w W) (e : W.heap = w3.heap) :
    Calls Try.prog 17 #[u, .slice (some ⟨w3.heap.size, 0, none⟩) 2 2] (W.alloc (.cells #[.int .u32 0, .int .u32 65537] 23)) fun e w' => e = .returned (.bool true) ∧ w'.cell? ⟨b, 0, none⟩ = some (.int .u32 196613) ∧ w'.cell? ⟨b, 1, none⟩ = some (.int .u32 589830) ∧ Below w.heap.size w w' := by
  have hr2 := (hr.heapEq e).kept ((Below.refl _ _).alloc (Nat.le_refl _) (.cells #[.int .u32 0, .int .u32 65537] 23)) (Nat.le_refl _)
  have h := nums_any u (.slice (some ⟨W.heap.size, 0, none⟩) 2 2) [0, 65537] [0, 65537] _ (by decide) hr2 (Row1.lit2 W 0 65537)
  rw [decide_eq_true rfl, show W.heap.size = w3.heap.size from by rw [e]] at h
  refine h.mono fun _ w' ⟨h1, h2⟩ => ?_
  have C1 : Below W.heap.size W w' := ((Below.refl _ _).alloc (Nat.le_refl _) _).trans (h2.mono (by simp))
  have hsW : b < W.heap.size := by rw [e]; exact hs
  have m0 : W.cell? ⟨b, 0, none⟩ = some (.int .u32 196613) := (World.cell?_of_block (w := w3) (a := ⟨b, 0, none⟩) (by rw [e])).trans hm0
  have m1 : W.cell? ⟨b, 1, none⟩ = some (.int .u32 589830) := (World.cell?_of_block (w := w3) (a := ⟨b, 1, none⟩) (by rw [e])).trans hm1
  exact ⟨h1, (C1.cell (by exact hsW)).trans m0, (C1.cell (by exact hsW)).trans m1, C.trans (C1.mono C.size)⟩

theorem alive_in {w w2 : World} {b : Nat} {u : Value} (hs : b < w2.heap.size) (hm0 : w2.cell? ⟨b, 0, none⟩ = some (.int .u32 196613)) (hm1 : w2.cell? ⟨b, 1, none⟩ = some (.int .u32 589830)) (hr : Row1 w2 u [0, 65537]) (B : Below w.heap.size w w2) (W : World) (hW : Below w2.heap.size w2 W) :
    Calls Try.prog 9 #[.agg #[.int .u32 4259840000, .int .u32 4259905535], .int .u32 4259840007] W fun e w3 => e = .returned (.bool true) ∧ w3.cell? ⟨b, 0, none⟩ = some (.int .u32 196613) ∧ w3.cell? ⟨b, 1, none⟩ = some (.int .u32 589830) ∧ Below w.heap.size w w3 ∧ Row1 w3 u [0, 65537] ∧ b < w3.heap.size := by
  have h := in_any (4259840000, 4259905535) 4259840007 (bx_of (by decide) (by decide) (by decide) (by decide)) ⟨by decide, by decide⟩ W
  rw [ex_in] at h
  refine h.mono fun _ w3 ⟨h1, h2⟩ => ?_
  have C : Below w2.heap.size w2 w3 := hW.trans ((Grown.below h2).mono hW.size)
  exact ⟨h1, (C.cell (by exact hs)).trans hm0, (C.cell (by exact hs)).trans hm1, B.trans (C.mono B.size), hr.kept C (Nat.le_refl _), Nat.lt_of_lt_of_le hs C.size⟩

theorem below_same (w : World) : Below w.heap.size w w.drew := ⟨rfl, rfl, rfl, Nat.le_refl _, fun _ _ => rfl⟩

set_option maxHeartbeats 2000000 in
theorem alive_any (w : World) : Calls Try.prog 8 #[] w fun e w' => e = .returned (.bool true) ∧ Below w.heap.size w w' := by
  have p1 := fun W => lp 1 5 65541 (by decide) (by decide) (by decide) (by decide) (by decide) W
  have p2 := fun W => lp 9 9 589833 (by decide) (by decide) (by decide) (by decide) (by decide) W
  have p3 := fun W => lp 3 0 196608 (by decide) (by decide) (by decide) (by decide) (by decide) W
  have p4 := fun W => lp 20 6 1310726 (by decide) (by decide) (by decide) (by decide) (by decide) W
  have p5 := fun W => lp 1 1 65537 (by decide) (by decide) (by decide) (by decide) (by decide) W
  have p6 := fun W => lp 1 2 65538 (by decide) (by decide) (by decide) (by decide) (by decide) W
  have hmeet := fun W => meet_any (65541, 589833) (196608, 1310726) (bx_of (by decide) (by decide) (by decide) (by decide)) (bx_of (by decide) (by decide) (by decide) (by decide)) W
  rw [ex_meet] at hmeet
  go_enter Try.func8, Try.ntmps8
  go_wp2_with (first
    | (go_at_call 18; first
        | (with_reducible refine (p1 _).mono ?_; rintro e w0 ⟨rfl, h0⟩; rw [h0]; clear h0 w0)
        | (with_reducible refine (p2 _).mono ?_; rintro e w0 ⟨rfl, h0⟩; rw [h0]; clear h0 w0)
        | (with_reducible refine (p3 _).mono ?_; rintro e w0 ⟨rfl, h0⟩; rw [h0]; clear h0 w0)
        | (with_reducible refine (p4 _).mono ?_; rintro e w0 ⟨rfl, h0⟩; rw [h0]; clear h0 w0)
        | (with_reducible refine (p5 _).mono ?_; rintro e w0 ⟨rfl, h0⟩; rw [h0]; clear h0 w0)
        | (with_reducible refine (p6 _).mono ?_; rintro e w0 ⟨rfl, h0⟩; rw [h0]; clear h0 w0)))
  refine (hmeet _).mono ?_
  rintro e w1 ⟨rfl, B1⟩
  have hB1 := B1.size
  have r2 : Row2 ((w1.alloc (.cells #[.int .u32 196613, .int .u32 589830] 26)).alloc (.cells #[.int .u32 65537, .int .u32 65538] 26)) (.slice (some ⟨w1.heap.size + 1, 0, none⟩) 1 1) [(65537, 65538)] := by
    have := Row2.lit (w1.alloc (.cells #[.int .u32 196613, .int .u32 589830] 26)) [(65537, 65538)] (by decide)
    rw [show (w1.alloc (.cells #[.int .u32 196613, .int .u32 589830] 26)).heap.size = w1.heap.size + 1 from by simp] at this
    exact this
  have hcel := cells_any _ [(65537, 65538)] _ (by decide) ex_good r2
  clear hmeet r2
  go_wp2_with (first
    | (go_at_call 18; first
        | (with_reducible refine (p5 _).mono ?_; rintro e w0 ⟨rfl, h0⟩; rw [h0]; clear h0 w0)
        | (with_reducible refine (p6 _).mono ?_; rintro e w0 ⟨rfl, h0⟩; rw [h0]; clear h0 w0)))
  refine hcel.mono ?_
  rintro e w2 ⟨u, o, rfl, hcl, hrow, B2⟩
  have eo := ex_cells hcl
  subst eo
  have C2 : Below w1.heap.size w1 w2 := (((Below.refl _ _).alloc (Nat.le_refl _) _).alloc (by simp) _).trans (B2.mono (by simp; omega))
  have hm0 : w2.cell? ⟨w1.heap.size, 0, none⟩ = some (.int .u32 196613) := (B2.cell (by simp; omega)).trans (by simp [go_sem])
  have hm1 : w2.cell? ⟨w1.heap.size, 1, none⟩ = some (.int .u32 589830) := (B2.cell (by simp; omega)).trans (by simp [go_sem])
  have hs2 : w1.heap.size < w2.heap.size := by have := B2.size; simp at this; omega
  have B3 : Below w.heap.size w w2 := B1.trans (C2.mono hB1)
  clear hcel hcl B2 C2 B1 p1 p2 p3 p4 p6
  have q1 := fun W => lp 65000 0 4259840000 (by decide) (by decide) (by decide) (by decide) (by decide) W
  have q2 := fun W => lp 65000 65535 4259905535 (by decide) (by decide) (by decide) (by decide) (by decide) W
  have q3 := fun W => lp 65000 7 4259840007 (by decide) (by decide) (by decide) (by decide) (by decide) W
  have q4 := fun W => lp 3 5 196613 (by decide) (by decide) (by decide) (by decide) (by decide) W
  have q5 := fun W => lp 9 6 589830 (by decide) (by decide) (by decide) (by decide) (by decide) W
  have heq : ∀ W, (binOp .eql 26 (.agg #[.int .u32 196613, .int .u32 589830]) (.agg #[.int .u32 196613, .int .u32 589830])).run Try.prog W = .ok (.bool true) W := fun W => by rw [eql26]; rfl
  have hgd : Try.prog.eqGuardType Try.prog.depth 26 = false := by kernel_rfl
  have hin := alive_in hs2 hm0 hm1 hrow B3 _ (below_same w2)
  go_wp2_with fail
  go_region_held3 (fun w' => w'.cell? ⟨w1.heap.size, 0, none⟩ = some (.int .u32 196613) ∧ w'.cell? ⟨w1.heap.size, 1, none⟩ = some (.int .u32 589830)) (go_keep)
   (first
    | (go_at_call 18; first
        | (with_reducible refine (p5 _).mono ?_; rintro e w0 ⟨rfl, h0⟩; rw [h0]; clear h0 w0)
        | (with_reducible refine (q1 _).mono ?_; rintro e w0 ⟨rfl, h0⟩; rw [h0]; clear h0 w0)
        | (with_reducible refine (q2 _).mono ?_; rintro e w0 ⟨rfl, h0⟩; rw [h0]; clear h0 w0)
        | (with_reducible refine (q3 _).mono ?_; rintro e w0 ⟨rfl, h0⟩; rw [h0]; clear h0 w0)
        | (with_reducible refine (q4 _).mono ?_; rintro e w0 ⟨rfl, h0⟩; rw [h0]; clear h0 w0)
        | (with_reducible refine (q5 _).mono ?_; rintro e w0 ⟨rfl, h0⟩; rw [h0]; clear h0 w0))
    | (go_at_call 9; refine hin.mono ?_; rintro e w3 ⟨rfl, k0, k1, C3, r3, s3⟩)
    | (go_at_call 17; refine (alive_nums s3 k0 k1 r3 _ ⟨C3.os, C3.tape, C3.output, C3.size, C3.block⟩ rfl).mono ?_; rintro e w5 ⟨rfl, m0, m1, C5⟩))
  go_wp2_with fail
  go_ret
  exact ⟨rfl, ⟨C5.os, C5.tape, C5.output, C5.size, C5.block⟩⟩
end Go.Proofs.Ytepioggejacfjaa
