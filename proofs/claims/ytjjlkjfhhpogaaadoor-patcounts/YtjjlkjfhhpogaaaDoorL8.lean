/-
  The walk of PatCounts.
-/
import Derived.Test.YtjjlkjfhhpogaaaDoorLs
import Derived.Test.YtjjlkjfhhpogaaaDoorCm
namespace Go.Proofs.YtjjlkjfhhpogaaaDoor
open Go.RowKit

def nrow (l : List Int) : Array Value := (cellsOf encN l).toArray
theorem make43 (N : Nat) (hN : N ≤ 100) (W : World) : (Instr.makeSlice 26 (.int .i64 N) (.int .i64 N)).run Tryd.prog W = .ok (.slice (some ⟨W.heap.size, 0, none⟩) N N) (W.alloc (.cells (nrow (List.replicate N 0)) 43)) := by
  obtain ⟨i, hi, hz, hz1, hz2⟩ := info_parts info43
  have := run_make (P := Tryd.prog) W 26 43 i _ Tryd.underlying26 hi hz .i64 .i64 N N (by omega) (by omega) (by rw [hz2]; omega) (by omega)
  rw [this, hz1]
  exact congrArg (fun c => Result.ok (Value.slice (some ⟨W.heap.size, 0, none⟩) N N) (W.alloc (.cells c 43))) (made_rows encN_len (by omega) 0 _ rfl N)

/-- The path, as far as it is filled. -/
def filled (N i : Nat) : List Int := (List.range i).map (fun (j : Nat) => (j : Int) * 77) ++ List.replicate (N - i) 0
theorem filled_zero (N : Nat) : filled N 0 = List.replicate N 0 := by simp [filled]
theorem filled_len {N i : Nat} (h : i ≤ N) : (filled N i).length = N := by simp [filled]; omega
theorem filled_at {N i : Nat} (h : i < N) : (filled N i)[i]? = some 0 := by
  unfold filled
  rw [List.getElem?_append_right (by simp), List.length_map, List.length_range, Nat.sub_self, List.getElem?_replicate, if_pos (by omega)]
theorem filled_set {N i : Nat} (h : i < N) : (filled N i).set i ((i : Int) * 77) = filled N (i + 1) := by
  unfold filled
  rw [List.set_append_right _ _ (by simp)]
  have e : N - i = (N - (i + 1)) + 1 := by omega
  rw [e, List.replicate_succ]
  simp [List.range_succ]
theorem filled_fits {N : Nat} (h : N ≤ 100) : Fits (filled N N) := by
  intro n hn
  simp [filled] at hn
  obtain ⟨j, hj, rfl⟩ := hn
  omega
theorem blk_fill {W : World} {b N i : Nat} (h : Blk W b (nrow (filled N i)) 43) (hi : i < N) : Blk (W.setCell ⟨b, i, none⟩ (.int .u32 ((i : Int) * 77))) b (nrow (filled N (i + 1))) 43 := by
  have h1 := h.set i (.int .u32 ((i : Int) * 77))
  unfold nrow at h1 ⊢
  rw [List.setIfInBounds_toArray] at h1
  have h2 := cellsOf_set encN_len (filled N i) i 0 ((i : Int) * 77) (filled_at hi) 0 (.int .u32 ((i : Int) * 77)) rfl (by omega)
  rw [show i * 1 + 0 = i by omega] at h2
  rw [h2, filled_set hi] at h1
  exact h1
theorem blk_at {W : World} {b N i : Nat} (h : Blk W b (nrow (filled N i)) 43) (hi : i < N) : W.cell? ⟨b, i, none⟩ = some (.int .u32 0) := by
  rw [h.c i]
  unfold nrow
  rw [List.getElem?_toArray]
  have := cellsOf_at encN_len (filled N i) i 0 (filled_at hi) 0 _ rfl
  rw [show i * 1 + 0 = i by omega] at this
  exact this

/-- A law's world: nothing old has turned; the path lies in its block. -/
structure PX (w : World) (b N i : Nat) (W : World) : Prop where
  bel : Below w.heap.size w W
  path : Blk W b (nrow (filled N i)) 43
theorem PX.go {w : World} {b N i : Nat} {W W' : World} (h : PX w b N i W) (g : Below W.heap.size W W') : PX w b N i W' := ⟨bstep h.bel g, h.path.bel g⟩
theorem PX.row {w : World} {b N : Nat} {W : World} (h : PX w b N N W) (hN : N ≤ 100) : RowN W (.slice (some ⟨b, 0, none⟩) N N) (filled N N) := row_lit h.path (by simp [nrow]) (filled_len (Nat.le_refl _)) (by omega)

set_option maxRecDepth 100000 in
set_option maxHeartbeats 8000000 in
theorem law_counts (n0 n1 n2 : Int) (w : World) (h0 : 0 ≤ n0 ∧ n0 ≤ 255) (h1 : 0 ≤ n1 ∧ n1 ≤ 255) (h2 : 0 ≤ n2 ∧ n2 ≤ 255) (hT : Tab w) :
    Calls Tryd.prog 8 #[.int .u8 n0, .int .u8 n1, .int .u8 n2] w fun e w' => e = .returned (.bool true) ∧ Below w.heap.size w w' := by
  have kal := fun W h => alive_any W h
  have HTb : Hid (Tab w) := hT
  obtain ⟨N0, rfl⟩ : ∃ N : Nat, n0 = N := ⟨n0.toNat, by omega⟩
  obtain ⟨N1, rfl⟩ : ∃ N : Nat, n1 = N := ⟨n1.toNat, by omega⟩
  obtain ⟨N2, rfl⟩ : ∃ N : Nat, n2 = N := ⟨n2.toNat, by omega⟩
  have e0 : (N0 : Int) % 40 = ((N0 % 40 : Nat) : Int) := by omega
  have e1 : (N1 : Int) % 40 = ((N1 % 40 : Nat) : Int) := by omega
  have e2 : (N2 : Int) % 60 = ((N2 % 60 : Nat) : Int) := by omega
  have a0 : N0 % 40 < 40 := Nat.mod_lt _ (by omega)
  have a1 : N1 % 40 < 40 := Nat.mod_lt _ (by omega)
  have a2 : N2 % 60 < 60 := Nat.mod_lt _ (by omega)
  generalize N0 % 40 = A at e0 a0
  generalize N1 % 40 = B at e1 a1
  generalize N2 % 60 = N at e2 a2
  have mk := make43 N (by omega)
  clear hT
  go_enter Tryd.func8, Tryd.ntmps8
  go_wp2_with (go_at_call 14; refine (kal _ HTb.out).mono ?_; rintro _ w2 ⟨rfl, gw⟩; have B2 : Hid (Below w.heap.size w w2) := gw; clear gw)
  generalize hW : World.alloc _ _ = W3
  have HI : Hid (PX w w2.heap.size N 0 W3) := by
    rw [← hW]
    exact ⟨bstep B2.out (bel_alloc _ _), by rw [filled_zero]; exact Blk.new _ _ _⟩
  have HB : Hid (w.heap.size ≤ w2.heap.size) := B2.out.size
  clear hW B2 kal mk
  go_loopw [29] (fun vi wr => ∃ i : Nat, i ≤ N ∧ vi = .int .i64 i ∧ Hid (PX w w2.heap.size N i wr)) (fun vi _ => N - (intOf vi).toNat)
  case atStart => exact ⟨0, Nat.zero_le _, rfl, HI⟩
  case round =>
    clear HI
    obtain ⟨i, hi, rfl, HI⟩ := hrel
    by_cases hlt : i < N
    case pos =>
      have c0 := blk_at HI.out.path hlt
      have cf := HI.out.path.frozen
      have hlt2 : (i : Int) < N := by omega
      go_wp2_with fail
      have J6 : PX w w2.heap.size N (i + 1) (wr.setCell ⟨w2.heap.size, i, none⟩ (.int .u32 ((i : Int) * 77))) := ⟨HI.out.bel.setCell HB.out _, blk_fill HI.out.path hlt⟩
      generalize hW6 : World.setCell _ _ _ = W6 at J6 ⊢
      have H6 : Hid (PX w w2.heap.size N (i + 1) W6) := J6
      clear J6 hW6 HI c0 cf
      go_wp2_with fail
      go_roundw
      case rel => exact ⟨i + 1, by omega, by go_num, H6⟩
      case measure => simp [intOf]; omega
    case neg =>
      have hiN : i = N := by omega
      have hle : ¬ (i : Int) < N := by omega
      rw [hiN] at HI
      clear hiN
      have ka := fun W => any_any W
      have kt1 := fun x W h => times_any anyT x A B W ok_any h (by omega) (by omega)
      by_cases c1 : B < A
      · rw [times_any0 c1] at kt1
        have c2 : (B : Int) < A := by omega
        go_wp2_with (first
          | (go_at_call 29; refine (ka _).mono ?_; rintro _ w4 ⟨⟨g0, ⟨g1, g2, g3⟩, g4, g5, g6⟩, rfl, ho4, bb4⟩; have H4 : Hid (HT w4 anyT ⟨g0, ⟨g1, g2, g3⟩, g4, g5, g6⟩) := ho4.held; have V4 : Hid (PX w w2.heap.size N N w4) := HI.out.go bb4; clear ho4 bb4)
          | (go_at_call 26; refine (kt1 _ _ H4.out).mono ?_; rintro _ w5 ⟨⟨r0, ⟨r1, r2, r3⟩, r4, r5, r6⟩, rfl, ho5, bb5⟩; have V5 : Hid (PX w w2.heap.size N N w5) := V4.out.go bb5; clear ho5 bb5))
        go_ret
        exact ⟨rfl, bstep V5.out.bel (bel_alloc _ _)⟩
      · obtain ⟨M, hM⟩ : ∃ M, B = A + M := ⟨B - A, by omega⟩
        have HM : Hid (B = A + M) := hM
        have kt2 := fun x W h => times_any anyT x A (-1) W ok_any h (by omega) (by omega)
        rw [times_any2 (by omega)] at kt2
        have hx1 : timesT anyT A B = (rowT anyT A M false, 0) := by rw [hM]; exact times_any1 (by omega) (by omega)
        rw [hx1] at kt1
        have c2 : ¬ (B : Int) < A := by omega
        have km1 : ∀ x W, Below w.heap.size w W → HT W (rowT anyT A M false) x → RowN W (.slice (some ⟨w2.heap.size, 0, none⟩) N N) (filled N N) → Tab W → Calls Tryd.prog 19 #[PC.v x, .slice (some ⟨w2.heap.size, 0, none⟩) N N] W fun e w' => (∃ q : Bool, e = .returned (.bool q) ∧ (q = true ↔ A ≤ N ∧ N ≤ B)) ∧ Gr W w' := fun x W _ h1 h2 h3 => by
          have := match_any (rowT anyT A M false) x _ (filled N N) W (okT_row ok_any (by omega) (by have := HM.out; omega) false) h1 h2 h3 (by rw [filled_len (Nat.le_refl _)]; omega)
          rw [match_row1 (by omega) (by have := HM.out; omega) (filled_fits (by omega)) (by rw [filled_len (Nat.le_refl _)]; omega), filled_len (Nat.le_refl _), ← HM.out] at this
          exact this
        have km2 : ∀ x W, Below w.heap.size w W → HT W (rowT anyT A 0 true) x → RowN W (.slice (some ⟨w2.heap.size, 0, none⟩) N N) (filled N N) → Tab W → Calls Tryd.prog 19 #[PC.v x, .slice (some ⟨w2.heap.size, 0, none⟩) N N] W fun e w' => (∃ q : Bool, e = .returned (.bool q) ∧ (q = true ↔ A ≤ N)) ∧ Gr W w' := fun x W _ h1 h2 h3 => by
          have := match_any (rowT anyT A 0 true) x _ (filled N N) W (okT_row ok_any (by omega) (by omega) true) h1 h2 h3 (by rw [filled_len (Nat.le_refl _)]; omega)
          rw [match_row2 (by omega) (filled_fits (by omega)) (by rw [filled_len (Nat.le_refl _)]; omega), filled_len (Nat.le_refl _)] at this
          exact this
        clear hM hx1
        go_upto_region 13 with (first
          | (go_at_call 29; refine (ka _).mono ?_; rintro _ w4 ⟨⟨g0, ⟨g1, g2, g3⟩, g4, g5, g6⟩, rfl, ho4, bb4⟩; have H4 : Hid (HT w4 anyT ⟨g0, ⟨g1, g2, g3⟩, g4, g5, g6⟩) := ho4.held; have V4 : Hid (PX w w2.heap.size N N w4) := HI.out.go bb4; clear ho4 bb4)
          | (go_at_call 26; refine (kt1 _ _ H4.out).mono ?_; rintro _ w5 ⟨⟨r0, ⟨r1, r2, r3⟩, r4, r5, r6⟩, rfl, ho5, bb5⟩; have V5 : Hid (PX w w2.heap.size N N w5) := V4.out.go bb5; have H5 : Hid (HT w5 (rowT anyT A M false) ⟨r0, ⟨r1, r2, r3⟩, ⟨r4, r5, r6⟩⟩) := ho5.held; clear ho5 bb5))
        generalize hW5 : World.alloc _ _ = W5
        have b5 : Below w5.heap.size w5 W5 := by rw [← hW5]; exact bel_alloc _ _
        have V6 : Hid (PX w w2.heap.size N N W5) := V5.out.go b5
        have H6 : Hid (HT W5 (rowT anyT A M false) ⟨r0, ⟨r1, r2, r3⟩, ⟨r4, r5, r6⟩⟩) := HT.bel b5 H5.out
        have Q6 : Hid (Blk W5 w5.heap.size (encT ⟨r0, ⟨r1, r2, r3⟩, ⟨r4, r5, r6⟩⟩).toArray 25) := by rw [← hW5]; exact Blk.new _ _ _
        clear hW5 b5 V5 H5 V4 H4 HI kt1
        go_upto_region 14 with (first
          | (go_at_call 29; refine (ka _).mono ?_; rintro _ w6 ⟨⟨g0, ⟨g1, g2, g3⟩, g4, g5, g6⟩, rfl, ho4, bb4⟩; have H4 : Hid (HT w6 anyT ⟨g0, ⟨g1, g2, g3⟩, g4, g5, g6⟩) := ho4.held; have B6 : Hid (Below W5.heap.size W5 w6) := bb4; clear ho4 bb4)
          | (go_at_call 26; refine (kt2 _ _ H4.out).mono ?_; rintro _ w7 ⟨⟨s0, ⟨s1, s2, s3⟩, s4, s5, s6⟩, rfl, ho5, bb5⟩; have B7 : Hid (Below w6.heap.size w6 w7) := bb5; have H7 : Hid (HT w7 (rowT anyT A 0 true) ⟨s0, ⟨s1, s2, s3⟩, ⟨s4, s5, s6⟩⟩) := ho5.held; clear ho5 bb5))
        generalize hW7 : World.alloc _ _ = W8
        have b8 : Below W5.heap.size W5 W8 := by rw [← hW7]; exact bstep (bstep B6.out B7.out) (bel_alloc _ _)
        have V8 : Hid (PX w w2.heap.size N N W8) := V6.out.go b8
        have H8 : Hid (HT W8 (rowT anyT A M false) ⟨r0, ⟨r1, r2, r3⟩, ⟨r4, r5, r6⟩⟩) := HT.bel b8 H6.out
        have K8 : Hid (HT W8 (rowT anyT A 0 true) ⟨s0, ⟨s1, s2, s3⟩, ⟨s4, s5, s6⟩⟩) := by rw [← hW7]; exact HT.bel (bel_alloc _ _) H7.out
        have T8 : Hid (Tab W8) := HTb.out.bel V8.out.bel
        have P8 : Hid (Blk W8 w5.heap.size (encT ⟨r0, ⟨r1, r2, r3⟩, ⟨r4, r5, r6⟩⟩).toArray 25) := Q6.out.bel b8
        have Q8 : Hid (Blk W8 w7.heap.size (encT ⟨s0, ⟨s1, s2, s3⟩, ⟨s4, s5, s6⟩⟩).toArray 25) := by rw [← hW7]; exact Blk.new _ _ _
        clear hW7 b8 V6 H6 Q6 H7 B6 B7 H4 ka kt2
        obtain ⟨u0, u1, u2⟩ := BlkT.cs P8.out
        simp only at u0 u1 u2
        by_cases d1 : A ≤ N
        · have d1' : (A : Int) ≤ N := by omega
          by_cases d2 : N ≤ B
          · have d2' : (N : Int) ≤ B := by omega
            go_wp2_with (first
              | (go_at_call 19; (with_reducible refine (km2 _ _ V9.out.bel H9.out (V9.out.row (by omega)) T9.out).mono ?_); rintro _ w10 ⟨⟨q, rfl, hq⟩, gw⟩; have hqt : q = true := hq.2 d1; subst hqt; clear hq; have V10 : Hid (PX w w2.heap.size N N w10) := V9.out.go gw.below; clear gw)
              | (go_at_call 19; (with_reducible refine (km1 _ _ V8.out.bel H8.out (V8.out.row (by omega)) T8.out).mono ?_); rintro _ w9 ⟨⟨q, rfl, hq⟩, gw⟩; have hqt : q = true := hq.2 ⟨d1, d2⟩; subst hqt; clear hq; have V9 : Hid (PX w w2.heap.size N N w9) := V8.out.go gw.below; have H9 : Hid (HT w9 (rowT anyT A 0 true) ⟨s0, ⟨s1, s2, s3⟩, ⟨s4, s5, s6⟩⟩) := HT.bel gw.below K8.out; have T9 : Hid (Tab w9) := T8.out.bel gw.below; have Q9 : Hid (Blk w9 w7.heap.size (encT ⟨s0, ⟨s1, s2, s3⟩, ⟨s4, s5, s6⟩⟩).toArray 25) := Q8.out.bel gw.below; clear gw; obtain ⟨v0, v1, v2⟩ := BlkT.cs Q9.out))
            go_ret
            exact ⟨rfl, V10.out.bel⟩
          · have d2' : decide ((N : Int) ≤ B) = false := by simp; omega
            go_wp2_with (first
              | (go_at_call 19; (with_reducible refine (km2 _ _ V9.out.bel H9.out (V9.out.row (by omega)) T9.out).mono ?_); rintro _ w10 ⟨⟨q, rfl, hq⟩, gw⟩; have hqt : q = true := hq.2 d1; subst hqt; clear hq; have V10 : Hid (PX w w2.heap.size N N w10) := V9.out.go gw.below; clear gw)
              | (go_at_call 19; (with_reducible refine (km1 _ _ V8.out.bel H8.out (V8.out.row (by omega)) T8.out).mono ?_); rintro _ w9 ⟨⟨q, rfl, hq⟩, gw⟩; have hqt : q = false := bool_false hq (fun h => d2 h.2); subst hqt; clear hq; have V9 : Hid (PX w w2.heap.size N N w9) := V8.out.go gw.below; have H9 : Hid (HT w9 (rowT anyT A 0 true) ⟨s0, ⟨s1, s2, s3⟩, ⟨s4, s5, s6⟩⟩) := HT.bel gw.below K8.out; have T9 : Hid (Tab w9) := T8.out.bel gw.below; have Q9 : Hid (Blk w9 w7.heap.size (encT ⟨s0, ⟨s1, s2, s3⟩, ⟨s4, s5, s6⟩⟩).toArray 25) := Q8.out.bel gw.below; clear gw; obtain ⟨v0, v1, v2⟩ := BlkT.cs Q9.out))
            go_ret
            exact ⟨rfl, V10.out.bel⟩
        · have d1' : decide ((A : Int) ≤ N) = false := by simp; omega
          go_wp2_with (first
            | (go_at_call 19; (with_reducible refine (km2 _ _ V9.out.bel H9.out (V9.out.row (by omega)) T9.out).mono ?_); rintro _ w10 ⟨⟨q, rfl, hq⟩, gw⟩; have hqt : q = false := bool_false hq d1; subst hqt; clear hq; have V10 : Hid (PX w w2.heap.size N N w10) := V9.out.go gw.below; clear gw)
            | (go_at_call 19; (with_reducible refine (km1 _ _ V8.out.bel H8.out (V8.out.row (by omega)) T8.out).mono ?_); rintro _ w9 ⟨⟨q, rfl, hq⟩, gw⟩; have hqt : q = false := bool_false hq (fun h => d1 h.1); subst hqt; clear hq; have V9 : Hid (PX w w2.heap.size N N w9) := V8.out.go gw.below; have H9 : Hid (HT w9 (rowT anyT A 0 true) ⟨s0, ⟨s1, s2, s3⟩, ⟨s4, s5, s6⟩⟩) := HT.bel gw.below K8.out; have T9 : Hid (Tab w9) := T8.out.bel gw.below; have Q9 : Hid (Blk w9 w7.heap.size (encT ⟨s0, ⟨s1, s2, s3⟩, ⟨s4, s5, s6⟩⟩).toArray 25) := Q8.out.bel gw.below; clear gw; obtain ⟨v0, v1, v2⟩ := BlkT.cs Q9.out))
          go_ret
          exact ⟨rfl, V10.out.bel⟩

end Go.Proofs.YtjjlkjfhhpogaaaDoor
