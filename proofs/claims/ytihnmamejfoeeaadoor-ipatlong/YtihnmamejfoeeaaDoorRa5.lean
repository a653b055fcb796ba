/-
  Walks: again, one.
-/
import Derived.Test.YtihnmamejfoeeaaDoorRa4
namespace Go.Proofs.YtihnmamejfoeeaaDoor
open Go.RowKit

theorem times_plus {t : Tree} (h : rightT t = true) : timesT t 1 (-1) = if rightT (plusT t) = true then (plusT t, 0) else (zeroT, 6) := by
  have e : rowT t 1 0 true = plusT t := rfl
  unfold timesT
  rw [if_neg (by decide), if_neg (by rw [h]; decide), if_neg (by decide)]
  show (if rightT (rowT t 1 0 true) = true then (rowT t 1 0 true, 0) else (zeroT, 6)) = _
  rw [e]

set_option maxRecDepth 100000 in
set_option maxHeartbeats 2000000 in
theorem again_P {s : ByteArray} {b i : Nat} {wr ou fu : Bool} {t : Tree} {x : PC} {w : World} (hb : BlkR w b s i wr ou fu) (hr : rightT t = true) (hx : HT w t x) :
    Calls Tryd.prog 67 #[.pointer (some ⟨b, 0, none⟩), x.v] w fun e w' => ∃ r : PC, e = .returned r.v ∧ HO (fun g => w.heap.size + 2 ≤ g ∧ g < w'.heap.size) w' (keptM (plusT t)).1 r ∧ Ex b w w' ∧ BlkR w' b s i wr ou (fu || (keptM (plusT t)).2) := by
  have HX : Hid (HT w t x) := hx
  have HB : Hid (BlkR w b s i wr ou fu) := hb
  have hlt := hb.lt
  have kt : ∀ W, HT W t x → Calls Tryd.prog 84 #[x.v, .int .i64 1, .int .i64 (-1)] W fun e w' => PostT (if rightT (plusT t) = true then (plusT t, 0) else (zeroT, 6)) W e w' := fun W h => by
    have := times_any t x 1 (-1) W (ok_right hr) h (by omega) (by omega)
    rw [times_plus hr] at this
    exact this
  obtain ⟨xk, ⟨x1, x2, x3⟩, x4, x5, x6⟩ := x
  have HI : Hid (KI b s i wr ou fu w ⟨xk, ⟨x1, x2, x3⟩, ⟨x4, x5, x6⟩⟩ ((w.alloc (.cells #[.int .i64 xk, .slice x1 x2 x3, .slice x4 x5 x6] 25)).alloc (.cells #[.int .i64 0, .slice none 0 0, .slice none 0 0] 25))) :=
    ⟨bstep (bel_alloc _ _) (bel_alloc _ _), (Blk.new _ _ _).alloc _, Blk.new' _ _ _ _ (by simp)⟩
  have kf : ∀ W, BlkR W b s i wr ou fu → Calls Tryd.prog 45 #[.pointer (some ⟨b, 0, none⟩)] W fun e w' => e = .returned (PC.v ⟨2, ⟨none, 0, 0⟩, ⟨none, 0, 0⟩⟩) ∧ Ex b W w' ∧ BlkR w' b s i wr ou true := fun W h => tooFull_any h
  cases hp : rightT (plusT t) with
  | true =>
    rw [if_pos hp] at kt
    have HK2 : Hid (keptM (plusT t) = (plusT t, false)) := by show _ = _; unfold keptM; rw [if_pos hp]
    clear hx hb hr hp kf
    go_enter Tryd.func67, Tryd.ntmps67
    go_wp2_with (go_at_call 84; refine (kt _ (HX.out.bel' HI.out.bel)).mono ?_; rintro _ w2 ⟨⟨rk, ⟨r1, r2, r3⟩, r4, r5, r6⟩, rfl, ho2, bb2⟩; have I2 : Hid (KI b s i wr ou fu w ⟨xk, ⟨x1, x2, x3⟩, ⟨x4, x5, x6⟩⟩ (w2.alloc (.cells #[.int .i64 rk, .slice r1 r2 r3, .slice r4 r5 r6] 25))) := (HI.out.go bb2).go (bel_alloc _ _); have H2 : Hid (HO (fun g => w.heap.size + 2 ≤ g ∧ g < w2.heap.size) w2 (plusT t) ⟨rk, ⟨r1, r2, r3⟩, r4, r5, r6⟩) := ho2.low (by simp); obtain ⟨y0, y1, y2⟩ := BlkT.cs I2.out.res; have z0 := I2.out.res.frozen; clear ho2 bb2)
    refine bodyPost_ret (v := PC.v ⟨rk, ⟨r1, r2, r3⟩, ⟨r4, r5, r6⟩⟩) ?_ rfl ⟨_, rfl, ?_, Ex.of_bel (set3_bel I2.out.bel (by omega) _ _ _), ?_⟩
    · simp [results, Tryd.results67]
      have B := blk_put3 I2.out.res ⟨rk, ⟨r1, r2, r3⟩, ⟨r4, r5, r6⟩⟩
      simp only at B
      generalize hW7 : World.setCell _ _ _ = W7 at B ⊢
      exact run_ptv B
    · rw [HK2.out]
      refine HO.same ?_ ?_ (H2.out.bel (bel_alloc _ (.cells #[.int .i64 rk, .slice r1 r2 r3, .slice r4 r5 r6] 25)))
      · intro g hg
        exact ⟨hg.1, by simpa using hg.2⟩
      · intro g hg
        exact heap_set3 (by omega) _ _ _
    · rw [HK2.out, Bool.or_false]
      exact HB.out.bel (set3_bel I2.out.bel (by omega) _ _ _)
  | false =>
    rw [if_neg (by rw [hp]; decide)] at kt
    have HK2 : Hid (keptM (plusT t) = (emT, true)) := by show _ = _; unfold keptM; rw [if_neg (by rw [hp]; decide)]
    clear hx hb hr hp
    go_enter Tryd.func67, Tryd.ntmps67
    go_wp2_with (first
      | (go_at_call 84; refine (kt _ (HX.out.bel' HI.out.bel)).mono ?_; rintro _ w2 ⟨⟨rk, ⟨r1, r2, r3⟩, r4, r5, r6⟩, rfl, ho2, bb2⟩; have I2 : Hid (KI b s i wr ou fu w ⟨xk, ⟨x1, x2, x3⟩, ⟨x4, x5, x6⟩⟩ (w2.alloc (.cells #[.int .i64 rk, .slice r1 r2 r3, .slice r4 r5 r6] 25))) := (HI.out.go bb2).go (bel_alloc _ _); have B2 : Hid (BlkR (w2.alloc (.cells #[.int .i64 rk, .slice r1 r2 r3, .slice r4 r5 r6] 25)) b s i wr ou fu) := HB.out.bel I2.out.bel; clear ho2 bb2)
      | (go_at_call 45; refine (kf _ B2.out).mono ?_; rintro _ w3 ⟨rfl, ex3, b3⟩; have E3 : Hid (Ex b w w3) := (Ex.of_bel I2.out.bel).trans ex3; have B3 : Hid (BlkR w3 b s i wr ou true) := b3; have R3 : Hid (Blk w3 (w.heap.size + 1) (encT ⟨0, ⟨none, 0, 0⟩, ⟨none, 0, 0⟩⟩).toArray 25) := Blk.ex ex3 I2.out.res (by omega); obtain ⟨y0, y1, y2⟩ := BlkT.cs R3.out; have z0 := R3.out.frozen; clear ex3 b3))
    refine bodyPost_ret (v := PC.v ⟨2, ⟨none, 0, 0⟩, ⟨none, 0, 0⟩⟩) ?_ rfl ⟨_, rfl, ?_, set3_ex E3.out (by omega) _ _ _, ?_⟩
    · simp [results, Tryd.results67]
      have B := blk_put3 R3.out ⟨2, ⟨none, 0, 0⟩, ⟨none, 0, 0⟩⟩
      simp only at B
      generalize hW7 : World.setCell _ _ _ = W7 at B ⊢
      exact run_ptv B
    · rw [HK2.out]
      exact HO_none 2
    · rw [HK2.out, Bool.or_true]
      exact B3.out.set3 (by omega) _ _ _

set_option maxRecDepth 100000 in
set_option maxHeartbeats 2000000 in
theorem one_any {s : ByteArray} {b i l h : Nat} {wr ou fu : Bool} {w : World} (hb : BlkR w b s i wr ou fu) :
    Calls Tryd.prog 83 #[.pointer (some ⟨b, 0, none⟩), .int .u64 (min l 4294967296 : Nat), .int .u64 (min h 4294967296 : Nat)] w fun e w' => ∃ r : PC, e = .returned r.v ∧ HO (fun g => w.heap.size ≤ g ∧ g < w'.heap.size) w' (numT l h) r ∧ Ex b w w' ∧ BlkR w' b s i wr (ou || oneO l h) fu := by
  obtain ⟨L, hL⟩ : ∃ L, L = min l 4294967296 := ⟨_, rfl⟩
  obtain ⟨M, hM⟩ : ∃ M, M = min h 4294967296 := ⟨_, rfl⟩
  rw [← hL, ← hM]
  have HB : Hid (BlkR w b s i wr ou fu) := hb
  have hlt := hb.lt
  have n1 : b ≠ w.heap.size := by omega
  have n2 : w.heap.size ≠ b := by omega
  have bL : L ≤ 4294967296 := by omega
  have bM : M ≤ 4294967296 := by omega
  have HO1 : Hid (oneO l h = (decide (4294967295 < M) || decide (M < L))) := by
    show _ = _
    unfold oneO
    apply Bool.eq_iff_iff.2
    simp
    omega
  have HN : Hid (numT l h = .mk 1 [(if L = 4294967296 then 0 else (L : Int), if M = 4294967296 then 0 else (M : Int))] []) := by
    show _ = _
    unfold numT
    unfold YtihnmamejfoeeaaDoor.wr
    have a1 : (if 4294967295 < l then (0 : Int) else (l : Int)) = if L = 4294967296 then 0 else (L : Int) := by split <;> split <;> omega
    have a2 : (if 4294967295 < h then (0 : Int) else (h : Int)) = if M = 4294967296 then 0 else (M : Int) := by split <;> split <;> omega
    rw [a1, a2]
  clear hL hM hb
  have f3 := (HB.out.alloc (.cells #[.int .i64 0, .slice none 0 0, .slice none 0 0] 25)).frozen 3
  have c3 := (HB.out.alloc (.cells #[.int .i64 0, .slice none 0 0, .slice none 0 0] 25)).c 3
  simp at c3
  have w1 : (if L = 4294967296 then (0 : Int) else (L : Int)) = (L : Int) % 4294967296 := by split <;> omega
  have w2 : (if M = 4294967296 then (0 : Int) else (M : Int)) = (M : Int) % 4294967296 := by split <;> omega
  by_cases c1 : 4294967295 < M
  · have d1 : decide ((4294967295 : Int) < (M : Int)) = true := by simp; omega
    have HQ : Hid ((decide (4294967295 < M) || decide (M < L)) = true) := by show _ = _; simp [c1]
    clear c1
    go_enter Tryd.func83, Tryd.ntmps83
    go_wp2_with fail
    refine bodyPost_ret (v := PC.v ⟨1, ⟨some ⟨w.heap.size + 1, 0, none⟩, 1, 1⟩, ⟨none, 0, 0⟩⟩) ?_ rfl ⟨_, rfl, ?_, (((Ex.refl b w).setB 3 _).alloc _).alloc _, ?_⟩
    · simp [results, Tryd.results83]
      exact run_ptv (x := ⟨1, ⟨some ⟨w.heap.size + 1, 0, none⟩, 1, 1⟩, ⟨none, 0, 0⟩⟩) ((Blk.new' _ _ _ _ (by simp)).alloc _)
    · rw [HN.out, w1, w2]
      exact HO_one (Blk.new' _ _ _ _ (by simp)) (by first | rfl | (simp [cellsOf, encS]; omega)) ⟨by omega, by simp⟩
    · rw [HO1.out]
      rw [HQ.out, Bool.or_true]
      exact ((HB.out.set 3 (.bool true)).alloc _).alloc _
  · have d1 : decide ((4294967295 : Int) < (M : Int)) = false := by simp; omega
    by_cases c2 : M < L
    · have d2 : decide (M < L) = true := by simpa using c2
      have HQ : Hid ((decide (4294967295 < M) || decide (M < L)) = true) := by show _ = _; simp [c2]
      clear c1 c2
      go_enter Tryd.func83, Tryd.ntmps83
      go_wp2_with fail
      refine bodyPost_ret (v := PC.v ⟨1, ⟨some ⟨w.heap.size + 1, 0, none⟩, 1, 1⟩, ⟨none, 0, 0⟩⟩) ?_ rfl ⟨_, rfl, ?_, (((Ex.refl b w).setB 3 _).alloc _).alloc _, ?_⟩
      · simp [results, Tryd.results83]
        exact run_ptv (x := ⟨1, ⟨some ⟨w.heap.size + 1, 0, none⟩, 1, 1⟩, ⟨none, 0, 0⟩⟩) ((Blk.new' _ _ _ _ (by simp)).alloc _)
      · rw [HN.out, w1, w2]
        exact HO_one (Blk.new' _ _ _ _ (by simp)) (by first | rfl | (simp [cellsOf, encS]; omega)) ⟨by omega, by simp⟩
      · rw [HO1.out]
        rw [HQ.out, Bool.or_true]
        exact ((HB.out.set 3 (.bool true)).alloc _).alloc _
    · have d2 : decide (M < L) = false := by simpa using c2
      have HQ : Hid ((decide (4294967295 < M) || decide (M < L)) = false) := by show _ = _; simp [c1, c2]
      clear c1 c2
      go_enter Tryd.func83, Tryd.ntmps83
      go_wp2_with fail
      refine bodyPost_ret (v := PC.v ⟨1, ⟨some ⟨w.heap.size + 1, 0, none⟩, 1, 1⟩, ⟨none, 0, 0⟩⟩) ?_ rfl ⟨_, rfl, ?_, ((Ex.refl b w).alloc _).alloc _, ?_⟩
      · simp [results, Tryd.results83]
        exact run_ptv (x := ⟨1, ⟨some ⟨w.heap.size + 1, 0, none⟩, 1, 1⟩, ⟨none, 0, 0⟩⟩) ((Blk.new' _ _ _ _ (by simp)).alloc _)
      · rw [HN.out, w1, w2]
        exact HO_one (Blk.new' _ _ _ _ (by simp)) (by first | rfl | (simp [cellsOf, encS]; omega)) ⟨by omega, by simp⟩
      · rw [HO1.out]
        rw [HQ.out, Bool.or_false]
        exact (HB.out.alloc _).alloc _

end Go.Proofs.YtihnmamejfoeeaaDoor
