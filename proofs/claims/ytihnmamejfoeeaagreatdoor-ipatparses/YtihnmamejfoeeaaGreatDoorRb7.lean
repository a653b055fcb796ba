/-
  The walk of Parse.
-/
import Derived.Test.YtihnmamejfoeeaaGreatDoorRb6
namespace Go.Proofs.YtihnmamejfoeeaaGreatDoor
open Go.RowKit

theorem Ex.toBel {b : Nat} {w W w' : World} (h : Ex b W w') (hB : Below w.heap.size w W) (hb : w.heap.size ≤ b) : Below w.heap.size w w' :=
  ⟨h.os.trans hB.os, h.tape.trans hB.tape, h.output.trans hB.output, Nat.le_trans hB.size h.size, fun k hk => (h.block k (Nat.lt_of_lt_of_le hk hB.size) (by omega)).trans (hB.block k hk)⟩

/-- Between the steps: the result's cells, the reader, what was read. -/
structure QI (s : ByteArray) (w : World) (wr ou fu : Bool) (t : Tree) (x : PC) (b4 : Nat) (W : World) : Prop where
  bel : Below w.heap.size w W
  res : Blk W w.heap.size (encT ⟨0, ⟨none, 0, 0⟩, ⟨none, 0, 0⟩⟩).toArray 26
  rd : ∃ i, BlkR W (w.heap.size + 1) s i wr ou fu
  box : Blk W b4 (encT x).toArray 26
  ho : HO (fun g => w.heap.size + 2 ≤ g ∧ g < W.heap.size) W t x
  rt : rightT t = true

set_option maxRecDepth 100000 in
set_option maxHeartbeats 4000000 in
theorem parse_any (s : ByteArray) (w : World) : Calls Tryz.prog 6 #[.string s] w fun e w' => PostT (parseM s.data.toList) w e w' ∧ ((parseM s.data.toList).2 = 0 → rightT (parseM s.data.toList).1 = true) := by
  have hlen : s.data.toList.length = s.size := by rw [Array.length_toList]; rfl
  have hW : Blk (w.alloc (.cells #[.int .i64 0, .slice none 0 0, .slice none 0 0] 26)) w.heap.size (encT ⟨0, ⟨none, 0, 0⟩, ⟨none, 0, 0⟩⟩).toArray 26 := Blk.new _ _ _
  by_cases c : 2000 < s.size
  · have e1 : decide ((2000 : Int) < (s.size : Int)) = true := by simp <;> omega
    have HP : Hid (parseM s.data.toList = (zeT, 6)) := by show _ = _; unfold parseM; rw [hlen, if_pos c]
    rw [HP.out]
    clear hlen HP hW
    go_enter Tryz.func6, Tryz.ntmps6
    go_wp2_with fail
    refine bodyPost_ret (v := .tuple #[PC.v ⟨0, ⟨none, 0, 0⟩, ⟨none, 0, 0⟩⟩, .int .i64 6]) ?_ rfl ⟨⟨_, rfl, HO_none 0, ?_⟩, fun h => by cases h⟩
    · simp [results, Tryz.results6, go_sem]
    · exact bel_alloc _ _
  · have e1 : decide ((2000 : Int) < (s.size : Int)) = false := by simp <;> omega
    have kp : ∀ W, BlkR W (w.heap.size + 1) s 0 false false false → Calls Tryz.prog 14 #[.pointer (some ⟨w.heap.size + 1, 0, none⟩)] W fun e w' => PatP s (w.heap.size + 1) W e w' := fun W h => pattern_any (by omega) h
    have HP : Hid (parseM s.data.toList = match patM s.data.toList with | none => (zeT, 4) | some (t, o, f) => if o then (zeT, 5) else if f then (zeT, 6) else (t, 0)) := by show _ = _; unfold parseM; rw [hlen, if_neg c]; rfl
    clear hlen c
    go_enter Tryz.func6, Tryz.ntmps6
    go_upto_region 5 with (go_at_call 14; refine (kp _ (Blk.new' _ _ _ _ (by simp))).mono ?_; rintro _ w3 ⟨⟨x0, ⟨x1, x2, x3⟩, x4, x5, x6⟩, t, i', wr, ou, fu, rfl, ho3, hk3, ex3, b3, d3⟩; have B3 : Below w.heap.size w w3 := ex3.toBel (bstep (bel_alloc _ _) (bel_alloc _ _)) (by omega); have I4 : Hid (QI s w wr ou fu t ⟨x0, ⟨x1, x2, x3⟩, ⟨x4, x5, x6⟩⟩ w3.heap.size (w3.alloc (.cells #[.int .i64 x0, .slice x1 x2 x3, .slice x4 x5 x6] 26))) := ⟨bstep B3 (bel_alloc _ _), (Blk.ex ex3 (hW.alloc _) (by omega)).alloc _, ⟨i', b3.alloc _⟩, Blk.new _ _ _, HO.bel (HO.low ho3 (by simp)) (bel_alloc _ _), hk3⟩; have D3 : Hid ((patM s.data.toList = none ∧ wr = true) ∨ (wr = false ∧ patM s.data.toList = some (t, ou, fu))) := d3; clear ho3 hk3 ex3 b3 d3 B3)
    clear hW kp
    generalize hWS : World.alloc _ _ = WS at I4 ⊢
    have I5 := I4
    clear I4 hWS
    have I4 : Hid (QI s w wr ou fu t ⟨x0, ⟨x1, x2, x3⟩, ⟨x4, x5, x6⟩⟩ w3.heap.size WS) := I5.out
    clear I5
    generalize w3.heap.size = b4 at I4 ⊢
    obtain ⟨i', hrd⟩ := I4.out.rd
    have g2 := hrd.c 2
    have g3 := hrd.c 3
    have g4 := hrd.c 4
    simp at g2 g3 g4
    obtain ⟨y0, y1, y2⟩ := BlkT.cs I4.out.res
    have z0 := I4.out.res.frozen
    obtain ⟨m0, m1, m2⟩ := BlkT.cs I4.out.box
    simp only at m0 m1 m2
    have HRD : Hid (BlkR WS (w.heap.size + 1) s i' wr ou fu) := hrd
    clear hrd
    cases wr with
    | true =>
      have HPQ : Hid (parseM s.data.toList = (zeT, 4)) := by
        rcases D3.out with ⟨h1, _⟩ | ⟨h1, _⟩
        · show _ = _; rw [HP.out, h1]
        · cases h1
      clear HP D3
      go_wp2_with fail
      refine bodyPost_ret (v := .tuple #[PC.v ⟨0, ⟨none, 0, 0⟩, ⟨none, 0, 0⟩⟩, .int .i64 4]) ?_ rfl (by rw [HPQ.out]; exact ⟨⟨_, rfl, HO_none 0, set3_bel I4.out.bel (Nat.le_refl _) _ _ _⟩, fun h => by cases h⟩)
      have B := blk_put3 I4.out.res ⟨0, ⟨none, 0, 0⟩, ⟨none, 0, 0⟩⟩
      simp only at B
      generalize hW7 : World.setCell _ _ _ = W7 at B ⊢
      obtain ⟨b0, b1, b2⟩ := BlkT.cs B
      simp only at b0 b1 b2
      simp [results, Tryz.results6, go_sem, b0, b1, b2]
    | false =>
    have HP2 : Hid (parseM s.data.toList = if ou then (zeT, 5) else if fu then (zeT, 6) else (t, 0)) := by
      rcases D3.out with ⟨_, h1⟩ | ⟨_, h1⟩
      · cases h1
      · show _ = _; rw [HP.out, h1]
    clear HP D3
    cases ou with
    | true =>
      have HPQ : Hid (parseM s.data.toList = (zeT, 5)) := HP2.out
      clear HP2
      go_wp2_with fail
      refine bodyPost_ret (v := .tuple #[PC.v ⟨0, ⟨none, 0, 0⟩, ⟨none, 0, 0⟩⟩, .int .i64 5]) ?_ rfl (by rw [HPQ.out]; exact ⟨⟨_, rfl, HO_none 0, set3_bel I4.out.bel (Nat.le_refl _) _ _ _⟩, fun h => by cases h⟩)
      have B := blk_put3 I4.out.res ⟨0, ⟨none, 0, 0⟩, ⟨none, 0, 0⟩⟩
      simp only at B
      generalize hW7 : World.setCell _ _ _ = W7 at B ⊢
      obtain ⟨b0, b1, b2⟩ := BlkT.cs B
      simp only at b0 b1 b2
      simp [results, Tryz.results6, go_sem, b0, b1, b2]
    | false =>
    cases fu with
    | true =>
      have HPQ : Hid (parseM s.data.toList = (zeT, 6)) := HP2.out
      clear HP2
      go_wp2_with fail
      refine bodyPost_ret (v := .tuple #[PC.v ⟨0, ⟨none, 0, 0⟩, ⟨none, 0, 0⟩⟩, .int .i64 6]) ?_ rfl (by rw [HPQ.out]; exact ⟨⟨_, rfl, HO_none 0, set3_bel I4.out.bel (Nat.le_refl _) _ _ _⟩, fun h => by cases h⟩)
      have B := blk_put3 I4.out.res ⟨0, ⟨none, 0, 0⟩, ⟨none, 0, 0⟩⟩
      simp only at B
      generalize hW7 : World.setCell _ _ _ = W7 at B ⊢
      obtain ⟨b0, b1, b2⟩ := BlkT.cs B
      simp only at b0 b1 b2
      simp [results, Tryz.results6, go_sem, b0, b1, b2]
    | false =>
      have HPQ : Hid (parseM s.data.toList = (t, 0)) := HP2.out
      clear HP2
      go_wp2_with fail
      refine bodyPost_ret (v := .tuple #[PC.v ⟨x0, ⟨x1, x2, x3⟩, ⟨x4, x5, x6⟩⟩, .int .i64 0]) ?_ rfl (by rw [HPQ.out]; exact ⟨⟨_, rfl, HO.same (fun g hg => ⟨by omega, by simpa using hg.2⟩) (fun g hg => heap_set3 (by omega) _ _ _) I4.out.ho, set3_bel I4.out.bel (Nat.le_refl _) _ _ _⟩, fun _ => I4.out.rt⟩)
      have B := blk_put3 I4.out.res ⟨x0, ⟨x1, x2, x3⟩, ⟨x4, x5, x6⟩⟩
      simp only at B
      generalize hW7 : World.setCell _ _ _ = W7 at B ⊢
      obtain ⟨b0, b1, b2⟩ := BlkT.cs B
      simp only at b0 b1 b2
      simp [results, Tryz.results6, go_sem, b0, b1, b2]

end Go.Proofs.YtihnmamejfoeeaaGreatDoor
