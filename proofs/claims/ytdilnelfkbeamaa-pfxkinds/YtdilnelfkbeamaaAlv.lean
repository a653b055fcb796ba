/-
  The walk of alive: the document's examples.
-/
import Derived.Test.YtdilnelfkbeamaaW12
import Derived.Test.YtdilnelfkbeamaaW13
namespace Go.Proofs.Ytdilnelfkbeamaa
open Go.RowKit

/-- A block's cells as a row. -/
theorem RowX.of_blk {α : Type} {f : α → List Value} {n : Nat} {W : World} {b : Nat} {cs : Array Value} {t : TypeId} {l : List α} (hf : ∀ x, (f x).length = n) (h : Blk W b cs t) (hcs : cs.toList = cellsOf f l) (m cap : Nat) (hm : m = l.length) : RowX f n W (.slice (some ⟨b, 0, none⟩) m cap) l := by
  subst hm
  refine ⟨_, cap, rfl, fun _ => ⟨b, 0, rfl, h.lt, fun i x hx j c hc => ?_⟩, fun h => by cases h⟩
  rw [h.c, ← Array.getElem?_toList, hcs, Nat.zero_add]
  exact cellsOf_at hf l i x hx j c hc

theorem aliveFlat : flatV [⟨true, 167772160, 8, 8, 8⟩, ⟨false, 167772160, 8, 8, 9⟩] = ([⟨167772160, 8, 9, 9⟩], 0) := by kernel_rfl
theorem aliveMinus : minusR ⟨0, 0, 0, 2⟩ ⟨2147483648, 1, 1, 2⟩ = [⟨0, 0, 0, 0⟩, ⟨0, 1, 1, 2⟩] := by kernel_rfl
theorem aliveIn1 : inR ⟨167772160, 8, 16, 24⟩ ⟨167837696, 16⟩ = true := by kernel_rfl
theorem aliveIn2 : inR ⟨167772160, 8, 16, 24⟩ ⟨167772160, 8⟩ = false := by kernel_rfl

theorem num_lit {n : Int} (h : 0 ≤ n ∧ n ≤ 4294967295) : Num n := h

set_option maxHeartbeats 2000000 in
theorem alive_any (w : World) : Calls Try.prog 10 #[] w fun e w' => e = .returned (.bool true) ∧ Below w.heap.size w w' := by
  have kf := fun (v : Value) (W : World) (h : RowE W v [⟨true, 167772160, 8, 8, 8⟩, ⟨false, 167772160, 8, 8, 9⟩]) => flat_any v _ W (fun x hx => by simp at hx; rcases hx with rfl | rfl <;> exact num_lit (by decide)) (by simp) h
  have km := fun (W : World) => minus_any ⟨0, 0, 0, 2⟩ ⟨2147483648, 1, 1, 2⟩ (num_lit (by decide)) (num_lit (by decide)) W
  have k1 := fun (W : World) => in_any ⟨167772160, 8, 16, 24⟩ ⟨167837696, 16⟩ (num_lit (by decide)) (num_lit (by decide)) W
  have k2 := fun (W : World) => in_any ⟨167772160, 8, 16, 24⟩ ⟨167772160, 8⟩ (num_lit (by decide)) (num_lit (by decide)) W
  rw [aliveMinus] at km
  rw [aliveFlat] at kf
  rw [aliveIn1] at k1
  rw [aliveIn2] at k2
  go_enter Try.func10, Try.ntmps10
  go_wp2_with fail
  refine (ten_any _ _ _).mono ?_
  rintro _ w1 ⟨rfl, g1⟩
  go_wp2_with fail
  refine (ten_any _ _ _).mono ?_
  rintro _ w2 ⟨rfl, g2⟩
  have B2 : Hid (Below w.heap.size w w2) := (g1.trans g2).below
  clear g1 g2
  go_wp2_with fail
  refine (kf _ _ (RowX.of_blk encE_len (Blk.new _ _ _) (by simp [cellsOf, encE]) _ _ rfl)).mono ?_
  rintro _ w3 ⟨v3, rfl, o3, b3⟩
  have B3 : Hid (Below w.heap.size w w3) := bstep (B2.out.alloc B2.out.size _) b3
  have O3 : Hid (RowG w3 v3 [⟨167772160, 8, 9, 9⟩]) := o3.row encG_len
  obtain ⟨ao3, cap3, rfl⟩ := o3.form
  clear b3 o3 B2
  go_wp2_with fail
  refine (km _).mono ?_
  rintro _ w4 ⟨v4, rfl, o4, b4⟩
  have B4 : Hid (Below w.heap.size w w4) := bstep B3.out b4
  have O3' : Hid (RowG w4 _ [⟨167772160, 8, 9, 9⟩]) := O3.out.bel b4
  have O4 : Hid (RowG w4 v4 [⟨0, 0, 0, 0⟩, ⟨0, 1, 1, 2⟩]) := o4.row encG_len
  obtain ⟨ao4, cap4, rfl⟩ := o4.form
  clear b4 o4 B3 O3
  go_wp2_with fail
  refine (ten_any _ _ _).mono ?_
  rintro _ w5 ⟨rfl, g5⟩
  go_wp2_with fail
  refine (k1 _).mono ?_
  rintro _ w6 ⟨rfl, g6⟩
  go_wp2_with fail
  refine (ten_any _ _ _).mono ?_
  rintro _ w7 ⟨rfl, g7⟩
  go_wp2_with fail
  refine (k2 _).mono ?_
  rintro _ w8 ⟨rfl, g8⟩
  go_wp2_with fail
  refine (ten_any _ _ _).mono ?_
  rintro _ w9 ⟨rfl, g9⟩
  have G9 : Hid (Gr w4 w9) := (((g5.trans g6).trans g7).trans g8).trans g9
  clear g5 g6 g7 g8 g9
  go_wp2_with fail
  refine (same_true _ _ [⟨167772160, 8, 9, 9⟩] _ (by simp) ((O3'.out.gr G9.out).gr ((Gr.refl _).alloc _)) (RowX.of_blk encG_len (Blk.new _ _ _) (by simp [cellsOf, encG]) _ _ rfl)).mono ?_
  rintro _ wa ⟨rfl, ga⟩
  have GA : Hid (Gr w4 wa) := (G9.out.alloc _).trans ga
  clear ga
  go_wp2_with fail
  refine (same_true _ _ [⟨0, 0, 0, 0⟩, ⟨0, 1, 1, 2⟩] _ (by simp) ((O4.out.gr GA.out).gr ((Gr.refl _).alloc _)) (RowX.of_blk encG_len (Blk.new _ _ _) (by simp [cellsOf, encG]) _ _ rfl)).mono ?_
  rintro _ wb ⟨rfl, gb⟩
  have GB : Hid (Gr w4 wb) := (GA.out.alloc _).trans gb
  clear gb
  go_wp2_with fail
  go_ret
  exact ⟨rfl, bstep B4.out GB.out.below⟩

end Go.Proofs.Ytdilnelfkbeamaa
