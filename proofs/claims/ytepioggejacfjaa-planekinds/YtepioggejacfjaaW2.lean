/-
  Walks: In of both packages; Meet of both.
-/
import Derived.Test.YtepioggejacfjaaW1
import Derived.Test.YtepioggejacfjaaRow
import Derived.BigQuiet
import Derived.Deep.QuietTactic
import Derived.Laws.StructEq
import Derived.Shelf.SlSortCmp.QuietGrown
namespace Go.Proofs.Ytepioggejacfjaa
open Go.RowKit

theorem ret_bool {a b : Bool} (h : a = b) : Ending.returned (.bool a) = .returned (.bool b) := by rw [h]

theorem below_drewN {B : Nat} {a w : World} (h : Below B a w) : ∀ n, Below B a (w.drewN n) := fun _ => ⟨h.os, h.tape, h.output, h.size, h.block⟩

/-- w' is w, some draws on, with new blocks laid behind. -/
abbrev Grown (w w' : World) : Prop := ∃ q os', w' = Sort.grow (w.drewN q) os'

theorem below_grow {B : Nat} {a w : World} (h : Below B a w) (hs : B ≤ w.heap.size) (n : Nat) (os : Array Obj) : Below B a (Sort.grow (w.drewN n) os) :=
  ⟨h.os, h.tape, h.output, by have := h.size; simp; exact Nat.le_trans this (Nat.le_add_right _ _), fun k hk => by
    show (w.heap ++ os)[k]? = _
    rw [Array.getElem?_append_left (by omega)]
    exact h.block k hk⟩

theorem Grown.below {w w' : World} (h : Grown w w') : Below w.heap.size w w' := by
  obtain ⟨q, os, rfl⟩ := h
  exact below_grow (Below.refl _ _) (Nat.le_refl _) q os

theorem Grown.alloc (w : World) (o : Obj) (n : Nat) : Grown w ((w.alloc o).drewN n) := ⟨n, #[o], by rw [Go.Sort.alloc_eq_grow]; rfl⟩

theorem Grown.refl (w : World) : Grown w w := ⟨0, #[], (Go.Sort.grow_empty w).symm⟩

theorem Grown.trans {a b c : World} (h : Grown a b) (k : Grown b c) : Grown a c := by
  obtain ⟨q, os, rfl⟩ := h
  obtain ⟨r, ps, rfl⟩ := k
  exact ⟨q + r, os ++ ps, by show Sort.grow (Sort.grow ((a.drewN q).drewN r) os) ps = _; rw [Go.Sort.grow_grow, World.drewN_drewN]⟩

set_option maxHeartbeats 400000 in
theorem in_any (b : Sp) (c : Int) (hb : Bx b) (hc : Num c) (w : World) :
    Calls Try.prog 9 #[.agg #[.int .u32 b.1, .int .u32 b.2], .int .u32 c] w fun e w' => e = .returned (.bool (inB b c)) ∧ ∃ q os', w' = Sort.grow (w.drewN q) os' := by
  obtain ⟨⟨l0, l1⟩, ⟨k0, k1⟩⟩ := hb
  obtain ⟨c0, c1⟩ := hc
  have p1 := fun W => point_any b.1 l0 l1 W
  have p2 := fun W => point_any c c0 c1 W
  have p3 := fun W => point_any b.2 k0 k1 W
  have u1 := fun W => upTo_any (b.1 / 65536) (b.1 % 65536) (c / 65536) (c % 65536) (by omega) (by omega) (by omega) (by omega) (by omega) (by omega) (by omega) (by omega) W
  have u2 := fun W => upTo_any (c / 65536) (c % 65536) (b.2 / 65536) (b.2 % 65536) (by omega) (by omega) (by omega) (by omega) (by omega) (by omega) (by omega) (by omega) W
  unfold inB
  generalize (decide (b.1 / 65536 ≤ c / 65536) && decide (b.1 % 65536 ≤ c % 65536)) = r1 at *
  generalize (decide (c / 65536 ≤ b.2 / 65536) && decide (c % 65536 ≤ b.2 % 65536)) = r2 at *
  go_enter Try.func9, Try.ntmps9
  go_wp2_with fail
  go_quiet (first | (go_at_call 19; first | (with_reducible exact Calls.quiet_of_same (p1 _)) | (with_reducible exact Calls.quiet_of_same (p2 _)) | (with_reducible exact Calls.quiet_of_same (p3 _))))
  cases r1 <;> (
    go_wp2_with (go_at_call 20; first | (with_reducible refine (u1 _).mono ?_; rintro e w1 ⟨rfl, rfl⟩) | (with_reducible refine (u2 _).mono ?_; rintro e w1 ⟨rfl, rfl⟩))
    go_ret
    exact ⟨rfl, Grown.alloc _ _ _⟩)

set_option maxHeartbeats 400000 in
theorem rin_any (b : Sp) (c : Int) (hb : Bx b) (hc : Num c) (w : World) :
    Calls Try.prog 10 #[.agg #[.int .u32 b.1, .int .u32 b.2], .int .u32 c] w fun e w' => e = .returned (.bool (inB b c)) ∧ ∃ q os', w' = Sort.grow (w.drewN q) os' := by
  obtain ⟨⟨l0, l1⟩, ⟨k0, k1⟩⟩ := hb
  obtain ⟨c0, c1⟩ := hc
  unfold inB
  go_enter Try.func10, Try.ntmps10
  go_wp2
  all_goals
    go_ret
    refine ⟨ret_bool ?_, Grown.alloc _ _ 0⟩
    have q : ∀ p : Prop, [Decidable p] → ¬ p → decide p = false := fun p _ h => decide_eq_false h
    first
      | rw [decide_eq_true ‹b.1 / 65536 ≤ c / 65536›, decide_eq_true ‹c / 65536 ≤ b.2 / 65536›, decide_eq_true ‹b.1 % 65536 ≤ c % 65536›]; simp
      | (rw [q (b.1 % 65536 ≤ c % 65536) (by omega)]; simp; done)
      | (rw [q (c / 65536 ≤ b.2 / 65536) (by omega)]; simp; done)
      | (rw [q (b.1 / 65536 ≤ c / 65536) (by omega)]; simp; done)

/-- What Meet answers. -/
def meetV (a b : Sp) : Value := if some2 a b then .tuple #[.agg #[.int .u32 (meetB a b).1, .int .u32 (meetB a b).2], .bool true] else .tuple #[.agg #[.int .u32 0, .int .u32 0], .bool false]

set_option maxHeartbeats 1000000 in
theorem meet_any (a b : Sp) (ha : Bx a) (hb : Bx b) (w : World) :
    Calls Try.prog 13 #[.agg #[.int .u32 a.1, .int .u32 a.2], .agg #[.int .u32 b.1, .int .u32 b.2]] w fun e w' => e = .returned (meetV a b) ∧ Below w.heap.size w w' := by
  obtain ⟨⟨l0, l1⟩, ⟨k0, k1⟩⟩ := ha
  obtain ⟨⟨m0, m1⟩, ⟨n0, n1⟩⟩ := hb
  have p1 := fun W => point_any a.1 l0 l1 W
  have p2 := fun W => point_any b.1 m0 m1 W
  have p3 := fun W => point_any a.2 k0 k1 W
  have p4 := fun W => point_any b.2 n0 n1 W
  have g1 := fun W => greater_any (a.1 / 65536) (a.1 % 65536) (b.1 / 65536) (b.1 % 65536) (by omega) (by omega) (by omega) (by omega) (by omega) (by omega) (by omega) (by omega) W
  have g2 := fun W => lesser_any (a.2 / 65536) (a.2 % 65536) (b.2 / 65536) (b.2 % 65536) (by omega) (by omega) (by omega) (by omega) (by omega) (by omega) (by omega) (by omega) W
  have u1 := fun W => upTo_any (max (a.1 / 65536) (b.1 / 65536)) (max (a.1 % 65536) (b.1 % 65536)) (min (a.2 / 65536) (b.2 / 65536)) (min (a.2 % 65536) (b.2 % 65536)) (by omega) (by omega) (by omega) (by omega) (by omega) (by omega) (by omega) (by omega) W
  have q1 := fun W => community_any (max (a.1 / 65536) (b.1 / 65536)) (max (a.1 % 65536) (b.1 % 65536)) (by omega) (by omega) (by omega) (by omega) W
  have q2 := fun W => community_any (min (a.2 / 65536) (b.2 / 65536)) (min (a.2 % 65536) (b.2 % 65536)) (by omega) (by omega) (by omega) (by omega) W
  obtain ⟨mv, hmv⟩ : ∃ mv, mv = meetV a b := ⟨_, rfl⟩
  have HV : Hid (mv = meetV a b) := hmv
  rw [← hmv]
  clear hmv
  unfold meetV at HV
  change ∀ W, Calls _ _ _ _ (fun e w' => e = Ending.returned (.bool (some2 a b)) ∧ w' = W) at u1
  change ∀ W, Calls _ _ _ _ (fun e w' => e = Ending.returned (.int .u32 (meetB a b).1) ∧ w' = W) at q1
  change ∀ W, Calls _ _ _ _ (fun e w' => e = Ending.returned (.int .u32 (meetB a b).2) ∧ w' = W) at q2
  generalize (meetB a b).1 = r1 at *
  generalize (meetB a b).2 = r2 at *
  generalize max (a.1 / 65536) (b.1 / 65536) = x1 at *
  generalize max (a.1 % 65536) (b.1 % 65536) = x2 at *
  generalize min (a.2 / 65536) (b.2 / 65536) = x3 at *
  generalize min (a.2 % 65536) (b.2 % 65536) = x4 at *
  generalize some2 a b = r at *
  go_enter Try.func13, Try.ntmps13
  go_wp2_with fail
  go_quiet (first | (go_at_call 19; first | (with_reducible exact Calls.quiet_of_same (p1 _)) | (with_reducible exact Calls.quiet_of_same (p2 _))) | (go_at_call 23; with_reducible exact Calls.quiet_of_same (g1 _)))
  go_wp2_with fail
  generalize hW1 : World.drewN _ nq = W1
  have c1 : ∀ n, (W1.drewN n).cell? ⟨w.heap.size, 1, none⟩ = some (.int .u32 a.2) := fun n => by rw [← hW1]; simp [go_sem]
  have c2 : ∀ n, (W1.drewN n).cell? ⟨w.heap.size + 1, 1, none⟩ = some (.int .u32 b.2) := fun n => by rw [← hW1]; simp [go_sem]
  have HW : Hid (World.drewN _ nq = W1) := hW1
  clear hW1
  go_quiet (first | (go_at_call 19; first | (with_reducible exact Calls.quiet_of_same (p3 _)) | (with_reducible exact Calls.quiet_of_same (p4 _))) | (go_at_call 24; with_reducible exact Calls.quiet_of_same (g2 _)))
  have hW := HW.out
  subst hW
  clear c1 c2 HW
  cases r with
  | true =>
    go_wp2_with (first | (go_at_call 20; with_reducible refine (u1 _).mono ?_; rintro e w1 ⟨rfl, rfl⟩) | (go_at_call 25; first | (with_reducible refine (q1 _).mono ?_; rintro e w1 ⟨rfl, rfl⟩) | (with_reducible refine (q2 _).mono ?_; rintro e w1 ⟨rfl, rfl⟩)))
    exact bodyPost_ret (v := .tuple #[.agg #[.int .u32 r1, .int .u32 r2], .bool true]) (by simp [results, Try.results13, go_sem]) rfl ⟨by rw [HV.out]; rfl, ((below_drewN ((((Below.refl _ _).alloc (Nat.le_refl _) _).alloc (by simp) _).alloc (by simp; omega) _) _).setCell (by simp; omega) _).setCell (by simp; omega) _⟩
  | false =>
    go_wp2_with (first | (go_at_call 20; with_reducible refine (u1 _).mono ?_; rintro e w1 ⟨rfl, rfl⟩))
    exact bodyPost_ret (v := .tuple #[.agg #[.int .u32 0, .int .u32 0], .bool false]) (by simp [results, Try.results13, go_sem]) rfl ⟨by rw [HV.out]; rfl, ((below_drewN ((((Below.refl _ _).alloc (Nat.le_refl _) _).alloc (by simp) _).alloc (by simp; omega) _) _).setCell (by simp; omega) _).setCell (by simp; omega) _⟩

end Go.Proofs.Ytepioggejacfjaa
