/-
  The walk of PatSizes.
-/
import Derived.Test.YtjjlkjfhhpogaaaDoorAl
namespace Go.Proofs.YtjjlkjfhhpogaaaDoor
open Go.RowKit

/-- A law's world: nothing old has turned, the pattern lies in its box. -/
structure BX (w : World) (x : PC) (W : World) : Prop where
  bel : Below w.heap.size w W
  box : Blk W w.heap.size (encT x).toArray 25
theorem BX.go {w : World} {x : PC} {W W' : World} (h : BX w x W) (g : Below W.heap.size W W') : BX w x W' := ⟨bstep h.bel g, h.box.bel g⟩

set_option maxHeartbeats 4000000 in
theorem law_sizes (t : Tree) (x : PC) (w : World) (hok : okT t) (hx : HT w t x) (hT : Tab w) : Calls Tryd.prog 4 #[x.v] w fun e w' => e = .returned (.bool true) ∧ Below w.heap.size w w' := by
  have kal := fun W h => alive_any W h
  have kg := fun W h => great_any t x W hok h
  have HX : Hid (HT w t x) := hx
  have HTb : Hid (Tab w) := hT
  obtain ⟨xk, ⟨x1, x2, x3⟩, x4, x5, x6⟩ := x
  clear hx hT
  go_enter Tryd.func4, Tryd.ntmps4
  go_upto_region 1 with fail
  generalize hW : World.alloc _ _ = W
  have HI : Hid (BX w ⟨xk, ⟨x1, x2, x3⟩, ⟨x4, x5, x6⟩⟩ W) := by
    rw [← hW]
    exact ⟨(Below.refl _ _).alloc (Nat.le_refl _) _, Blk.new _ _ _⟩
  clear hW
  by_cases c : 3000 < size t
  · have kg2 : ∀ W, HT W t ⟨xk, ⟨x1, x2, x3⟩, ⟨x4, x5, x6⟩⟩ → Calls Tryd.prog 15 #[PC.v ⟨xk, ⟨x1, x2, x3⟩, ⟨x4, x5, x6⟩⟩] W fun e w' => e = .returned (.bool true) ∧ Gr W w' := fun W h => by have := kg W h; simpa [c] using this
    clear kg
    go_wp2_with (first
      | (go_at_call 14; refine (kal _ (HTb.out.bel HI.out.bel)).mono ?_; rintro _ w2 ⟨rfl, gw⟩; have I2 : Hid (BX w ⟨xk, ⟨x1, x2, x3⟩, ⟨x4, x5, x6⟩⟩ w2) := HI.out.go gw; clear gw; obtain ⟨e0, e1, e2⟩ := BlkT.cs I2.out.box)
      | (go_at_call 15; refine (kg2 _ (HT.bel I2.out.bel HX.out)).mono ?_; rintro _ w3 ⟨rfl, gw⟩; have I3 : Hid (BX w ⟨xk, ⟨x1, x2, x3⟩, ⟨x4, x5, x6⟩⟩ w3) := I2.out.go gw.below; clear gw))
    go_ret
    exact ⟨rfl, I3.out.bel⟩
  · have kg2 : ∀ W, HT W t ⟨xk, ⟨x1, x2, x3⟩, ⟨x4, x5, x6⟩⟩ → Calls Tryd.prog 15 #[PC.v ⟨xk, ⟨x1, x2, x3⟩, ⟨x4, x5, x6⟩⟩] W fun e w' => e = .returned (.bool false) ∧ Gr W w' := fun W h => by have := kg W h; simpa [c] using this
    have kp := fun W h => psize_any _ t ⟨xk, ⟨x1, x2, x3⟩, ⟨x4, x5, x6⟩⟩ W (Nat.le_refl _) (by omega) h
    have kq : ∀ W, HT W t ⟨xk, ⟨x1, x2, x3⟩, ⟨x4, x5, x6⟩⟩ → Calls Tryd.prog 25 #[PC.v ⟨xk, ⟨x1, x2, x3⟩, ⟨x4, x5, x6⟩⟩] W fun e w' => (e = .returned (.tuple #[.int .i64 (size t), .int .i64 (deep t)])) ∧ Gr W w' := fun W h => by
      refine (rsize_any _ t ⟨xk, ⟨x1, x2, x3⟩, ⟨x4, x5, x6⟩⟩ W (Nat.le_refl _) hok h).mono ?_
      rintro e w' ⟨⟨p, d, rfl, hp, hd⟩, g⟩
      have hds := deep_le_size t
      have e1 : p = size t := by omega
      have e2 : d = deep t := hd (by omega)
      rw [e1, e2]
      exact ⟨rfl, g⟩
    clear kg
    go_wp2_with (first
      | (go_at_call 14; refine (kal _ (HTb.out.bel HI.out.bel)).mono ?_; rintro _ w2 ⟨rfl, gw⟩; have I2 : Hid (BX w ⟨xk, ⟨x1, x2, x3⟩, ⟨x4, x5, x6⟩⟩ w2) := HI.out.go gw; clear gw; obtain ⟨e0, e1, e2⟩ := BlkT.cs I2.out.box)
      | (go_at_call 15; refine (kg2 _ (HT.bel I2.out.bel HX.out)).mono ?_; rintro _ w3 ⟨rfl, gw⟩; have I3 : Hid (BX w ⟨xk, ⟨x1, x2, x3⟩, ⟨x4, x5, x6⟩⟩ w3) := I2.out.go gw.below; clear gw; obtain ⟨f0, f1, f2⟩ := BlkT.cs I3.out.box)
      | (go_at_call 24; refine (kp _ (HT.bel I3.out.bel HX.out)).mono ?_; rintro _ w4 ⟨⟨p, d, rfl, rfl, rfl⟩, gw⟩; have I4 : Hid (BX w ⟨xk, ⟨x1, x2, x3⟩, ⟨x4, x5, x6⟩⟩ w4) := I3.out.go gw.below; clear gw; obtain ⟨g0, g1, g2⟩ := BlkT.cs I4.out.box)
      | (go_at_call 25; refine (kq _ (HT.bel I4.out.bel HX.out)).mono ?_; rintro _ w5 ⟨rfl, gw⟩; have I5 : Hid (BX w ⟨xk, ⟨x1, x2, x3⟩, ⟨x4, x5, x6⟩⟩ w5) := I4.out.go gw.below; clear gw))
    go_ret
    exact ⟨rfl, I5.out.bel⟩

end Go.Proofs.YtjjlkjfhhpogaaaDoor
