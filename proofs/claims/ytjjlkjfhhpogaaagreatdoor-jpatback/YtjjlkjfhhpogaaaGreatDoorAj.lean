/-
  The Jun dialect's examples, as trees; the walk of layer 7's alive: they hold.
-/
import Derived.Test.YtjjlkjfhhpogaaaGreatDoorAl
import Derived.Test.YtjjlkjfhhpogaaaGreatDoorRj3
namespace Go.Proofs.YtjjlkjfhhpogaaaGreatDoor
open Go.RowKit

def pJ : Tree := .mk 2 [] [.mk 1 [(65000, 65000)] [], .mk 4 [] [.mk 1 [(64512, 65534)] []], .mk 1 [(7, 7)] []]
def qJ : Tree := .mk 3 [] [.mk 2 [] [.mk 1 [(1, 1)] [], .mk 1 [(1, 1)] []], .mk 2 [] [.mk 3 [] [.mk 1 [(0, 4294967295)] [], .mk 2 [] []]]]
theorem jparse1 : jparseM [54, 53, 48, 48, 48, 32, 40, 54, 52, 53, 49, 50, 45, 54, 53, 53, 51, 52, 41, 42, 32, 55] = (pJ, 0) := by kernel_rfl
theorem jparse2 : jparseM [49, 123, 50, 125, 124, 46, 123, 48, 44, 49, 125] = (qJ, 0) := by kernel_rfl
theorem jparse3 : jparseM [49, 123, 51, 44, 50, 125] = (zeT, 5) := by kernel_rfl
theorem jparse4 : jparseM [94, 49] = (zeT, 4) := by kernel_rfl
theorem size_pJ : size pJ ≤ 200 := by decide
theorem size_qJ : size qJ ≤ 200 := by decide
theorem kinds_pJ : kindsT pJ = true := by kernel_rfl
theorem kinds_qJ : kindsT qJ = true := by kernel_rfl
theorem takes_pJ1 : takes pJ [65000, 7] := by
  rw [pJ, takes_cat, takesCat_cons]
  refine ⟨[65000], [7], rfl, (takes_in _ _ _).2 ⟨_, rfl, by omega, by omega⟩, ?_⟩
  rw [takesCat_cons]
  refine ⟨[], [7], rfl, by rw [takes_star]; exact .nil, ?_⟩
  rw [takesCat_cons]
  exact ⟨[7], [], rfl, (takes_in _ _ _).2 ⟨_, rfl, by omega, by omega⟩, (takesCat_nil _).2 rfl⟩
theorem takes_qJ1 : takes qJ [1, 1] := by
  rw [qJ, takes_alt, takesAlt_cons]
  left
  rw [takes_cat, takesCat_cons]
  refine ⟨[1], [1], rfl, (takes_in _ _ _).2 ⟨_, rfl, by omega, by omega⟩, ?_⟩
  rw [takesCat_cons]
  exact ⟨[1], [], rfl, (takes_in _ _ _).2 ⟨_, rfl, by omega, by omega⟩, (takesCat_nil _).2 rfl⟩
theorem takes_qJ0 : takes qJ [] := by
  rw [qJ, takes_alt, takesAlt_cons, takesAlt_cons]
  right; left
  rw [takes_cat, takesCat_cons]
  refine ⟨[], [], rfl, ?_, (takesCat_nil _).2 rfl⟩
  rw [takes_alt, takesAlt_cons, takesAlt_cons]
  right; left
  rw [takes_cat]
  exact (takesCat_nil _).2 rfl
theorem not_takes_qJ2 : ¬ takes qJ [2, 2] := by
  rw [qJ, takes_alt, takesAlt_cons, takesAlt_cons]
  rintro (h | h | h)
  · rw [takes_cat, takesCat_cons] at h
    obtain ⟨a, b, h1, h2, _⟩ := h
    rw [takes_in] at h2
    obtain ⟨n, rfl, h3, h4⟩ := h2
    simp at h1
    omega
  · rw [takes_cat, takesCat_cons] at h
    obtain ⟨a, b, h1, h2, h3⟩ := h
    rw [takesCat_nil] at h3
    subst h3
    rw [List.append_nil] at h1
    subst h1
    rw [takes_alt, takesAlt_cons, takesAlt_cons] at h2
    rcases h2 with h2 | h2 | h2
    · rw [takes_in] at h2
      obtain ⟨n, h3, _⟩ := h2
      simp at h3
    · rw [takes_cat, takesCat_nil] at h2
      simp at h2
    · rw [takesAlt_nil] at h2
      exact h2
  · rw [takesAlt_nil] at h
    exact h

theorem jparse_lit {r : Tree × Int} (s : ByteArray) (W : World) (h : jparseM s.data.toList = r) : Calls Tryz.prog 23 #[.string s] W fun e w' => PostT r W e w' := by
  subst h
  exact (jparse_any s W).mono fun _ _ h => h.1

/-- Between the examples. -/
structure AVJ (w : World) (b1 : Nat) (px : PC) (b2 : Nat) (qx : PC) (W : World) : Prop where
  bel : Below w.heap.size w W
  hp : HT W pJ px
  hq : HT W qJ qx
  p1 : Blk W b1 (encT px).toArray 26
  p2 : Blk W b2 (encT qx).toArray 26
theorem AVJ.go {w : World} {b1 : Nat} {px : PC} {b2 : Nat} {qx : PC} {W W' : World} (h : AVJ w b1 px b2 qx W) (g : Below W.heap.size W W') : AVJ w b1 px b2 qx W' :=
  ⟨bstep h.bel g, HT.bel g h.hp, HT.bel g h.hq, h.p1.bel g, h.p2.bel g⟩

set_option maxRecDepth 100000 in
set_option maxHeartbeats 8000000 in
theorem jalive_any (w : World) : Calls Tryz.prog 20 #[] w fun e w' => e = .returned (.bool true) ∧ Below w.heap.size w w' := by
  have k1 : ∀ W, Calls Tryz.prog 23 #[.string { data := #[54, 53, 48, 48, 48, 32, 40, 54, 52, 53, 49, 50, 45, 54, 53, 53, 51, 52, 41, 42, 32, 55] }] W fun e w' => PostT (pJ, 0) W e w' := fun W => jparse_lit ⟨#[54, 53, 48, 48, 48, 32, 40, 54, 52, 53, 49, 50, 45, 54, 53, 53, 51, 52, 41, 42, 32, 55]⟩ W jparse1
  have k2 : ∀ W, Calls Tryz.prog 23 #[.string { data := #[49, 123, 50, 125, 124, 46, 123, 48, 44, 49, 125] }] W fun e w' => PostT (qJ, 0) W e w' := fun W => jparse_lit ⟨#[49, 123, 50, 125, 124, 46, 123, 48, 44, 49, 125]⟩ W jparse2
  have k3 : ∀ W, Calls Tryz.prog 23 #[.string { data := #[49, 123, 51, 44, 50, 125] }] W fun e w' => PostT (zeT, 5) W e w' := fun W => jparse_lit ⟨#[49, 123, 51, 44, 50, 125]⟩ W jparse3
  have k4 : ∀ W, Calls Tryz.prog 23 #[.string { data := #[94, 49] }] W fun e w' => PostT (zeT, 4) W e w' := fun W => jparse_lit ⟨#[94, 49]⟩ W jparse4
  go_enter Tryz.func20, Tryz.ntmps20
  go_upto_region 2 with (go_at_call 23; refine (k1 _).mono ?_; rintro _ w1 ⟨⟨f0, ⟨f1, f2, f3⟩, f4, f5, f6⟩, rfl, ho1, bb1⟩; have H1 : Hid (HT w1 pJ ⟨f0, ⟨f1, f2, f3⟩, ⟨f4, f5, f6⟩⟩) := ho1.held; have B1 : Hid (Below w.heap.size w w1) := bb1; clear ho1 bb1)
  generalize hW2 : World.alloc _ _ = W2
  have H2 : Hid (Below w.heap.size w W2 ∧ HT W2 pJ ⟨f0, ⟨f1, f2, f3⟩, ⟨f4, f5, f6⟩⟩ ∧ Blk W2 w1.heap.size (encT ⟨f0, ⟨f1, f2, f3⟩, ⟨f4, f5, f6⟩⟩).toArray 26) := by
    rw [← hW2]
    exact ⟨bstep B1.out (bel_alloc _ _), HT.bel (bel_alloc _ _) H1.out, Blk.new _ _ _⟩
  clear hW2 H1 B1 k1
  go_upto_region 3 with (go_at_call 23; refine (k2 _).mono ?_; rintro _ w3 ⟨⟨g0, ⟨g1, g2, g3⟩, g4, g5, g6⟩, rfl, ho3, bb3⟩; have H3 : Hid (HT w3 qJ ⟨g0, ⟨g1, g2, g3⟩, ⟨g4, g5, g6⟩⟩) := ho3.held; have B3 : Hid (Below W2.heap.size W2 w3) := bb3; clear ho3 bb3)
  generalize hW4 : World.alloc _ _ = W4
  have V4 : Hid (AVJ w w1.heap.size ⟨f0, ⟨f1, f2, f3⟩, ⟨f4, f5, f6⟩⟩ w3.heap.size ⟨g0, ⟨g1, g2, g3⟩, ⟨g4, g5, g6⟩⟩ W4) := by
    have b : Below W2.heap.size W2 W4 := by rw [← hW4]; exact bstep B3.out (bel_alloc _ _)
    obtain ⟨a1, a2, a3⟩ := H2.out
    exact ⟨bstep a1 b, HT.bel b a2, by rw [← hW4]; exact HT.bel (bel_alloc _ _) H3.out, a3.bel b, by rw [← hW4]; exact Blk.new _ _ _⟩
  clear hW4 H2 H3 B3 k2
  go_upto_region 4 with (go_at_call 23; refine (k3 _).mono ?_; rintro _ w5 ⟨⟨z0, ⟨z1, z2, z3⟩, z4, z5, z6⟩, rfl, _, bb5⟩; have B5 : Hid (Below W4.heap.size W4 w5) := bb5; clear bb5)
  generalize hW6 : World.alloc _ _ = W6
  have V6 : Hid (AVJ w w1.heap.size ⟨f0, ⟨f1, f2, f3⟩, ⟨f4, f5, f6⟩⟩ w3.heap.size ⟨g0, ⟨g1, g2, g3⟩, ⟨g4, g5, g6⟩⟩ W6) := V4.out.go (by rw [← hW6]; exact bstep B5.out (bel_alloc _ _))
  clear hW6 V4 B5 k3
  go_upto_region 5 with (go_at_call 23; refine (k4 _).mono ?_; rintro _ w7 ⟨⟨y0, ⟨y1, y2, y3⟩, y4, y5, y6⟩, rfl, _, bb7⟩; have B7 : Hid (Below W6.heap.size W6 w7) := bb7; clear bb7)
  generalize hW8 : World.alloc _ _ = W8
  have V8 : Hid (AVJ w w1.heap.size ⟨f0, ⟨f1, f2, f3⟩, ⟨f4, f5, f6⟩⟩ w3.heap.size ⟨g0, ⟨g1, g2, g3⟩, ⟨g4, g5, g6⟩⟩ W8) := V6.out.go (by rw [← hW8]; exact bstep B7.out (bel_alloc _ _))
  clear hW8 V6 B7 k4
  have km1 : ∀ W, HT W pJ ⟨f0, ⟨f1, f2, f3⟩, ⟨f4, f5, f6⟩⟩ → Calls Tryz.prog 24 #[PC.v ⟨f0, ⟨f1, f2, f3⟩, ⟨f4, f5, f6⟩⟩, .slice (some ⟨W.heap.size, 0, none⟩) 2 2] (W.alloc (.cells #[.int .u32 65000, .int .u32 7] 42)) fun e w' => (∃ q : Bool, e = .returned (.bool q) ∧ (q = true ↔ takes pJ [65000, 7])) ∧ Gr (W.alloc (.cells #[.int .u32 65000, .int .u32 7] 42)) w' := fun W h => ref_lit (l := [65000, 7]) size_pJ kinds_pJ (HT.bel (bel_alloc _ _) h) (Blk.new _ _ _) rfl rfl (by omega)
  have km2 : ∀ W, HT W qJ ⟨g0, ⟨g1, g2, g3⟩, ⟨g4, g5, g6⟩⟩ → Calls Tryz.prog 24 #[PC.v ⟨g0, ⟨g1, g2, g3⟩, ⟨g4, g5, g6⟩⟩, .slice (some ⟨W.heap.size, 0, none⟩) 2 2] (W.alloc (.cells #[.int .u32 1, .int .u32 1] 42)) fun e w' => (∃ q : Bool, e = .returned (.bool q) ∧ (q = true ↔ takes qJ [1, 1])) ∧ Gr (W.alloc (.cells #[.int .u32 1, .int .u32 1] 42)) w' := fun W h => ref_lit (l := [1, 1]) size_qJ kinds_qJ (HT.bel (bel_alloc _ _) h) (Blk.new _ _ _) rfl rfl (by omega)
  have km3 : ∀ W, HT W qJ ⟨g0, ⟨g1, g2, g3⟩, ⟨g4, g5, g6⟩⟩ → Calls Tryz.prog 24 #[PC.v ⟨g0, ⟨g1, g2, g3⟩, ⟨g4, g5, g6⟩⟩, .slice none 0 0] W fun e w' => (∃ q : Bool, e = .returned (.bool q) ∧ (q = true ↔ takes qJ [])) ∧ Gr W w' := fun W h => rmatch_any qJ ⟨g0, ⟨g1, g2, g3⟩, ⟨g4, g5, g6⟩⟩ _ [] W size_qJ kinds_qJ (by simp) h ((OwnX.nil encN 1 42 0 W).row encN_len)
  have km4 : ∀ W, HT W qJ ⟨g0, ⟨g1, g2, g3⟩, ⟨g4, g5, g6⟩⟩ → Calls Tryz.prog 24 #[PC.v ⟨g0, ⟨g1, g2, g3⟩, ⟨g4, g5, g6⟩⟩, .slice (some ⟨W.heap.size, 0, none⟩) 2 2] (W.alloc (.cells #[.int .u32 2, .int .u32 2] 42)) fun e w' => (∃ q : Bool, e = .returned (.bool q) ∧ (q = true ↔ takes qJ [2, 2])) ∧ Gr (W.alloc (.cells #[.int .u32 2, .int .u32 2] 42)) w' := fun W h => ref_lit (l := [2, 2]) size_qJ kinds_qJ (HT.bel (bel_alloc _ _) h) (Blk.new _ _ _) rfl rfl (by omega)
  obtain ⟨c910, c911, c912⟩ := BlkT.cs V8.out.p1
  simp only at c910 c911 c912
  go_wp2_with (first
    | (go_at_call 24; (with_reducible refine (km4 _ V11.out.hq).mono ?_); rintro _ w12 ⟨⟨q, rfl, hq⟩, gw⟩; have hqt : q = false := bool_false hq not_takes_qJ2; subst hqt; clear hq; have V12 : Hid (AVJ w w1.heap.size ⟨f0, ⟨f1, f2, f3⟩, ⟨f4, f5, f6⟩⟩ w3.heap.size ⟨g0, ⟨g1, g2, g3⟩, ⟨g4, g5, g6⟩⟩ w12) := (V11.out.go (bel_alloc _ _)).go gw.below; clear gw)
    | (go_at_call 24; (with_reducible refine (km3 _ V10.out.hq).mono ?_); rintro _ w11 ⟨⟨q, rfl, hq⟩, gw⟩; have hqt : q = true := hq.2 takes_qJ0; subst hqt; clear hq; have V11 : Hid (AVJ w w1.heap.size ⟨f0, ⟨f1, f2, f3⟩, ⟨f4, f5, f6⟩⟩ w3.heap.size ⟨g0, ⟨g1, g2, g3⟩, ⟨g4, g5, g6⟩⟩ w11) := V10.out.go gw.below; clear gw; obtain ⟨c1120, c1121, c1122⟩ := BlkT.cs V11.out.p2)
    | (go_at_call 24; (with_reducible refine (km2 _ V9.out.hq).mono ?_); rintro _ w10 ⟨⟨q, rfl, hq⟩, gw⟩; have hqt : q = true := hq.2 takes_qJ1; subst hqt; clear hq; have V10 : Hid (AVJ w w1.heap.size ⟨f0, ⟨f1, f2, f3⟩, ⟨f4, f5, f6⟩⟩ w3.heap.size ⟨g0, ⟨g1, g2, g3⟩, ⟨g4, g5, g6⟩⟩ w10) := (V9.out.go (bel_alloc _ _)).go gw.below; clear gw; obtain ⟨c1020, c1021, c1022⟩ := BlkT.cs V10.out.p2)
    | (go_at_call 24; (with_reducible refine (km1 _ V8.out.hp).mono ?_); rintro _ w9 ⟨⟨q, rfl, hq⟩, gw⟩; have hqt : q = true := hq.2 takes_pJ1; subst hqt; clear hq; have V9 : Hid (AVJ w w1.heap.size ⟨f0, ⟨f1, f2, f3⟩, ⟨f4, f5, f6⟩⟩ w3.heap.size ⟨g0, ⟨g1, g2, g3⟩, ⟨g4, g5, g6⟩⟩ w9) := (V8.out.go (bel_alloc _ _)).go gw.below; clear gw; obtain ⟨c920, c921, c922⟩ := BlkT.cs V9.out.p2))
  go_ret
  exact ⟨rfl, V12.out.bel⟩

end Go.Proofs.YtjjlkjfhhpogaaaGreatDoor
