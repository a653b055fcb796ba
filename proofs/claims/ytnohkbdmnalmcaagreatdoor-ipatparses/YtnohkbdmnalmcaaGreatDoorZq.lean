/-
  The walk of IpatParses.
-/
import Derived.Test.YtnohkbdmnalmcaaGreatDoorZg
import Derived.Test.YtnohkbdmnalmcaaGreatDoorAl
import Derived.Test.YtnohkbdmnalmcaaGreatDoorSm
namespace Go.Proofs.YtnohkbdmnalmcaaGreatDoor
open Go.RowKit

theorem parse_zero (l : Bs) (h : (parseM l).2 ≠ 0) : (parseM l).1 = zeT := by
  unfold parseM at h ⊢
  split
  · rfl
  · rename_i c
    rw [if_neg c] at h
    split
    · rfl
    · rename_i t o f e
      rw [e] at h
      cases o with
      | true => rfl
      | false =>
        cases f with
        | true => rfl
        | false => exact absurd rfl h
theorem ok_ze : okT zeT := (okT_mk _ _ _).2 ⟨by simp, by simp, okL_nil.2 trivial⟩
/-- A pattern in new memory, and a number beside it. -/
def PostK (t : Tree) (k : Int) (w : World) (e : Ending) (w' : World) : Prop := ∃ r : PC, e = .returned (.tuple #[r.v, .int .i64 k]) ∧ HT w' t r ∧ Below w.heap.size w w' ∧ okT t
theorem parse_K (s : ByteArray) (W : World) : Calls Tryz.prog 11 #[.string s] W fun e w' => PostK (parseM s.data.toList).1 (parseM s.data.toList).2 W e w' :=
  (parse_any s W).mono fun _ _ ⟨⟨r, h1, h2, h3⟩, h4⟩ => ⟨r, h1, h2.held, h3, by
    by_cases h : (parseM s.data.toList).2 = 0
    · exact ok_right (h4 h)
    · rw [parse_zero _ h]; exact ok_ze⟩
theorem rparse_K (s : ByteArray) (W : World) : Calls Tryz.prog 12 #[.string s] W fun e w' => ∃ r : PC, e = .returned (.tuple #[r.v, .int .i64 (parseM s.data.toList).2]) ∧ HT w' (parseM s.data.toList).1 r ∧ Below W.heap.size W w' := rparse_any s W

/-- Two patterns in two boxes. -/
structure B2 (w : World) (x y : PC) (b c : Nat) (t : Tree) (W : World) : Prop where
  bel : Below w.heap.size w W
  one : Blk W b (encT x).toArray 26
  two : Blk W c (encT y).toArray 26
  held : HT W t x
  held2 : HT W t y
theorem B2.go {w : World} {x y : PC} {b c : Nat} {t : Tree} {W W' : World} (h : B2 w x y b c t W) (g : Below W.heap.size W W') : B2 w x y b c t W' := ⟨bstep h.bel g, h.one.bel g, h.two.bel g, HT.bel g h.held, HT.bel g h.held2⟩

set_option maxRecDepth 100000 in
set_option maxHeartbeats 8000000 in
theorem law_parses (s : ByteArray) (w : World) (_hs : s.size ≤ maxLen) (hP : TabP w) : Calls Tryz.prog 3 #[.string s] w fun e w' => e = .returned (.bool true) ∧ Below w.heap.size w w' := by
  have ka := alive_any w hP
  have kp := fun W => parse_K s W
  have kr := fun W => rparse_K s W
  by_cases c1 : 2100 < s.size
  · have e1 : decide ((2100 : Int) < (s.size : Int)) = true := by simp <;> omega
    have hP6 : parseM s.data.toList = (zeT, 6) := by
      unfold parseM
      rw [if_pos (by rw [Array.length_toList]; exact Nat.lt_trans (by decide) c1)]
    rw [hP6] at kp
    simp only at kp
    clear kr hP6 c1
    go_enter Tryz.func3, Tryz.ntmps3
    go_wp2_with (first
      | (go_at_call 10; refine ka.mono ?_; rintro _ w1 ⟨rfl, b1⟩; have B1 : Hid (Below w.heap.size w w1) := b1; clear b1)
      | (go_at_call 11; refine (kp _).mono ?_; rintro _ w2 ⟨⟨f0, ⟨f1, f2, f3⟩, f4, f5, f6⟩, rfl, _, b2, _⟩; have B2 : Hid (Below w1.heap.size w1 w2) := b2; clear b2))
    go_ret
    exact ⟨rfl, bstep (bstep B1.out B2.out) (bel_alloc _ _)⟩
  have e1 : decide ((2100 : Int) < (s.size : Int)) = false := by simp <;> omega
  generalize (parseM s.data.toList).1 = t at kp kr
  generalize (parseM s.data.toList).2 = k at kp kr
  clear c1
  go_enter Tryz.func3, Tryz.ntmps3
  go_upto_region 8 with (first
    | (go_at_call 10; refine ka.mono ?_; rintro _ w1 ⟨rfl, b1⟩; have B1 : Hid (Below w.heap.size w w1) := b1; clear b1)
    | (go_at_call 11; refine (kp _).mono ?_; rintro _ w2 ⟨⟨r0, ⟨r1, r2, r3⟩, r4, r5, r6⟩, rfl, h2, b2, o2⟩; have HOk : Hid (okT t) := o2; have H2 : Hid (HT w2 t ⟨r0, ⟨r1, r2, r3⟩, ⟨r4, r5, r6⟩⟩) := h2; have I2 : Hid (Below w.heap.size w w2) := bstep B1.out b2; clear b2 h2 o2)
    | (go_at_call 12; refine (kr _).mono ?_; rintro _ w3 ⟨⟨s0, ⟨s1, s2, s3⟩, s4, s5, s6⟩, rfl, h3, b3⟩; have H3 : Hid (HT w3 t ⟨s0, ⟨s1, s2, s3⟩, ⟨s4, s5, s6⟩⟩ ∧ HT w3 t ⟨r0, ⟨r1, r2, r3⟩, ⟨r4, r5, r6⟩⟩ ∧ Blk w3 w2.heap.size (encT ⟨r0, ⟨r1, r2, r3⟩, ⟨r4, r5, r6⟩⟩).toArray 26) := ⟨h3, HT.bel b3 (HT.bel (bel_alloc _ _) H2.out), (Blk.new _ _ _).bel b3⟩; have I3 : Hid (Below w.heap.size w w3) := bstep (bstep I2.out (bel_alloc _ _)) b3; clear b3 h3))
  generalize hW3 : World.alloc _ _ = W3
  have HS : Hid (B2 w ⟨r0, ⟨r1, r2, r3⟩, ⟨r4, r5, r6⟩⟩ ⟨s0, ⟨s1, s2, s3⟩, ⟨s4, s5, s6⟩⟩ w2.heap.size w3.heap.size t W3) := by
    rw [← hW3]
    exact ⟨bstep I3.out (bel_alloc _ _), H3.out.2.2.alloc _, Blk.new _ _ _, HT.bel (bel_alloc _ _) H3.out.2.1, HT.bel (bel_alloc _ _) H3.out.1⟩
  clear hW3 H2 H3 I2 I3 B1 kp kr ka
  generalize w2.heap.size = b1 at *
  generalize w3.heap.size = b2 at *
  obtain ⟨m0, m1, m2⟩ := BlkT.cs HS.out.one
  obtain ⟨n0, n1, n2⟩ := BlkT.cs HS.out.two
  have ks : ∀ W, HT W t ⟨r0, ⟨r1, r2, r3⟩, ⟨r4, r5, r6⟩⟩ → HT W t ⟨s0, ⟨s1, s2, s3⟩, ⟨s4, s5, s6⟩⟩ → Calls Tryz.prog 13 #[PC.v ⟨r0, ⟨r1, r2, r3⟩, ⟨r4, r5, r6⟩⟩, PC.v ⟨s0, ⟨s1, s2, s3⟩, ⟨s4, s5, s6⟩⟩] W fun e w' => e = .returned (.bool true) ∧ Gr W w' := fun W h1 h2 => same_true _ t _ _ W (Nat.le_refl _) HOk.out h1 h2
  go_wp2_with (go_at_call 13; refine (ks _ HS.out.held HS.out.held2).mono ?_; rintro _ w7 ⟨rfl, gw⟩; have B7 : Hid (Below w.heap.size w w7) := bstep HS.out.bel gw.below; clear gw)
  go_ret
  exact ⟨rfl, B7.out⟩

end Go.Proofs.YtnohkbdmnalmcaaGreatDoor
