/-
  The walk of IpatLong.
-/
import Derived.Test.YtnohkbdmnalmcaaDoorAl
import Derived.Test.YtnohkbdmnalmcaaDoorBl
import Derived.Laws.BytesArg
namespace Go.Proofs.YtnohkbdmnalmcaaDoor
open Go.RowKit

theorem parse_over {s : ByteArray} (h : 2000 < s.size) : parseM s.data.toList = (zeT, 6) := by
  unfold parseM
  rw [if_pos (by rw [Array.length_toList]; exact h)]
/-- What Parse answers, of a pattern whatever it is. -/
def PostV (k : Int) (w : World) (e : Ending) (w' : World) : Prop := ∃ r : PC, e = .returned (.tuple #[r.v, .int .i64 k]) ∧ Below w.heap.size w w'
theorem parse_code (s : ByteArray) (W : World) : Calls Tryd.prog 5 #[.string s] W fun e w' => PostV (parseM s.data.toList).2 W e w' :=
  (parse_any s W).mono fun _ _ ⟨⟨r, h1, _, h2⟩, _⟩ => ⟨r, h1, h2⟩

theorem sign_bad {c : Int} (h0 : 0 ≤ c) (h1 : c ≤ 255) (h : 90 < c) (a1 : c ≠ 91) (a2 : c ≠ 93) (a3 : c ≠ 94) (a4 : c ≠ 95) (a5 : c ≠ 124) : okB (UInt8.ofNat c.toNat) = false := by
  have key : ∀ n : Fin 256, 90 < n.val → n.val ≠ 91 → n.val ≠ 93 → n.val ≠ 94 → n.val ≠ 95 → n.val ≠ 124 → okB (UInt8.ofNat n.val) = false := by decide +kernel
  exact key ⟨c.toNat, by omega⟩ (by simp; omega) (by simp; omega) (by simp; omega) (by simp; omega) (by simp; omega) (by simp; omega)

theorem bdrew {b : Nat} {w W : World} (h : Below b w W) : Below b w W.drew := ⟨h.os, h.tape, h.output, h.size, h.block⟩
theorem blk_first {W w4 : World} {o : Obj} (h : Below ((W.alloc (.cells #[.int .i64 0, .slice none 0 0, .slice none 0 0] 26)).alloc o).drew.heap.size ((W.alloc (.cells #[.int .i64 0, .slice none 0 0, .slice none 0 0] 26)).alloc o).drew w4) : Blk w4 W.heap.size (encT ⟨0, ⟨none, 0, 0⟩, ⟨none, 0, 0⟩⟩).toArray 26 :=
  (show Blk ((W.alloc (.cells #[.int .i64 0, .slice none 0 0, .slice none 0 0] 26)).alloc o).drew W.heap.size (encT ⟨0, ⟨none, 0, 0⟩, ⟨none, 0, 0⟩⟩).toArray 26 from Blk.bel (w := W.alloc (.cells #[.int .i64 0, .slice none 0 0, .slice none 0 0] 26)) (Blk.new W _ 26) (Below.drew (bel_alloc _ _))).bel h
theorem blk_second {W w4 : World} {o : Obj} (h : Below ((W.alloc o).alloc (.cells #[.int .i64 0, .slice none 0 0, .slice none 0 0] 26)).drew.heap.size ((W.alloc o).alloc (.cells #[.int .i64 0, .slice none 0 0, .slice none 0 0] 26)).drew w4) : Blk w4 (W.heap.size + 1) (encT ⟨0, ⟨none, 0, 0⟩, ⟨none, 0, 0⟩⟩).toArray 26 :=
  (show Blk ((W.alloc o).alloc (.cells #[.int .i64 0, .slice none 0 0, .slice none 0 0] 26)).drew (W.heap.size + 1) (encT ⟨0, ⟨none, 0, 0⟩, ⟨none, 0, 0⟩⟩).toArray 26 from Blk.new' _ _ 26 _ (by simp)).bel h
theorem put_bytes (s : ByteArray) (b : UInt8) (h : Nat) (hh : h ≤ s.size) : b ∈ (s.extract 0 h ++ ⟨#[b]⟩ ++ s.extract h s.size).data.toList ∧ (s.extract 0 h ++ ⟨#[b]⟩ ++ s.extract h s.size).data.toList.length = s.size + 1 := by
  refine ⟨by simp, ?_⟩
  rw [Array.length_toList]
  show (s.extract 0 h ++ ⟨#[b]⟩ ++ s.extract h s.size).size = _
  rw [ByteArray.size_append, ByteArray.size_append, ByteArray.size_extract, ByteArray.size_extract]
  show _ + 1 + _ = _
  omega
theorem byte_str {c : Int} {b n : Nat} {W : World} (h : W.cell? ⟨b, 0, none⟩ = some (.int .u8 c)) : (convert 30 9 (.slice (some ⟨b, 0, none⟩) 1 n)).run Tryd.prog W = .ok (.string ⟨#[UInt8.ofNat c.toNat]⟩) W := by
  rw [run_convert_bytes_string W 30 9 5 _ 1 n Tryd.underlying30 Tryd.underlying5 Tryd.underlying9, run_bytesToString W _ 1 n [c] (by simp [loadCells, go_sem, h])]
  rfl

set_option maxRecDepth 100000 in
set_option maxHeartbeats 4000000 in
theorem law_long (s : ByteArray) (c : Int) (w : World) (_hs : s.size ≤ maxLen) (hc : 0 ≤ c ∧ c ≤ 255) (hP : TabP w) : Calls Tryd.prog 3 #[.string s, .int .u8 c] w fun e w' => e = .returned (.bool true) ∧ Below w.heap.size w w' := by
  have ka := alive_any w hP
  have kp := fun W => parse_code s W
  obtain ⟨k, hk⟩ : ∃ k, (parseM s.data.toList).2 = k := ⟨_, rfl⟩
  by_cases c1 : 3000 < s.size
  · have e1 : decide ((3000 : Int) < (s.size : Int)) = true := by simp <;> omega
    clear kp hk
    go_enter Tryd.func3, Tryd.ntmps3
    go_wp2_with (go_at_call 4; refine ka.mono ?_; rintro _ w1 ⟨rfl, b1⟩; have B1 : Hid (Below w.heap.size w w1) := b1; clear b1)
    go_ret
    exact ⟨rfl, B1.out⟩
  have e1 : decide ((3000 : Int) < (s.size : Int)) = false := by simp <;> omega
  have hs3 : s.size ≤ 3000 := by omega
  clear c1 _hs
  by_cases c2 : 2000 < s.size
  · have e2 : decide ((2000 : Int) < (s.size : Int)) = true := by simp <;> omega
    rw [parse_over c2] at hk kp
    simp only at hk kp
    subst hk
    clear c2 hs3
    go_enter Tryd.func3, Tryd.ntmps3
    go_wp2_with (first
      | (go_at_call 4; refine ka.mono ?_; rintro _ w1 ⟨rfl, b1⟩; have B1 : Hid (Below w.heap.size w w1) := b1; clear b1)
      | (go_at_call 5; refine (kp _).mono ?_; rintro _ w2 ⟨⟨f0, ⟨f1, f2, f3⟩, f4, f5, f6⟩, rfl, b2⟩; have B2 : Hid (Below w1.heap.size w1 w2) := b2; clear b2))
    go_ret
    exact ⟨rfl, bstep (bstep B1.out B2.out) (bel_alloc _ _)⟩
  have e2 : decide ((2000 : Int) < (s.size : Int)) = false := by simp <;> omega
  have hs2 : s.size ≤ 2000 := by omega
  rw [hk] at kp
  clear c2 hk
  by_cases c0 : 90 < c
  rotate_left
  · have e3 : decide (90 < c) = false := by simpa using c0
    clear c0
    go_enter Tryd.func3, Tryd.ntmps3
    go_wp2_with (first
      | (go_at_call 4; refine ka.mono ?_; rintro _ w1 ⟨rfl, b1⟩; have B1 : Hid (Below w.heap.size w w1) := b1; clear b1)
      | (go_at_call 5; refine (kp _).mono ?_; rintro _ w2 ⟨⟨f0, ⟨f1, f2, f3⟩, f4, f5, f6⟩, rfl, b2⟩; have B2 : Hid (Below w1.heap.size w1 w2) := b2; clear b2))
    go_ret
    exact ⟨rfl, bstep (bstep B1.out B2.out) (bel_alloc _ _)⟩
  by_cases d91 : c = 91
  · subst d91
    clear c0
    go_enter Tryd.func3, Tryd.ntmps3
    go_wp2_with (first
      | (go_at_call 4; refine ka.mono ?_; rintro _ w1 ⟨rfl, b1⟩; have B1 : Hid (Below w.heap.size w w1) := b1; clear b1)
      | (go_at_call 5; refine (kp _).mono ?_; rintro _ w2 ⟨⟨f0, ⟨f1, f2, f3⟩, f4, f5, f6⟩, rfl, b2⟩; have B2 : Hid (Below w1.heap.size w1 w2) := b2; clear b2))
    go_ret
    exact ⟨rfl, bstep (bstep B1.out B2.out) (bel_alloc _ _)⟩
  by_cases d93 : c = 93
  · subst d93
    clear c0
    go_enter Tryd.func3, Tryd.ntmps3
    go_wp2_with (first
      | (go_at_call 4; refine ka.mono ?_; rintro _ w1 ⟨rfl, b1⟩; have B1 : Hid (Below w.heap.size w w1) := b1; clear b1)
      | (go_at_call 5; refine (kp _).mono ?_; rintro _ w2 ⟨⟨f0, ⟨f1, f2, f3⟩, f4, f5, f6⟩, rfl, b2⟩; have B2 : Hid (Below w1.heap.size w1 w2) := b2; clear b2))
    go_ret
    exact ⟨rfl, bstep (bstep B1.out B2.out) (bel_alloc _ _)⟩
  by_cases d94 : c = 94
  · subst d94
    clear c0
    go_enter Tryd.func3, Tryd.ntmps3
    go_wp2_with (first
      | (go_at_call 4; refine ka.mono ?_; rintro _ w1 ⟨rfl, b1⟩; have B1 : Hid (Below w.heap.size w w1) := b1; clear b1)
      | (go_at_call 5; refine (kp _).mono ?_; rintro _ w2 ⟨⟨f0, ⟨f1, f2, f3⟩, f4, f5, f6⟩, rfl, b2⟩; have B2 : Hid (Below w1.heap.size w1 w2) := b2; clear b2))
    go_ret
    exact ⟨rfl, bstep (bstep B1.out B2.out) (bel_alloc _ _)⟩
  by_cases d95 : c = 95
  · subst d95
    clear c0
    go_enter Tryd.func3, Tryd.ntmps3
    go_wp2_with (first
      | (go_at_call 4; refine ka.mono ?_; rintro _ w1 ⟨rfl, b1⟩; have B1 : Hid (Below w.heap.size w w1) := b1; clear b1)
      | (go_at_call 5; refine (kp _).mono ?_; rintro _ w2 ⟨⟨f0, ⟨f1, f2, f3⟩, f4, f5, f6⟩, rfl, b2⟩; have B2 : Hid (Below w1.heap.size w1 w2) := b2; clear b2))
    go_ret
    exact ⟨rfl, bstep (bstep B1.out B2.out) (bel_alloc _ _)⟩
  by_cases d124 : c = 124
  · subst d124
    clear c0
    go_enter Tryd.func3, Tryd.ntmps3
    go_wp2_with (first
      | (go_at_call 4; refine ka.mono ?_; rintro _ w1 ⟨rfl, b1⟩; have B1 : Hid (Below w.heap.size w w1) := b1; clear b1)
      | (go_at_call 5; refine (kp _).mono ?_; rintro _ w2 ⟨⟨f0, ⟨f1, f2, f3⟩, f4, f5, f6⟩, rfl, b2⟩; have B2 : Hid (Below w1.heap.size w1 w2) := b2; clear b2))
    go_ret
    exact ⟨rfl, bstep (bstep B1.out B2.out) (bel_alloc _ _)⟩
  have hb := sign_bad hc.1 hc.2 c0 d91 d93 d94 d95 d124
  have e3 : decide (90 < c) = true := by simpa using c0
  have n1 : (c != 91) = true := by simpa using d91
  have n2 : (c != 93) = true := by simpa using d93
  have n3 : (c != 94) = true := by simpa using d94
  have n4 : (c != 95) = true := by simpa using d95
  have n5 : (c != 124) = true := by simpa using d124
  clear c0 d91 d93 d94 d95 d124
  obtain ⟨h, HQ⟩ : ∃ h : Nat, Hid (h = s.size / 2) := ⟨_, rfl⟩
  have hq := HQ.out
  have q1 : (s.size : Int).tdiv 2 = (h : Int) := by rw [Int.tdiv_eq_ediv_of_nonneg (by omega)]; omega
  have q2 : (s.size : Int) / 2 = (h : Int) := by omega
  have q3 : h ≤ s.size := by omega
  have q4 : (h : Int) ≤ (s.size : Int) := by omega
  have q5 : (0 : Int) ≤ (h : Int) := by omega
  have qw : IntKind.i64.wrap (h : Int) = (h : Int) := by rw [IntKind.wrap_i64]; omega
  have z1 : (s.extract 0 h).size = h := by rw [ByteArray.size_extract]; omega
  have z2 : (s.extract h s.size).size = s.size - h := by rw [ByteArray.size_extract]; omega
  have z3 : ¬ 9223372036854775807 < h + 1 := by omega
  have z4 : ¬ 9223372036854775807 < h + 1 + (s.size - h) := by omega
  clear hq
  have hcv : ∀ (b n : Nat) (W : World), W.cell? ⟨b, 0, none⟩ = some (.int .u8 c) → Sem.run Tryd.prog (convert 30 9 (.slice (some ⟨b, 0, none⟩) 1 n)) W = .ok (.string ⟨#[UInt8.ofNat c.toNat]⟩) W := fun _ _ _ h => byte_str h
  have hT : (parseM (s.extract 0 h ++ ⟨#[UInt8.ofNat c.toNat]⟩ ++ s.extract h s.size).data.toList).2 = 4 ∨ ((parseM (s.extract 0 h ++ ⟨#[UInt8.ofNat c.toNat]⟩ ++ s.extract h s.size).data.toList).2 = 6 ∧ s.size = 2000) := by
    obtain ⟨p1, p2⟩ := put_bytes s (UInt8.ofNat c.toNat) h q3
    rcases parse_bytes p1 hb with e | ⟨e, e'⟩
    · exact Or.inl e
    · exact Or.inr ⟨e', by rw [p2] at e; omega⟩
  have kT := fun W => parse_code (s.extract 0 h ++ ⟨#[UInt8.ofNat c.toNat]⟩ ++ s.extract h s.size) W
  clear hs3 hs2 hb
  rcases hT with e | ⟨e, hsz⟩
  · rw [e] at kT
    clear e
    go_enter Tryd.func3, Tryd.ntmps3
    go_upto_region 9 with (first
        | (go_at_call 4; refine ka.mono ?_; rintro _ w1 ⟨rfl, b1⟩; have B1 : Hid (Below w.heap.size w w1) := b1; clear b1)
        | (go_at_call 5; refine (kp _).mono ?_; rintro _ w2 ⟨⟨f0, ⟨f1, f2, f3⟩, f4, f5, f6⟩, rfl, b2⟩; have B2 : Hid (Below w1.heap.size w1 w2) := b2; clear b2))
    generalize hW3 : World.alloc _ _ = W3
    have B3 : Hid (Below w.heap.size w W3) := by rw [← hW3]; exact bstep (bstep B1.out B2.out) (bel_alloc _ _)
    clear hW3 B1 B2
    go_region_with (first
      | (go_at_call 5; refine (kT _).mono ?_; rintro _ w4 ⟨⟨g0, ⟨g1, g2, g3⟩, g4, g5, g6⟩, rfl, b4⟩; have B4 : Hid (Below w.heap.size w w4) := bstep (bdrew (bstep B3.out (bel_alloc _ _))) b4; clear b4)
      | (go_at_call 5; refine (kT _).mono ?_; rintro _ w4 ⟨⟨g0, ⟨g1, g2, g3⟩, g4, g5, g6⟩, rfl, b4⟩; have B4 : Hid (Below w.heap.size w w4) := bstep (bdrew (bstep (bstep B3.out (bel_alloc _ _)) (bel_alloc _ _))) b4; have HBk := blk_first b4; obtain ⟨y0, y1, y2⟩ := BlkT.cs HBk; have y3 := HBk.frozen; simp only at y0 y1 y2; have y4 := HBk.lt; clear HBk; clear b4)
      | (go_at_call 5; refine (kT _).mono ?_; rintro _ w4 ⟨⟨g0, ⟨g1, g2, g3⟩, g4, g5, g6⟩, rfl, b4⟩; have B4 : Hid (Below w.heap.size w w4) := bstep (bdrew (bstep (bstep B3.out (bel_alloc _ _)) (bel_alloc _ _))) b4; have HBk := blk_second b4; obtain ⟨y0, y1, y2⟩ := BlkT.cs HBk; have y3 := HBk.frozen; simp only at y0 y1 y2; have y4 := HBk.lt; clear HBk; clear b4))
    all_goals go_wp2_with fail
    all_goals go_ret
    all_goals refine ⟨rfl, ?_⟩
    all_goals first
      | exact B4.out
      | exact bstep B4.out (bel_alloc _ _)
      | exact set3_bel B4.out (B3.out.size) _ _ _
      | exact set3_bel B4.out (Nat.le_trans B3.out.size (Nat.le_succ _)) _ _ _
  · rw [e] at kT
    clear e
    have e9 : ((s.size : Int) == 2000) = true := by simp; omega
    clear hsz
    go_enter Tryd.func3, Tryd.ntmps3
    go_upto_region 9 with (first
        | (go_at_call 4; refine ka.mono ?_; rintro _ w1 ⟨rfl, b1⟩; have B1 : Hid (Below w.heap.size w w1) := b1; clear b1)
        | (go_at_call 5; refine (kp _).mono ?_; rintro _ w2 ⟨⟨f0, ⟨f1, f2, f3⟩, f4, f5, f6⟩, rfl, b2⟩; have B2 : Hid (Below w1.heap.size w1 w2) := b2; clear b2))
    generalize hW3 : World.alloc _ _ = W3
    have B3 : Hid (Below w.heap.size w W3) := by rw [← hW3]; exact bstep (bstep B1.out B2.out) (bel_alloc _ _)
    clear hW3 B1 B2
    go_region_with (first
      | (go_at_call 5; refine (kT _).mono ?_; rintro _ w4 ⟨⟨g0, ⟨g1, g2, g3⟩, g4, g5, g6⟩, rfl, b4⟩; have B4 : Hid (Below w.heap.size w w4) := bstep (bdrew (bstep B3.out (bel_alloc _ _))) b4; clear b4)
      | (go_at_call 5; refine (kT _).mono ?_; rintro _ w4 ⟨⟨g0, ⟨g1, g2, g3⟩, g4, g5, g6⟩, rfl, b4⟩; have B4 : Hid (Below w.heap.size w w4) := bstep (bdrew (bstep (bstep B3.out (bel_alloc _ _)) (bel_alloc _ _))) b4; have HBk := blk_first b4; obtain ⟨y0, y1, y2⟩ := BlkT.cs HBk; have y3 := HBk.frozen; simp only at y0 y1 y2; have y4 := HBk.lt; clear HBk; clear b4)
      | (go_at_call 5; refine (kT _).mono ?_; rintro _ w4 ⟨⟨g0, ⟨g1, g2, g3⟩, g4, g5, g6⟩, rfl, b4⟩; have B4 : Hid (Below w.heap.size w w4) := bstep (bdrew (bstep (bstep B3.out (bel_alloc _ _)) (bel_alloc _ _))) b4; have HBk := blk_second b4; obtain ⟨y0, y1, y2⟩ := BlkT.cs HBk; have y3 := HBk.frozen; simp only at y0 y1 y2; have y4 := HBk.lt; clear HBk; clear b4))
    all_goals go_wp2_with fail
    all_goals go_ret
    all_goals refine ⟨rfl, ?_⟩
    all_goals first
      | exact B4.out
      | exact bstep B4.out (bel_alloc _ _)
      | exact set3_bel B4.out (B3.out.size) _ _ _
      | exact set3_bel B4.out (Nat.le_trans B3.out.size (Nat.le_succ _)) _ _ _

end Go.Proofs.YtnohkbdmnalmcaaDoor
