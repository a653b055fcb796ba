/-
  Walks: kinds, the document's Right.
  Walks: the document's Right; the sets of places: at, has, with, both, without, onward.
  Walks: both, without.
  Walks: at, onward, the lowest bit of a word.
  Walks: the two Ins of a set of numbers.
-/
import Derived.Test.YtjjlkjfhhpogaaaDoorW2
import Derived.Deep.WholeRow
import Derived.Deep.MidRow
import Derived.Lib.LaidTab
namespace Go.Proofs.YtjjlkjfhhpogaaaDoor
open Go.RowKit

theorem okAlone_cases {k : Int} {S N : Nat} (h : okAlone k S N = true) : (k = 1 ∧ N = 0 ∧ S ≤ 256) ∨ (k = 2 ∧ S = 0) ∨ (k = 3 ∧ S = 0) ∨ (k = 4 ∧ S = 0 ∧ N = 1) := by
  unfold okAlone at h
  by_cases h1 : k = 1
  · rw [if_pos h1] at h; simp at h; exact Or.inl ⟨h1, h⟩
  rw [if_neg h1] at h
  by_cases h2 : k = 2 ∨ k = 3
  · rw [if_pos h2] at h; simp at h
    rcases h2 with h2 | h2
    · exact Or.inr (Or.inl ⟨h2, h⟩)
    · exact Or.inr (Or.inr (Or.inl ⟨h2, h⟩))
  rw [if_neg h2] at h
  by_cases h4 : k = 4
  · rw [if_pos h4] at h; simp at h; exact Or.inr (Or.inr (Or.inr ⟨h4, h⟩))
  rw [if_neg h4] at h
  cases h

theorem okAlone_false {k : Int} {S N : Nat} (h : okAlone k S N = false) : (k = 1 ∧ 0 < N) ∨ (k = 1 ∧ N = 0 ∧ 256 < S) ∨ (k ≠ 1 ∧ 0 < S) ∨ (k = 4 ∧ S = 0 ∧ N ≠ 1) ∨ (k < 1 ∧ S = 0) ∨ (4 < k ∧ S = 0) := by
  unfold okAlone at h
  by_cases h1 : k = 1
  · rw [if_pos h1] at h
    simp at h
    omega
  rw [if_neg h1] at h
  by_cases h2 : k = 2 ∨ k = 3
  · rw [if_pos h2] at h; simp at h; omega
  rw [if_neg h2] at h
  by_cases h4 : k = 4
  · rw [if_pos h4] at h; simp at h; omega
  omega

end Go.Proofs.YtjjlkjfhhpogaaaDoor

namespace Go.Proofs.YtjjlkjfhhpogaaaDoor
open Go.RowKit

abbrev plc (p : Pl) : Array Value := #[.int .u64 (u p.a), .int .u64 (u p.b), .int .u64 (u p.c), .int .u64 (u p.d)]
abbrev plv (p : Pl) : Value := .agg (plc p)
abbrev BlkL (W : World) (b : Nat) (p : Pl) : Prop := Blk W b (plc p) 67
theorem BlkL.cs {W : World} {b : Nat} {p : Pl} (h : BlkL W b p) : W.cell? ⟨b, 0, none⟩ = some (.int .u64 (u p.a)) ∧ W.cell? ⟨b, 1, none⟩ = some (.int .u64 (u p.b)) ∧ W.cell? ⟨b, 2, none⟩ = some (.int .u64 (u p.c)) ∧ W.cell? ⟨b, 3, none⟩ = some (.int .u64 (u p.d)) := ⟨h.c 0, h.c 1, h.c 2, h.c 3⟩

theorem has_bit (x : BitVec 64) (j : Nat) : (bits .and .u64 (u x / 2 ^ j) 1 == 1) = x.getLsbD j := by
  have e : (1 : Int) = u 1 := rfl
  rw [u_shr]
  conv => lhs; arg 1; rw [e]
  rw [u_and, ← BitVec.testBit_toNat]
  have h : u (x >>> j &&& 1) = ((x.toNat >>> j % 2 : Nat) : Int) := by
    unfold u
    rw [BitVec.toNat_and, BitVec.toNat_ushiftRight]
    show ((x.toNat >>> j &&& 1 : Nat) : Int) = _
    rw [Nat.and_one_is_mod]
  rw [h, Nat.testBit_eq_decide_div_mod_eq, Nat.shiftRight_eq_div_pow]
  generalize x.toNat / 2 ^ j = y
  by_cases c : y % 2 = 1
  · simp [c]
  · have : y % 2 = 0 := by omega
    simp [this]

set_option maxRecDepth 100000 in
set_option maxHeartbeats 2000000 in
theorem has_any (p : Pl) (n : Nat) (hn : n < 256) (w : World) :
    Calls Tryd.prog 45 #[plv p, .int .i64 n] w fun e w' => e = .returned (.bool (p.has n)) ∧ Gr w w' := by
  have hm : n % 64 < 64 := Nat.mod_lt _ (by omega)
  have e1 : (n : Int) % 64 = ((n % 64 : Nat) : Int) := by omega
  have e2 : (n : Int) / 64 = ((n / 64 : Nat) : Int) := by omega
  obtain ⟨x, hx⟩ : ∃ x, x = p.word (n / 64) := ⟨_, rfl⟩
  have HX : Hid (p.has n = x.getLsbD (n % 64)) := by show _ = _; rw [hx]; rfl
  generalize p.has n = q at *
  have hd := div_cases hn
  generalize n / 64 = i at *
  generalize n % 64 = j at *
  obtain ⟨a, b, c, d⟩ := p
  rcases hd with rfl | rfl | rfl | rfl
  all_goals
    simp only [Pl.word] at hx
    subst hx
    go_enter Tryd.func45, Tryd.ntmps45
    go_wp2_with fail
    go_ret
    refine ⟨?_, (Gr.refl _).alloc _⟩
    rw [HX.out, ← has_bit]
    rfl

theorem BlkL.set4 {w : World} {b : Nat} {p : Pl} (h : BlkL w b p) (qa qb qc qd : BitVec 64) : BlkL ((((w.setCell ⟨b, 0, none⟩ (.int .u64 (u qa))).setCell ⟨b, 1, none⟩ (.int .u64 (u qb))).setCell ⟨b, 2, none⟩ (.int .u64 (u qc))).setCell ⟨b, 3, none⟩ (.int .u64 (u qd))) b ⟨qa, qb, qc, qd⟩ := by
  have h1 := (((Blk.set h 0 (.int .u64 (u qa))).set 1 (.int .u64 (u qb))).set 2 (.int .u64 (u qc))).set 3 (.int .u64 (u qd))
  simpa using h1

theorem BlkL.s0 {w : World} {b : Nat} {a0 b0 c0 d0 : BitVec 64} (h : BlkL w b ⟨a0, b0, c0, d0⟩) (x : BitVec 64) : BlkL (w.setCell ⟨b, 0, none⟩ (.int .u64 (u x))) b ⟨x, b0, c0, d0⟩ := by
  have h1 := Blk.set h 0 (.int .u64 (u x))
  simpa using h1
theorem BlkL.s1 {w : World} {b : Nat} {a0 b0 c0 d0 : BitVec 64} (h : BlkL w b ⟨a0, b0, c0, d0⟩) (x : BitVec 64) : BlkL (w.setCell ⟨b, 1, none⟩ (.int .u64 (u x))) b ⟨a0, x, c0, d0⟩ := by
  have h1 := Blk.set h 1 (.int .u64 (u x))
  simpa using h1
theorem BlkL.s2 {w : World} {b : Nat} {a0 b0 c0 d0 : BitVec 64} (h : BlkL w b ⟨a0, b0, c0, d0⟩) (x : BitVec 64) : BlkL (w.setCell ⟨b, 2, none⟩ (.int .u64 (u x))) b ⟨a0, b0, x, d0⟩ := by
  have h1 := Blk.set h 2 (.int .u64 (u x))
  simpa using h1
theorem BlkL.s3 {w : World} {b : Nat} {a0 b0 c0 d0 : BitVec 64} (h : BlkL w b ⟨a0, b0, c0, d0⟩) (x : BitVec 64) : BlkL (w.setCell ⟨b, 3, none⟩ (.int .u64 (u x))) b ⟨a0, b0, c0, x⟩ := by
  have h1 := Blk.set h 3 (.int .u64 (u x))
  simpa using h1

/-- A set, as far as the other one has been taken in. -/
def mixP (f : BitVec 64 → BitVec 64 → BitVec 64) (p q : Pl) : Nat → Pl
  | 0 => p
  | 1 => ⟨f p.a q.a, p.b, p.c, p.d⟩
  | 2 => ⟨f p.a q.a, f p.b q.b, p.c, p.d⟩
  | 3 => ⟨f p.a q.a, f p.b q.b, f p.c q.c, p.d⟩
  | _ => ⟨f p.a q.a, f p.b q.b, f p.c q.c, f p.d q.d⟩

theorem run_plv {w : World} {b : Nat} {p : Pl} (h : BlkL w b p) : (loadVar 67 ⟨b, 0, none⟩).run Tryd.prog w = .ok (plv p) w := run_loadVar_row w b 67 67 (plc p) (0, 0) _ h Tryd.underlying67 rfl (by kernel_rfl)

set_option maxRecDepth 100000 in
set_option maxHeartbeats 4000000 in
theorem with_any (p q : Pl) (w : World) :
    Calls Tryd.prog 62 #[plv p, plv q] w fun e w' => e = .returned (plv (p.or q)) ∧ Gr w w' := by
  have HO : Hid (mixP (fun x y => x ||| y) p q 4 = p.or q) := rfl
  obtain ⟨r, hr⟩ : ∃ r, r = p.or q := ⟨_, rfl⟩
  rw [← hr] at HO ⊢
  clear hr
  have uu := fun x y => u_or x y
  go_enter Tryd.func62, Tryd.ntmps62
  go_wp2_with fail
  generalize hW : World.alloc _ _ = W
  have h0 : BlkL W w.heap.size p := by
    rw [← hW]
    exact ((Blk.new _ _ _).alloc _).alloc _
  have h1 : BlkL W (w.heap.size + 1) q := by
    rw [← hW]
    exact (Blk.new' _ _ _ _ (by simp)).alloc _
  have h2 : BlkL W (w.heap.size + 1 + 1) Pl.zero := by
    rw [← hW]
    exact Blk.new' _ _ _ _ (by simp)
  have hg : Gr w W := by
    rw [← hW]
    exact (((Gr.refl _).alloc _).alloc _).alloc _
  clear hW
  have H0 : Hid (BlkL W w.heap.size (mixP (fun x y => x ||| y) p q 0)) := h0
  have H1 : Hid (BlkL W (w.heap.size + 1) q) := h1
  have H2 : Hid (BlkL W (w.heap.size + 1 + 1) Pl.zero) := h2
  have HG : Hid (Gr w W) := hg
  clear h0 h1 h2 hg
  go_loopw [6] (fun vi wr => ∃ k : Nat, k ≤ 4 ∧ vi = .int .i64 k ∧ Hid (BlkL wr w.heap.size (mixP (fun x y => x ||| y) p q k)) ∧ Hid (BlkL wr (w.heap.size + 1) q) ∧ Hid (BlkL wr (w.heap.size + 1 + 1) Pl.zero) ∧ Hid (Gr w wr)) (fun vi _ => 4 - (intOf vi).toNat)
  case atStart => exact ⟨0, by omega, rfl, H0, H1, H2, HG⟩
  case round =>
    obtain ⟨k, hk, rfl, J0, J1, J2, JG⟩ := hrel
    clear H0 H1 H2 HG
    obtain ⟨pa, pb, pc, pd⟩ := p
    obtain ⟨qa, qb, qc, qd⟩ := q
    obtain ⟨d0, d1, d2, d3⟩ := BlkL.cs J1.out
    obtain ⟨z0, z1, z2, z3⟩ := BlkL.cs J2.out
    have f0 := J0.out.frozen
    have f2 := J2.out.frozen
    have hc : k = 0 ∨ k = 1 ∨ k = 2 ∨ k = 3 ∨ k = 4 := by omega
    rcases hc with rfl | rfl | rfl | rfl | rfl
    case inr.inr.inr.inr =>
      rw [HO.out] at J0
      obtain ⟨c0, c1, c2, c3⟩ := BlkL.cs J0.out
      clear d0 d1 d2 d3
      have n1 : w.heap.size + 1 + 1 ≠ w.heap.size := by omega
      go_wp2_with fail
      obtain ⟨ra, rb, rc, rd⟩ := r
      have hres := run_plv (BlkL.set4 J2.out ra rb rc rd)
      refine bodyPost_ret (v := plv ⟨ra, rb, rc, rd⟩) ?_ rfl ⟨rfl, ?_⟩
      · simp [results, Tryd.results62]
        exact hres
      · exact (((JG.out.setCell (p := ⟨w.heap.size + 1 + 1, 0, none⟩) (by simp; omega) _).setCell (p := ⟨w.heap.size + 1 + 1, 1, none⟩) (by simp; omega) _).setCell (p := ⟨w.heap.size + 1 + 1, 2, none⟩) (by simp; omega) _).setCell (p := ⟨w.heap.size + 1 + 1, 3, none⟩) (by simp; omega) _
    all_goals
      obtain ⟨c0, c1, c2, c3⟩ := BlkL.cs J0.out
      simp only [mixP] at c0 c1 c2 c3
      go_wp2_with fail
      go_region
      all_goals go_wp2_with fail
      all_goals first
        | exact ⟨⟨1, by omega, rfl, BlkL.s0 J0.out _, Blk.other J1.out (by simp) _, Blk.other J2.out (by simp; omega) _, (JG.out.setCell (by simp) _).drewN 1⟩, by decide⟩
        | exact ⟨⟨2, by omega, rfl, BlkL.s1 J0.out _, Blk.other J1.out (by simp) _, Blk.other J2.out (by simp; omega) _, (JG.out.setCell (by simp) _).drewN 1⟩, by decide⟩
        | exact ⟨⟨3, by omega, rfl, BlkL.s2 J0.out _, Blk.other J1.out (by simp) _, Blk.other J2.out (by simp; omega) _, (JG.out.setCell (by simp) _).drewN 1⟩, by decide⟩
        | exact ⟨⟨4, by omega, rfl, BlkL.s3 J0.out _, Blk.other J1.out (by simp) _, Blk.other J2.out (by simp; omega) _, (JG.out.setCell (by simp) _).drewN 1⟩, by decide⟩

end Go.Proofs.YtjjlkjfhhpogaaaDoor

namespace Go.Proofs.YtjjlkjfhhpogaaaDoor
open Go.RowKit

set_option maxRecDepth 100000 in
set_option maxHeartbeats 4000000 in
theorem both_any (p q : Pl) (w : World) :
    Calls Tryd.prog 63 #[plv p, plv q] w fun e w' => e = .returned (plv (p.and q)) ∧ Gr w w' := by
  have HO : Hid (mixP (fun x y => x &&& y) p q 4 = p.and q) := rfl
  obtain ⟨r, hr⟩ : ∃ r, r = p.and q := ⟨_, rfl⟩
  rw [← hr] at HO ⊢
  clear hr
  have uu := fun x y => u_and x y
  go_enter Tryd.func63, Tryd.ntmps63
  go_wp2_with fail
  generalize hW : World.alloc _ _ = W
  have h0 : BlkL W w.heap.size p := by
    rw [← hW]
    exact ((Blk.new _ _ _).alloc _).alloc _
  have h1 : BlkL W (w.heap.size + 1) q := by
    rw [← hW]
    exact (Blk.new' _ _ _ _ (by simp)).alloc _
  have h2 : BlkL W (w.heap.size + 1 + 1) Pl.zero := by
    rw [← hW]
    exact Blk.new' _ _ _ _ (by simp)
  have hg : Gr w W := by
    rw [← hW]
    exact (((Gr.refl _).alloc _).alloc _).alloc _
  clear hW
  have H0 : Hid (BlkL W w.heap.size (mixP (fun x y => x &&& y) p q 0)) := h0
  have H1 : Hid (BlkL W (w.heap.size + 1) q) := h1
  have H2 : Hid (BlkL W (w.heap.size + 1 + 1) Pl.zero) := h2
  have HG : Hid (Gr w W) := hg
  clear h0 h1 h2 hg
  go_loopw [6] (fun vi wr => ∃ k : Nat, k ≤ 4 ∧ vi = .int .i64 k ∧ Hid (BlkL wr w.heap.size (mixP (fun x y => x &&& y) p q k)) ∧ Hid (BlkL wr (w.heap.size + 1) q) ∧ Hid (BlkL wr (w.heap.size + 1 + 1) Pl.zero) ∧ Hid (Gr w wr)) (fun vi _ => 4 - (intOf vi).toNat)
  case atStart => exact ⟨0, by omega, rfl, H0, H1, H2, HG⟩
  case round =>
    obtain ⟨k, hk, rfl, J0, J1, J2, JG⟩ := hrel
    clear H0 H1 H2 HG
    obtain ⟨pa, pb, pc, pd⟩ := p
    obtain ⟨qa, qb, qc, qd⟩ := q
    obtain ⟨d0, d1, d2, d3⟩ := BlkL.cs J1.out
    obtain ⟨z0, z1, z2, z3⟩ := BlkL.cs J2.out
    have f0 := J0.out.frozen
    have f2 := J2.out.frozen
    have hc : k = 0 ∨ k = 1 ∨ k = 2 ∨ k = 3 ∨ k = 4 := by omega
    rcases hc with rfl | rfl | rfl | rfl | rfl
    case inr.inr.inr.inr =>
      rw [HO.out] at J0
      obtain ⟨c0, c1, c2, c3⟩ := BlkL.cs J0.out
      clear d0 d1 d2 d3
      have n1 : w.heap.size + 1 + 1 ≠ w.heap.size := by omega
      go_wp2_with fail
      obtain ⟨ra, rb, rc, rd⟩ := r
      have hres := run_plv (BlkL.set4 J2.out ra rb rc rd)
      refine bodyPost_ret (v := plv ⟨ra, rb, rc, rd⟩) ?_ rfl ⟨rfl, ?_⟩
      · simp [results, Tryd.results63]
        exact hres
      · exact (((JG.out.setCell (p := ⟨w.heap.size + 1 + 1, 0, none⟩) (by simp; omega) _).setCell (p := ⟨w.heap.size + 1 + 1, 1, none⟩) (by simp; omega) _).setCell (p := ⟨w.heap.size + 1 + 1, 2, none⟩) (by simp; omega) _).setCell (p := ⟨w.heap.size + 1 + 1, 3, none⟩) (by simp; omega) _
    all_goals
      obtain ⟨c0, c1, c2, c3⟩ := BlkL.cs J0.out
      simp only [mixP] at c0 c1 c2 c3
      go_wp2_with fail
      go_region
      all_goals go_wp2_with fail
      all_goals first
        | exact ⟨⟨1, by omega, rfl, BlkL.s0 J0.out _, Blk.other J1.out (by simp) _, Blk.other J2.out (by simp; omega) _, (JG.out.setCell (by simp) _).drewN 1⟩, by decide⟩
        | exact ⟨⟨2, by omega, rfl, BlkL.s1 J0.out _, Blk.other J1.out (by simp) _, Blk.other J2.out (by simp; omega) _, (JG.out.setCell (by simp) _).drewN 1⟩, by decide⟩
        | exact ⟨⟨3, by omega, rfl, BlkL.s2 J0.out _, Blk.other J1.out (by simp) _, Blk.other J2.out (by simp; omega) _, (JG.out.setCell (by simp) _).drewN 1⟩, by decide⟩
        | exact ⟨⟨4, by omega, rfl, BlkL.s3 J0.out _, Blk.other J1.out (by simp) _, Blk.other J2.out (by simp; omega) _, (JG.out.setCell (by simp) _).drewN 1⟩, by decide⟩

set_option maxRecDepth 100000 in
set_option maxHeartbeats 4000000 in
theorem without_any (p q : Pl) (w : World) :
    Calls Tryd.prog 85 #[plv p, plv q] w fun e w' => e = .returned (plv (p.sub q)) ∧ Gr w w' := by
  have HO : Hid (mixP (fun x y => x &&& ~~~y) p q 4 = p.sub q) := rfl
  obtain ⟨r, hr⟩ : ∃ r, r = p.sub q := ⟨_, rfl⟩
  rw [← hr] at HO ⊢
  clear hr
  have uu := fun x y => u_andNot x y
  go_enter Tryd.func85, Tryd.ntmps85
  go_wp2_with fail
  generalize hW : World.alloc _ _ = W
  have h0 : BlkL W w.heap.size p := by
    rw [← hW]
    exact ((Blk.new _ _ _).alloc _).alloc _
  have h1 : BlkL W (w.heap.size + 1) q := by
    rw [← hW]
    exact (Blk.new' _ _ _ _ (by simp)).alloc _
  have h2 : BlkL W (w.heap.size + 1 + 1) Pl.zero := by
    rw [← hW]
    exact Blk.new' _ _ _ _ (by simp)
  have hg : Gr w W := by
    rw [← hW]
    exact (((Gr.refl _).alloc _).alloc _).alloc _
  clear hW
  have H0 : Hid (BlkL W w.heap.size (mixP (fun x y => x &&& ~~~y) p q 0)) := h0
  have H1 : Hid (BlkL W (w.heap.size + 1) q) := h1
  have H2 : Hid (BlkL W (w.heap.size + 1 + 1) Pl.zero) := h2
  have HG : Hid (Gr w W) := hg
  clear h0 h1 h2 hg
  go_loopw [6] (fun vi wr => ∃ k : Nat, k ≤ 4 ∧ vi = .int .i64 k ∧ Hid (BlkL wr w.heap.size (mixP (fun x y => x &&& ~~~y) p q k)) ∧ Hid (BlkL wr (w.heap.size + 1) q) ∧ Hid (BlkL wr (w.heap.size + 1 + 1) Pl.zero) ∧ Hid (Gr w wr)) (fun vi _ => 4 - (intOf vi).toNat)
  case atStart => exact ⟨0, by omega, rfl, H0, H1, H2, HG⟩
  case round =>
    obtain ⟨k, hk, rfl, J0, J1, J2, JG⟩ := hrel
    clear H0 H1 H2 HG
    obtain ⟨pa, pb, pc, pd⟩ := p
    obtain ⟨qa, qb, qc, qd⟩ := q
    obtain ⟨d0, d1, d2, d3⟩ := BlkL.cs J1.out
    obtain ⟨z0, z1, z2, z3⟩ := BlkL.cs J2.out
    have f0 := J0.out.frozen
    have f2 := J2.out.frozen
    have hc : k = 0 ∨ k = 1 ∨ k = 2 ∨ k = 3 ∨ k = 4 := by omega
    rcases hc with rfl | rfl | rfl | rfl | rfl
    case inr.inr.inr.inr =>
      rw [HO.out] at J0
      obtain ⟨c0, c1, c2, c3⟩ := BlkL.cs J0.out
      clear d0 d1 d2 d3
      have n1 : w.heap.size + 1 + 1 ≠ w.heap.size := by omega
      go_wp2_with fail
      obtain ⟨ra, rb, rc, rd⟩ := r
      have hres := run_plv (BlkL.set4 J2.out ra rb rc rd)
      refine bodyPost_ret (v := plv ⟨ra, rb, rc, rd⟩) ?_ rfl ⟨rfl, ?_⟩
      · simp [results, Tryd.results85]
        exact hres
      · exact (((JG.out.setCell (p := ⟨w.heap.size + 1 + 1, 0, none⟩) (by simp; omega) _).setCell (p := ⟨w.heap.size + 1 + 1, 1, none⟩) (by simp; omega) _).setCell (p := ⟨w.heap.size + 1 + 1, 2, none⟩) (by simp; omega) _).setCell (p := ⟨w.heap.size + 1 + 1, 3, none⟩) (by simp; omega) _
    all_goals
      obtain ⟨c0, c1, c2, c3⟩ := BlkL.cs J0.out
      simp only [mixP] at c0 c1 c2 c3
      go_wp2_with fail
      go_region
      all_goals go_wp2_with fail
      all_goals first
        | exact ⟨⟨1, by omega, rfl, BlkL.s0 J0.out _, Blk.other J1.out (by simp) _, Blk.other J2.out (by simp; omega) _, (JG.out.setCell (by simp) _).drewN 1⟩, by decide⟩
        | exact ⟨⟨2, by omega, rfl, BlkL.s1 J0.out _, Blk.other J1.out (by simp) _, Blk.other J2.out (by simp; omega) _, (JG.out.setCell (by simp) _).drewN 1⟩, by decide⟩
        | exact ⟨⟨3, by omega, rfl, BlkL.s2 J0.out _, Blk.other J1.out (by simp) _, Blk.other J2.out (by simp; omega) _, (JG.out.setCell (by simp) _).drewN 1⟩, by decide⟩
        | exact ⟨⟨4, by omega, rfl, BlkL.s3 J0.out _, Blk.other J1.out (by simp) _, Blk.other J2.out (by simp; omega) _, (JG.out.setCell (by simp) _).drewN 1⟩, by decide⟩

end Go.Proofs.YtjjlkjfhhpogaaaDoor

namespace Go.Proofs.YtjjlkjfhhpogaaaDoor
open Go.RowKit

set_option maxRecDepth 100000 in
set_option maxHeartbeats 2000000 in
theorem at_any (n : Nat) (hn : n < 256) (w : World) :
    Calls Tryd.prog 44 #[.int .i64 n] w fun e w' => e = .returned (plv (Pl.at n)) ∧ Gr w w' := by
  have hm : n % 64 < 64 := Nat.mod_lt _ (by omega)
  have e1 : (n : Int) % 64 = ((n % 64 : Nat) : Int) := by omega
  have e2 : (n : Int) / 64 = ((n / 64 : Nat) : Int) := by omega
  have e3 : IntKind.u64.wrap (2 ^ (n % 64)) = u ((1 : BitVec 64) <<< (n % 64)) := by rw [← u_one_shl, Int.one_mul]
  have e4 : IntKind.u64.wrap (1 * 2 ^ (n % 64)) = u ((1 : BitVec 64) <<< (n % 64)) := u_one_shl _
  have HX : Hid (Pl.at n = Pl.zero.put (n / 64) ((1 : BitVec 64) <<< (n % 64))) := rfl
  generalize Pl.at n = q at *
  have hd := div_cases hn
  generalize (1 : BitVec 64) <<< (n % 64) = z at *
  generalize n / 64 = i at *
  generalize n % 64 = j at *
  rcases hd with rfl | rfl | rfl | rfl
  all_goals
    have HX2 := HX.out
    simp [Pl.put, Pl.zero] at HX2
    have HQ : Hid (q = _) := HX2
    clear HX HX2
    go_enter Tryd.func44, Tryd.ntmps44
    go_wp2_with fail
    rw [HQ.out]
    refine bodyPost_ret (v := plv _) ?_ rfl ⟨rfl, ((Gr.refl _).alloc _).alloc _⟩
    simp [results, Tryd.results44]
    exact run_plv ((Blk.new _ _ _).alloc _)

theorem index50 (p : Pl) (k : Nat) (hk : k < 4) (w : World) :
    (Instr.index 67 (.agg #[.int .u64 (u p.a), .int .u64 (u p.b), .int .u64 (u p.c), .int .u64 (u p.d)]) (.int .i64 k)).run Tryd.prog w = .ok (.int .u64 (u (p.word k))) w := by
  have hu : Tryd.prog.underlying 67 = some (.array 4 65) := Tryd.underlying67
  have hz3 := Tryd.sizeOf65
  have h4 : k = 0 ∨ k = 1 ∨ k = 2 ∨ k = 3 := by omega
  rcases h4 with rfl | rfl | rfl | rfl <;> simp [Instr.index, run_underlying hu, asIntOf, go_sem, hz3, Pl.word]

/-- A set, as far as it has gone on, and what is carried. -/
def onwP (p : Pl) : Nat → Pl
  | 0 => p
  | 1 => ⟨p.a <<< 1, p.b, p.c, p.d⟩
  | 2 => ⟨p.a <<< 1, p.b <<< 1 ||| p.a >>> 63, p.c, p.d⟩
  | 3 => ⟨p.a <<< 1, p.b <<< 1 ||| p.a >>> 63, p.c <<< 1 ||| p.b >>> 63, p.d⟩
  | _ => ⟨p.a <<< 1, p.b <<< 1 ||| p.a >>> 63, p.c <<< 1 ||| p.b >>> 63, p.d <<< 1 ||| p.c >>> 63⟩
def carP (p : Pl) : Nat → BitVec 64
  | 0 => 0
  | 1 => p.a >>> 63
  | 2 => p.b >>> 63
  | 3 => p.c >>> 63
  | _ => p.d >>> 63

set_option maxRecDepth 100000 in
set_option maxHeartbeats 4000000 in
theorem onward_any (p : Pl) (w : World) :
    Calls Tryd.prog 66 #[plv p] w fun e w' => e = .returned (plv p.onw) ∧ Gr w w' := by
  have HO : Hid (onwP p 4 = p.onw) := rfl
  obtain ⟨r, hr⟩ : ∃ r, r = p.onw := ⟨_, rfl⟩
  rw [← hr] at HO ⊢
  clear hr
  have uA := fun x y => u_or x y
  have uB : ∀ x, IntKind.u64.wrap (u x * 2) = u (x <<< 1) := fun x => u_shl x 1
  have uC : ∀ x, IntKind.u64.wrap (u x * 2 ^ 1) = u (x <<< 1) := fun x => u_shl x 1
  have uD : ∀ x, u x / 2 ^ 63 = u (x >>> 63) := fun x => u_shr x 63
  have uE : ∀ x, u x / 9223372036854775808 = u (x >>> 63) := fun x => u_shr x 63
  go_enter Tryd.func66, Tryd.ntmps66
  go_wp2_with fail
  generalize hW : World.alloc _ _ = W
  have h0 : BlkL W w.heap.size p := by
    rw [← hW]
    exact (Blk.new _ _ _).alloc _
  have h2 : BlkL W (w.heap.size + 1) Pl.zero := by
    rw [← hW]
    exact Blk.new' _ _ _ _ (by simp)
  have hg : Gr w W := by
    rw [← hW]
    exact ((Gr.refl _).alloc _).alloc _
  clear hW
  have H0 : Hid (BlkL W w.heap.size (onwP p 0)) := h0
  have H2 : Hid (BlkL W (w.heap.size + 1) Pl.zero) := h2
  have HG : Hid (Gr w W) := hg
  clear h0 h2 hg
  go_loopw [3, 7] (fun vc vi wr => ∃ k : Nat, k ≤ 4 ∧ vi = .int .i64 k ∧ vc = .int .u64 (u (carP p k)) ∧ Hid (BlkL wr w.heap.size (onwP p k)) ∧ Hid (BlkL wr (w.heap.size + 1) Pl.zero) ∧ Hid (Gr w wr)) (fun _ vi _ => 4 - (intOf vi).toNat)
  case atStart => exact ⟨0, by omega, rfl, rfl, H0, H2, HG⟩
  case round =>
    obtain ⟨k, hk, rfl, rfl, J0, J2, JG⟩ := hrel
    clear H0 H2 HG
    obtain ⟨pa, pb, pc, pd⟩ := p
    have ix0 : ∀ W, (Instr.index 67 (.agg #[.int .u64 (u pa), .int .u64 (u pb), .int .u64 (u pc), .int .u64 (u pd)]) (.int .i64 0)).run Tryd.prog W = .ok (.int .u64 (u pa)) W := fun W => index50 ⟨pa, pb, pc, pd⟩ 0 (by omega) W
    have ix1 : ∀ W, (Instr.index 67 (.agg #[.int .u64 (u pa), .int .u64 (u pb), .int .u64 (u pc), .int .u64 (u pd)]) (.int .i64 1)).run Tryd.prog W = .ok (.int .u64 (u pb)) W := fun W => index50 ⟨pa, pb, pc, pd⟩ 1 (by omega) W
    have ix2 : ∀ W, (Instr.index 67 (.agg #[.int .u64 (u pa), .int .u64 (u pb), .int .u64 (u pc), .int .u64 (u pd)]) (.int .i64 2)).run Tryd.prog W = .ok (.int .u64 (u pc)) W := fun W => index50 ⟨pa, pb, pc, pd⟩ 2 (by omega) W
    have ix3 : ∀ W, (Instr.index 67 (.agg #[.int .u64 (u pa), .int .u64 (u pb), .int .u64 (u pc), .int .u64 (u pd)]) (.int .i64 3)).run Tryd.prog W = .ok (.int .u64 (u pd)) W := fun W => index50 ⟨pa, pb, pc, pd⟩ 3 (by omega) W
    obtain ⟨z0, z1, z2, z3⟩ := BlkL.cs J2.out
    have f0 := J0.out.frozen
    have f2 := J2.out.frozen
    have hc : k = 0 ∨ k = 1 ∨ k = 2 ∨ k = 3 ∨ k = 4 := by omega
    rcases hc with rfl | rfl | rfl | rfl | rfl
    case inr.inr.inr.inr =>
      rw [HO.out] at J0
      obtain ⟨c0, c1, c2, c3⟩ := BlkL.cs J0.out
      have n1 : w.heap.size + 1 ≠ w.heap.size := by omega
      go_wp2_with fail
      obtain ⟨ra, rb, rc, rd⟩ := r
      have hres := run_plv (BlkL.set4 J2.out ra rb rc rd)
      refine bodyPost_ret (v := plv ⟨ra, rb, rc, rd⟩) ?_ rfl ⟨rfl, ?_⟩
      · simp [results, Tryd.results66]
        exact hres
      · exact (((JG.out.setCell (p := ⟨w.heap.size + 1, 0, none⟩) (by simp) _).setCell (p := ⟨w.heap.size + 1, 1, none⟩) (by simp) _).setCell (p := ⟨w.heap.size + 1, 2, none⟩) (by simp) _).setCell (p := ⟨w.heap.size + 1, 3, none⟩) (by simp) _
    all_goals
      obtain ⟨c0, c1, c2, c3⟩ := BlkL.cs J0.out
      simp only [onwP, carP] at c0 c1 c2 c3 ⊢
      go_wp2_with fail
      have cr : ∀ x : BitVec 64, Value.int .u64 (u x / 9223372036854775808) = .int .u64 (u (x >>> 63)) := fun x => congrArg (Value.int .u64) (u_shr x 63)
      first
        | exact ⟨⟨1, by omega, rfl, cr _, BlkL.s0 J0.out _, Blk.other J2.out (by simp) _, JG.out.setCell (by simp) _⟩, by decide⟩
        | exact ⟨⟨2, by omega, rfl, cr _, BlkL.s1 J0.out _, Blk.other J2.out (by simp) _, JG.out.setCell (by simp) _⟩, by decide⟩
        | exact ⟨⟨3, by omega, rfl, cr _, BlkL.s2 J0.out _, Blk.other J2.out (by simp) _, JG.out.setCell (by simp) _⟩, by decide⟩
        | exact ⟨⟨4, by omega, rfl, cr _, BlkL.s3 J0.out _, Blk.other J2.out (by simp) _, JG.out.setCell (by simp) _⟩, by decide⟩

/-- The table of the lowest bits lies where it was laid. -/
def Tab (w : World) : Prop := ∀ (i : Nat) (x : Int), tab64[i]? = some x → w.cell? ⟨0, i, none⟩ = some (.int .u8 x)

set_option maxRecDepth 100000 in
set_option maxHeartbeats 2000000 in
theorem tz_any (x : BitVec 64) (hx : x ≠ 0) (w : World) (hT : Tab w) :
    Calls Tryd.prog 83 #[.int .u64 (u x)] w fun e w' => (∃ k : Nat, e = .returned (.int .i64 k) ∧ k < 64 ∧ x.getLsbD k = true ∧ ∀ j, (x &&& (x - 1)).getLsbD j = (x.getLsbD j && decide (j ≠ k))) ∧ w' = w := by
  obtain ⟨k, hk, h1, h2, h3⟩ := lowest x hx
  have h0 : (u x == 0) = false := by
    simp
    intro e
    exact hx (u_inj (e.trans u_zero.symm))
  have e1 : IntKind.u64.wrap (-(u x)) = u (-x) := u_neg x
  have e2 : bits .and .u64 (u x) (u (-x)) = u ((1 : BitVec 64) <<< k) := by rw [u_and, h2]
  have e3 : IntKind.u64.wrap (u ((1 : BitVec 64) <<< k) * 285870213051353865) = u ((1 : BitVec 64) <<< k * 285870213051353865) := u_mul _ 285870213051353865
  obtain ⟨t1, t2⟩ := tab64_at ⟨k, hk⟩
  simp only at t1 t2
  obtain ⟨i, hi⟩ : ∃ i : Nat, i = (((1 : BitVec 64) <<< k * 285870213051353865) >>> 58).toNat := ⟨_, rfl⟩
  have e4 : u ((1 : BitVec 64) <<< k * 285870213051353865) / 2 ^ 58 = (i : Int) := by rw [u_shr, hi]; rfl
  have e5 : u ((1 : BitVec 64) <<< k * 285870213051353865) / 288230376151711744 = (i : Int) := e4
  rw [← hi] at t1 t2
  have c := hT i _ t1
  clear hi t1
  have H3 : Hid (∀ j, (x &&& (x - 1)).getLsbD j = (x.getLsbD j && decide (j ≠ k))) := h3
  clear h3 h2
  generalize u ((1 : BitVec 64) <<< k * 285870213051353865) = y2 at *
  generalize u ((1 : BitVec 64) <<< k) = y1 at *
  have ti : (i : Int) < 64 := by omega
  go_enter Tryd.func83, Tryd.ntmps83
  go_wp2_with fail
  go_ret
  exact ⟨⟨k, rfl, hk, h1, H3.out⟩, rfl⟩

end Go.Proofs.YtjjlkjfhhpogaaaDoor

namespace Go.Proofs.YtjjlkjfhhpogaaaDoor
open Go.RowKit

theorem inSet_nil (n : Int) : inSet [] n = false := rfl
theorem inSet_cons (s : Int × Int) (l : List (Int × Int)) (n : Int) : inSet (s :: l) n = ((decide (s.1 ≤ n) && decide (n ≤ s.2)) || inSet l n) := rfl

set_option maxHeartbeats 2000000 in
theorem in_any (v : Value) (l : List (Int × Int)) (n : Int) (w : World) (hl : l.length ≤ 4611686018427387903) (hv : RowS w v l) :
    Calls Tryd.prog 65 #[v, .int .u32 n] w fun e w' => e = .returned (.bool (inSet l n)) ∧ Gr w w' := by
  obtain ⟨ao, cap, rfl⟩ := hv.form
  obtain ⟨N, hN⟩ : ∃ N : Nat, N = l.length := ⟨_, rfl⟩
  have HN : Hid (N = l.length) := hN
  have HV : Hid (RowS w (.slice ao N cap) l) := by rw [hN]; exact hv
  rw [← hN] at hl ⊢
  clear hv hN
  obtain ⟨r, hr⟩ : ∃ r, r = inSet l n := ⟨_, rfl⟩
  have HR : Hid (r = inSet l n) := hr
  rw [← hr]
  clear hr
  go_enter Tryd.func65, Tryd.ntmps65
  go_wp2_with fail
  go_loopw [9] (fun vi wr => ∃ k : Nat, k ≤ N ∧ vi = .int .i64 k ∧ Hid (Gr w wr) ∧ Hid (r = inSet (l.drop k) n)) (fun vi _ => N - (intOf vi).toNat)
  case atStart => exact ⟨0, Nat.zero_le _, rfl, Gr.refl _, by rw [List.drop_zero]; exact HR⟩
  case round =>
    obtain ⟨k, hk, rfl, HK, HM⟩ := hrel
    by_cases hlt : k < N
    case neg =>
      have e : r = false := by
        rw [HM.out, List.drop_eq_nil_of_le (by have := HN.out; omega)]
        rfl
      go_wp2_with fail
      go_ret
      exact ⟨by rw [e]; rfl, HK.out⟩
    obtain ⟨s, hs⟩ : ∃ s, l[k]? = some s := ⟨_, List.getElem?_eq_getElem (by have := HN.out; omega)⟩
    obtain ⟨b, off, rfl, hb, d0, d1⟩ := (HV.out.gr HK.out).cs2 hs
    have HM2 : Hid (r = ((decide (s.1 ≤ n) && decide (n ≤ s.2)) || inSet (l.drop (k + 1)) n)) := by
      show _ = _
      rw [HM.out, drop_of hs, inSet_cons]
    obtain ⟨s0, s1⟩ := s
    simp only at d0 d1
    clear hs HM
    by_cases c1 : s0 ≤ n
    · by_cases c2 : n ≤ s1
      · have HM3 : Hid (r = true) := by show _ = _; rw [HM2.out]; simp [c1, c2]
        clear HM2
        go_wp2_with fail
        go_ret
        exact ⟨by rw [HM3.out]; rfl, HK.out.alloc _⟩
      · have HM3 : Hid (r = inSet (l.drop (k + 1)) n) := by show _ = _; rw [HM2.out]; simp [c2]
        clear HM2
        go_wp2_with fail
        go_roundw
        case rel => exact ⟨k + 1, by omega, by go_num, HK.out.alloc _, HM3⟩
        case measure => simp [intOf]; omega
    · have HM3 : Hid (r = inSet (l.drop (k + 1)) n) := by show _ = _; rw [HM2.out]; simp [c1]
      clear HM2
      go_wp2_with fail
      go_roundw
      case rel => exact ⟨k + 1, by omega, by go_num, HK.out.alloc _, HM3⟩
      case measure => simp [intOf]; omega

set_option maxHeartbeats 2000000 in
theorem rin_any (v : Value) (l : List (Int × Int)) (n : Int) (w : World) (hl : l.length ≤ 4611686018427387903) (hv : RowS w v l) :
    Calls Tryd.prog 37 #[v, .int .u32 n] w fun e w' => e = .returned (.bool (inSet l n)) ∧ Gr w w' := by
  obtain ⟨ao, cap, rfl⟩ := hv.form
  obtain ⟨N, hN⟩ : ∃ N : Nat, N = l.length := ⟨_, rfl⟩
  have HN : Hid (N = l.length) := hN
  have HV : Hid (RowS w (.slice ao N cap) l) := by rw [hN]; exact hv
  rw [← hN] at hl ⊢
  clear hv hN
  obtain ⟨r, hr⟩ : ∃ r, r = inSet l n := ⟨_, rfl⟩
  have HR : Hid (r = inSet l n) := hr
  rw [← hr]
  clear hr
  go_enter Tryd.func37, Tryd.ntmps37
  go_wp2_with fail
  go_loopw [9] (fun vi wr => ∃ k : Nat, k ≤ N ∧ vi = .int .i64 k ∧ Hid (Gr w wr) ∧ Hid (r = inSet (l.drop k) n)) (fun vi _ => N - (intOf vi).toNat)
  case atStart => exact ⟨0, Nat.zero_le _, rfl, Gr.refl _, by rw [List.drop_zero]; exact HR⟩
  case round =>
    obtain ⟨k, hk, rfl, HK, HM⟩ := hrel
    by_cases hlt : k < N
    case neg =>
      have e : r = false := by
        rw [HM.out, List.drop_eq_nil_of_le (by have := HN.out; omega)]
        rfl
      go_wp2_with fail
      go_ret
      exact ⟨by rw [e]; rfl, HK.out⟩
    obtain ⟨s, hs⟩ : ∃ s, l[k]? = some s := ⟨_, List.getElem?_eq_getElem (by have := HN.out; omega)⟩
    obtain ⟨b, off, rfl, hb, d0, d1⟩ := (HV.out.gr HK.out).cs2 hs
    have HM2 : Hid (r = ((decide (s.1 ≤ n) && decide (n ≤ s.2)) || inSet (l.drop (k + 1)) n)) := by
      show _ = _
      rw [HM.out, drop_of hs, inSet_cons]
    obtain ⟨s0, s1⟩ := s
    simp only at d0 d1
    clear hs HM
    by_cases c1 : s0 ≤ n
    · by_cases c2 : n ≤ s1
      · have HM3 : Hid (r = true) := by show _ = _; rw [HM2.out]; simp [c1, c2]
        clear HM2
        go_wp2_with fail
        go_ret
        exact ⟨by rw [HM3.out]; rfl, HK.out.alloc _⟩
      · have HM3 : Hid (r = inSet (l.drop (k + 1)) n) := by show _ = _; rw [HM2.out]; simp [c2]
        clear HM2
        go_wp2_with fail
        go_roundw
        case rel => exact ⟨k + 1, by omega, by go_num, HK.out.alloc _, HM3⟩
        case measure => simp [intOf]; omega
    · have HM3 : Hid (r = inSet (l.drop (k + 1)) n) := by show _ = _; rw [HM2.out]; simp [c1]
      clear HM2
      go_wp2_with fail
      go_roundw
      case rel => exact ⟨k + 1, by omega, by go_num, HK.out.alloc _, HM3⟩
      case measure => simp [intOf]; omega

end Go.Proofs.YtjjlkjfhhpogaaaDoor
