/-
  Walks: the document's Right; the sets of places: at, has, with, both, without, onward.
-/
import Derived.Test.YtihnmamejfoeeaaDoorW3
import Derived.Deep.WholeRow
import Derived.Deep.MidRow
namespace Go.Proofs.YtihnmamejfoeeaaDoor
open Go.RowKit

abbrev plc (p : Pl) : Array Value := #[.int .u64 (u p.a), .int .u64 (u p.b), .int .u64 (u p.c), .int .u64 (u p.d)]
abbrev plv (p : Pl) : Value := .agg (plc p)
abbrev BlkL (W : World) (b : Nat) (p : Pl) : Prop := Blk W b (plc p) 50
theorem BlkL.cs {W : World} {b : Nat} {p : Pl} (h : BlkL W b p) : W.cell? ⟨b, 0, none⟩ = some (.int .u64 (u p.a)) ∧ W.cell? ⟨b, 1, none⟩ = some (.int .u64 (u p.b)) ∧ W.cell? ⟨b, 2, none⟩ = some (.int .u64 (u p.c)) ∧ W.cell? ⟨b, 3, none⟩ = some (.int .u64 (u p.d)) := ⟨h.c 0, h.c 1, h.c 2, h.c 3⟩

theorem has_bit (x : BitVec 64) (j : Nat) : (bits .and .u64 (u x / 2 ^ j) 1 == 1) = x.getLsbD j := by
  have e : (1 : Int) = u 1 := rfl
  rw [u_shr]
  conv => lhs; arg 1; rw [e]
  rw [u_and, ← BitVec.testBit_toNat]
  have h : u (x >>> j &&& 1) = ((x.toNat >>> j % 2 : Nat) : Int) := by
    unfold u
    rw [BitVec.toNat_and, BitVec.toNat_ushiftRight]
    show ((x.toNat >>> j &&& 1 : Nat) : Int) = _
    rw [Nat.and_one_is_mod]
  rw [h, Nat.testBit_eq_decide_div_mod_eq, Nat.shiftRight_eq_div_pow]
  generalize x.toNat / 2 ^ j = y
  by_cases c : y % 2 = 1
  · simp [c]
  · have : y % 2 = 0 := by omega
    simp [this]

set_option maxRecDepth 100000 in
set_option maxHeartbeats 2000000 in
theorem has_any (p : Pl) (n : Nat) (hn : n < 256) (w : World) :
    Calls Tryd.prog 20 #[plv p, .int .i64 n] w fun e w' => e = .returned (.bool (p.has n)) ∧ Gr w w' := by
  have hm : n % 64 < 64 := Nat.mod_lt _ (by omega)
  have e1 : (n : Int) % 64 = ((n % 64 : Nat) : Int) := by omega
  have e2 : (n : Int) / 64 = ((n / 64 : Nat) : Int) := by omega
  obtain ⟨x, hx⟩ : ∃ x, x = p.word (n / 64) := ⟨_, rfl⟩
  have HX : Hid (p.has n = x.getLsbD (n % 64)) := by show _ = _; rw [hx]; rfl
  generalize p.has n = q at *
  have hd := div_cases hn
  generalize n / 64 = i at *
  generalize n % 64 = j at *
  obtain ⟨a, b, c, d⟩ := p
  rcases hd with rfl | rfl | rfl | rfl
  all_goals
    simp only [Pl.word] at hx
    subst hx
    go_enter Tryd.func20, Tryd.ntmps20
    go_wp2_with fail
    go_ret
    refine ⟨?_, (Gr.refl _).alloc _⟩
    rw [HX.out, ← has_bit]
    rfl

theorem BlkL.set4 {w : World} {b : Nat} {p : Pl} (h : BlkL w b p) (qa qb qc qd : BitVec 64) : BlkL ((((w.setCell ⟨b, 0, none⟩ (.int .u64 (u qa))).setCell ⟨b, 1, none⟩ (.int .u64 (u qb))).setCell ⟨b, 2, none⟩ (.int .u64 (u qc))).setCell ⟨b, 3, none⟩ (.int .u64 (u qd))) b ⟨qa, qb, qc, qd⟩ := by
  have h1 := (((Blk.set h 0 (.int .u64 (u qa))).set 1 (.int .u64 (u qb))).set 2 (.int .u64 (u qc))).set 3 (.int .u64 (u qd))
  simpa using h1

theorem BlkL.s0 {w : World} {b : Nat} {a0 b0 c0 d0 : BitVec 64} (h : BlkL w b ⟨a0, b0, c0, d0⟩) (x : BitVec 64) : BlkL (w.setCell ⟨b, 0, none⟩ (.int .u64 (u x))) b ⟨x, b0, c0, d0⟩ := by
  have h1 := Blk.set h 0 (.int .u64 (u x))
  simpa using h1
theorem BlkL.s1 {w : World} {b : Nat} {a0 b0 c0 d0 : BitVec 64} (h : BlkL w b ⟨a0, b0, c0, d0⟩) (x : BitVec 64) : BlkL (w.setCell ⟨b, 1, none⟩ (.int .u64 (u x))) b ⟨a0, x, c0, d0⟩ := by
  have h1 := Blk.set h 1 (.int .u64 (u x))
  simpa using h1
theorem BlkL.s2 {w : World} {b : Nat} {a0 b0 c0 d0 : BitVec 64} (h : BlkL w b ⟨a0, b0, c0, d0⟩) (x : BitVec 64) : BlkL (w.setCell ⟨b, 2, none⟩ (.int .u64 (u x))) b ⟨a0, b0, x, d0⟩ := by
  have h1 := Blk.set h 2 (.int .u64 (u x))
  simpa using h1
theorem BlkL.s3 {w : World} {b : Nat} {a0 b0 c0 d0 : BitVec 64} (h : BlkL w b ⟨a0, b0, c0, d0⟩) (x : BitVec 64) : BlkL (w.setCell ⟨b, 3, none⟩ (.int .u64 (u x))) b ⟨a0, b0, c0, x⟩ := by
  have h1 := Blk.set h 3 (.int .u64 (u x))
  simpa using h1

/-- A set, as far as the other one has been taken in. -/
def mixP (f : BitVec 64 → BitVec 64 → BitVec 64) (p q : Pl) : Nat → Pl
  | 0 => p
  | 1 => ⟨f p.a q.a, p.b, p.c, p.d⟩
  | 2 => ⟨f p.a q.a, f p.b q.b, p.c, p.d⟩
  | 3 => ⟨f p.a q.a, f p.b q.b, f p.c q.c, p.d⟩
  | _ => ⟨f p.a q.a, f p.b q.b, f p.c q.c, f p.d q.d⟩

theorem run_plv {w : World} {b : Nat} {p : Pl} (h : BlkL w b p) : (loadVar 50 ⟨b, 0, none⟩).run Tryd.prog w = .ok (plv p) w := run_loadVar_row w b 50 50 (plc p) (0, 0) _ h Tryd.underlying50 rfl (by kernel_rfl)

set_option maxRecDepth 100000 in
set_option maxHeartbeats 4000000 in
theorem with_any (p q : Pl) (w : World) :
    Calls Tryd.prog 34 #[plv p, plv q] w fun e w' => e = .returned (plv (p.or q)) ∧ Gr w w' := by
  have HO : Hid (mixP (fun x y => x ||| y) p q 4 = p.or q) := rfl
  obtain ⟨r, hr⟩ : ∃ r, r = p.or q := ⟨_, rfl⟩
  rw [← hr] at HO ⊢
  clear hr
  have uu := fun x y => u_or x y
  go_enter Tryd.func34, Tryd.ntmps34
  go_wp2_with fail
  generalize hW : World.alloc _ _ = W
  have h0 : BlkL W w.heap.size p := by
    rw [← hW]
    exact ((Blk.new _ _ _).alloc _).alloc _
  have h1 : BlkL W (w.heap.size + 1) q := by
    rw [← hW]
    exact (Blk.new' _ _ _ _ (by simp)).alloc _
  have h2 : BlkL W (w.heap.size + 1 + 1) Pl.zero := by
    rw [← hW]
    exact Blk.new' _ _ _ _ (by simp)
  have hg : Gr w W := by
    rw [← hW]
    exact (((Gr.refl _).alloc _).alloc _).alloc _
  clear hW
  have H0 : Hid (BlkL W w.heap.size (mixP (fun x y => x ||| y) p q 0)) := h0
  have H1 : Hid (BlkL W (w.heap.size + 1) q) := h1
  have H2 : Hid (BlkL W (w.heap.size + 1 + 1) Pl.zero) := h2
  have HG : Hid (Gr w W) := hg
  clear h0 h1 h2 hg
  go_loopw [6] (fun vi wr => ∃ k : Nat, k ≤ 4 ∧ vi = .int .i64 k ∧ Hid (BlkL wr w.heap.size (mixP (fun x y => x ||| y) p q k)) ∧ Hid (BlkL wr (w.heap.size + 1) q) ∧ Hid (BlkL wr (w.heap.size + 1 + 1) Pl.zero) ∧ Hid (Gr w wr)) (fun vi _ => 4 - (intOf vi).toNat)
  case atStart => exact ⟨0, by omega, rfl, H0, H1, H2, HG⟩
  case round =>
    obtain ⟨k, hk, rfl, J0, J1, J2, JG⟩ := hrel
    clear H0 H1 H2 HG
    obtain ⟨pa, pb, pc, pd⟩ := p
    obtain ⟨qa, qb, qc, qd⟩ := q
    obtain ⟨d0, d1, d2, d3⟩ := BlkL.cs J1.out
    obtain ⟨z0, z1, z2, z3⟩ := BlkL.cs J2.out
    have f0 := J0.out.frozen
    have f2 := J2.out.frozen
    have hc : k = 0 ∨ k = 1 ∨ k = 2 ∨ k = 3 ∨ k = 4 := by omega
    rcases hc with rfl | rfl | rfl | rfl | rfl
    case inr.inr.inr.inr =>
      rw [HO.out] at J0
      obtain ⟨c0, c1, c2, c3⟩ := BlkL.cs J0.out
      clear d0 d1 d2 d3
      have n1 : w.heap.size + 1 + 1 ≠ w.heap.size := by omega
      go_wp2_with fail
      obtain ⟨ra, rb, rc, rd⟩ := r
      have hres := run_plv (BlkL.set4 J2.out ra rb rc rd)
      refine bodyPost_ret (v := plv ⟨ra, rb, rc, rd⟩) ?_ rfl ⟨rfl, ?_⟩
      · simp [results, Tryd.results34]
        exact hres
      · exact (((JG.out.setCell (p := ⟨w.heap.size + 1 + 1, 0, none⟩) (by simp; omega) _).setCell (p := ⟨w.heap.size + 1 + 1, 1, none⟩) (by simp; omega) _).setCell (p := ⟨w.heap.size + 1 + 1, 2, none⟩) (by simp; omega) _).setCell (p := ⟨w.heap.size + 1 + 1, 3, none⟩) (by simp; omega) _
    all_goals
      obtain ⟨c0, c1, c2, c3⟩ := BlkL.cs J0.out
      simp only [mixP] at c0 c1 c2 c3
      go_wp2_with fail
      go_region
      all_goals go_wp2_with fail
      all_goals first
        | exact ⟨⟨1, by omega, rfl, BlkL.s0 J0.out _, Blk.other J1.out (by simp) _, Blk.other J2.out (by simp; omega) _, (JG.out.setCell (by simp) _).drewN 1⟩, by decide⟩
        | exact ⟨⟨2, by omega, rfl, BlkL.s1 J0.out _, Blk.other J1.out (by simp) _, Blk.other J2.out (by simp; omega) _, (JG.out.setCell (by simp) _).drewN 1⟩, by decide⟩
        | exact ⟨⟨3, by omega, rfl, BlkL.s2 J0.out _, Blk.other J1.out (by simp) _, Blk.other J2.out (by simp; omega) _, (JG.out.setCell (by simp) _).drewN 1⟩, by decide⟩
        | exact ⟨⟨4, by omega, rfl, BlkL.s3 J0.out _, Blk.other J1.out (by simp) _, Blk.other J2.out (by simp; omega) _, (JG.out.setCell (by simp) _).drewN 1⟩, by decide⟩

end Go.Proofs.YtihnmamejfoeeaaDoor
