/-
  Walks: at, onward, the lowest bit of a word.
-/
import Derived.Test.YtihnmamejfoeeaaDoorW4
import Derived.Lib.LaidTab
namespace Go.Proofs.YtihnmamejfoeeaaDoor
open Go.RowKit

set_option maxRecDepth 100000 in
set_option maxHeartbeats 2000000 in
theorem at_any (n : Nat) (hn : n < 256) (w : World) :
    Calls Tryd.prog 19 #[.int .i64 n] w fun e w' => e = .returned (plv (Pl.at n)) ∧ Gr w w' := by
  have hm : n % 64 < 64 := Nat.mod_lt _ (by omega)
  have e1 : (n : Int) % 64 = ((n % 64 : Nat) : Int) := by omega
  have e2 : (n : Int) / 64 = ((n / 64 : Nat) : Int) := by omega
  have e3 : IntKind.u64.wrap (2 ^ (n % 64)) = u ((1 : BitVec 64) <<< (n % 64)) := by rw [← u_one_shl, Int.one_mul]
  have e4 : IntKind.u64.wrap (1 * 2 ^ (n % 64)) = u ((1 : BitVec 64) <<< (n % 64)) := u_one_shl _
  have HX : Hid (Pl.at n = Pl.zero.put (n / 64) ((1 : BitVec 64) <<< (n % 64))) := rfl
  generalize Pl.at n = q at *
  have hd := div_cases hn
  generalize (1 : BitVec 64) <<< (n % 64) = z at *
  generalize n / 64 = i at *
  generalize n % 64 = j at *
  rcases hd with rfl | rfl | rfl | rfl
  all_goals
    have HX2 := HX.out
    simp [Pl.put, Pl.zero] at HX2
    have HQ : Hid (q = _) := HX2
    clear HX HX2
    go_enter Tryd.func19, Tryd.ntmps19
    go_wp2_with fail
    rw [HQ.out]
    refine bodyPost_ret (v := plv _) ?_ rfl ⟨rfl, ((Gr.refl _).alloc _).alloc _⟩
    simp [results, Tryd.results19]
    exact run_plv ((Blk.new _ _ _).alloc _)

theorem index50 (p : Pl) (k : Nat) (hk : k < 4) (w : World) :
    (Instr.index 50 (.agg #[.int .u64 (u p.a), .int .u64 (u p.b), .int .u64 (u p.c), .int .u64 (u p.d)]) (.int .i64 k)).run Tryd.prog w = .ok (.int .u64 (u (p.word k))) w := by
  have hu : Tryd.prog.underlying 50 = some (.array 4 48) := Tryd.underlying50
  have hz3 := Tryd.sizeOf48
  have h4 : k = 0 ∨ k = 1 ∨ k = 2 ∨ k = 3 := by omega
  rcases h4 with rfl | rfl | rfl | rfl <;> simp [Instr.index, run_underlying hu, asIntOf, go_sem, hz3, Pl.word]

/-- A set, as far as it has gone on, and what is carried. -/
def onwP (p : Pl) : Nat → Pl
  | 0 => p
  | 1 => ⟨p.a <<< 1, p.b, p.c, p.d⟩
  | 2 => ⟨p.a <<< 1, p.b <<< 1 ||| p.a >>> 63, p.c, p.d⟩
  | 3 => ⟨p.a <<< 1, p.b <<< 1 ||| p.a >>> 63, p.c <<< 1 ||| p.b >>> 63, p.d⟩
  | _ => ⟨p.a <<< 1, p.b <<< 1 ||| p.a >>> 63, p.c <<< 1 ||| p.b >>> 63, p.d <<< 1 ||| p.c >>> 63⟩
def carP (p : Pl) : Nat → BitVec 64
  | 0 => 0
  | 1 => p.a >>> 63
  | 2 => p.b >>> 63
  | 3 => p.c >>> 63
  | _ => p.d >>> 63

set_option maxRecDepth 100000 in
set_option maxHeartbeats 4000000 in
theorem onward_any (p : Pl) (w : World) :
    Calls Tryd.prog 36 #[plv p] w fun e w' => e = .returned (plv p.onw) ∧ Gr w w' := by
  have HO : Hid (onwP p 4 = p.onw) := rfl
  obtain ⟨r, hr⟩ : ∃ r, r = p.onw := ⟨_, rfl⟩
  rw [← hr] at HO ⊢
  clear hr
  have uA := fun x y => u_or x y
  have uB : ∀ x, IntKind.u64.wrap (u x * 2) = u (x <<< 1) := fun x => u_shl x 1
  have uC : ∀ x, IntKind.u64.wrap (u x * 2 ^ 1) = u (x <<< 1) := fun x => u_shl x 1
  have uD : ∀ x, u x / 2 ^ 63 = u (x >>> 63) := fun x => u_shr x 63
  have uE : ∀ x, u x / 9223372036854775808 = u (x >>> 63) := fun x => u_shr x 63
  go_enter Tryd.func36, Tryd.ntmps36
  go_wp2_with fail
  generalize hW : World.alloc _ _ = W
  have h0 : BlkL W w.heap.size p := by
    rw [← hW]
    exact (Blk.new _ _ _).alloc _
  have h2 : BlkL W (w.heap.size + 1) Pl.zero := by
    rw [← hW]
    exact Blk.new' _ _ _ _ (by simp)
  have hg : Gr w W := by
    rw [← hW]
    exact ((Gr.refl _).alloc _).alloc _
  clear hW
  have H0 : Hid (BlkL W w.heap.size (onwP p 0)) := h0
  have H2 : Hid (BlkL W (w.heap.size + 1) Pl.zero) := h2
  have HG : Hid (Gr w W) := hg
  clear h0 h2 hg
  go_loopw [3, 7] (fun vc vi wr => ∃ k : Nat, k ≤ 4 ∧ vi = .int .i64 k ∧ vc = .int .u64 (u (carP p k)) ∧ Hid (BlkL wr w.heap.size (onwP p k)) ∧ Hid (BlkL wr (w.heap.size + 1) Pl.zero) ∧ Hid (Gr w wr)) (fun _ vi _ => 4 - (intOf vi).toNat)
  case atStart => exact ⟨0, by omega, rfl, rfl, H0, H2, HG⟩
  case round =>
    obtain ⟨k, hk, rfl, rfl, J0, J2, JG⟩ := hrel
    clear H0 H2 HG
    obtain ⟨pa, pb, pc, pd⟩ := p
    have ix0 : ∀ W, (Instr.index 50 (.agg #[.int .u64 (u pa), .int .u64 (u pb), .int .u64 (u pc), .int .u64 (u pd)]) (.int .i64 0)).run Tryd.prog W = .ok (.int .u64 (u pa)) W := fun W => index50 ⟨pa, pb, pc, pd⟩ 0 (by omega) W
    have ix1 : ∀ W, (Instr.index 50 (.agg #[.int .u64 (u pa), .int .u64 (u pb), .int .u64 (u pc), .int .u64 (u pd)]) (.int .i64 1)).run Tryd.prog W = .ok (.int .u64 (u pb)) W := fun W => index50 ⟨pa, pb, pc, pd⟩ 1 (by omega) W
    have ix2 : ∀ W, (Instr.index 50 (.agg #[.int .u64 (u pa), .int .u64 (u pb), .int .u64 (u pc), .int .u64 (u pd)]) (.int .i64 2)).run Tryd.prog W = .ok (.int .u64 (u pc)) W := fun W => index50 ⟨pa, pb, pc, pd⟩ 2 (by omega) W
    have ix3 : ∀ W, (Instr.index 50 (.agg #[.int .u64 (u pa), .int .u64 (u pb), .int .u64 (u pc), .int .u64 (u pd)]) (.int .i64 3)).run Tryd.prog W = .ok (.int .u64 (u pd)) W := fun W => index50 ⟨pa, pb, pc, pd⟩ 3 (by omega) W
    obtain ⟨z0, z1, z2, z3⟩ := BlkL.cs J2.out
    have f0 := J0.out.frozen
    have f2 := J2.out.frozen
    have hc : k = 0 ∨ k = 1 ∨ k = 2 ∨ k = 3 ∨ k = 4 := by omega
    rcases hc with rfl | rfl | rfl | rfl | rfl
    case inr.inr.inr.inr =>
      rw [HO.out] at J0
      obtain ⟨c0, c1, c2, c3⟩ := BlkL.cs J0.out
      have n1 : w.heap.size + 1 ≠ w.heap.size := by omega
      go_wp2_with fail
      obtain ⟨ra, rb, rc, rd⟩ := r
      have hres := run_plv (BlkL.set4 J2.out ra rb rc rd)
      refine bodyPost_ret (v := plv ⟨ra, rb, rc, rd⟩) ?_ rfl ⟨rfl, ?_⟩
      · simp [results, Tryd.results36]
        exact hres
      · exact (((JG.out.setCell (p := ⟨w.heap.size + 1, 0, none⟩) (by simp) _).setCell (p := ⟨w.heap.size + 1, 1, none⟩) (by simp) _).setCell (p := ⟨w.heap.size + 1, 2, none⟩) (by simp) _).setCell (p := ⟨w.heap.size + 1, 3, none⟩) (by simp) _
    all_goals
      obtain ⟨c0, c1, c2, c3⟩ := BlkL.cs J0.out
      simp only [onwP, carP] at c0 c1 c2 c3 ⊢
      go_wp2_with fail
      have cr : ∀ x : BitVec 64, Value.int .u64 (u x / 9223372036854775808) = .int .u64 (u (x >>> 63)) := fun x => congrArg (Value.int .u64) (u_shr x 63)
      first
        | exact ⟨⟨1, by omega, rfl, cr _, BlkL.s0 J0.out _, Blk.other J2.out (by simp) _, JG.out.setCell (by simp) _⟩, by decide⟩
        | exact ⟨⟨2, by omega, rfl, cr _, BlkL.s1 J0.out _, Blk.other J2.out (by simp) _, JG.out.setCell (by simp) _⟩, by decide⟩
        | exact ⟨⟨3, by omega, rfl, cr _, BlkL.s2 J0.out _, Blk.other J2.out (by simp) _, JG.out.setCell (by simp) _⟩, by decide⟩
        | exact ⟨⟨4, by omega, rfl, cr _, BlkL.s3 J0.out _, Blk.other J2.out (by simp) _, JG.out.setCell (by simp) _⟩, by decide⟩

/-- The table of the lowest bits lies where it was laid. -/
def Tab (w : World) : Prop := ∀ (i : Nat) (x : Int), tab64[i]? = some x → w.cell? ⟨0, i, none⟩ = some (.int .u8 x)

set_option maxRecDepth 100000 in
set_option maxHeartbeats 2000000 in
theorem tz_any (x : BitVec 64) (hx : x ≠ 0) (w : World) (hT : Tab w) :
    Calls Tryd.prog 59 #[.int .u64 (u x)] w fun e w' => (∃ k : Nat, e = .returned (.int .i64 k) ∧ k < 64 ∧ x.getLsbD k = true ∧ ∀ j, (x &&& (x - 1)).getLsbD j = (x.getLsbD j && decide (j ≠ k))) ∧ w' = w := by
  obtain ⟨k, hk, h1, h2, h3⟩ := lowest x hx
  have h0 : (u x == 0) = false := by
    simp
    intro e
    exact hx (u_inj (e.trans u_zero.symm))
  have e1 : IntKind.u64.wrap (-(u x)) = u (-x) := u_neg x
  have e2 : bits .and .u64 (u x) (u (-x)) = u ((1 : BitVec 64) <<< k) := by rw [u_and, h2]
  have e3 : IntKind.u64.wrap (u ((1 : BitVec 64) <<< k) * 285870213051353865) = u ((1 : BitVec 64) <<< k * 285870213051353865) := u_mul _ 285870213051353865
  obtain ⟨t1, t2⟩ := tab64_at ⟨k, hk⟩
  simp only at t1 t2
  obtain ⟨i, hi⟩ : ∃ i : Nat, i = (((1 : BitVec 64) <<< k * 285870213051353865) >>> 58).toNat := ⟨_, rfl⟩
  have e4 : u ((1 : BitVec 64) <<< k * 285870213051353865) / 2 ^ 58 = (i : Int) := by rw [u_shr, hi]; rfl
  have e5 : u ((1 : BitVec 64) <<< k * 285870213051353865) / 288230376151711744 = (i : Int) := e4
  rw [← hi] at t1 t2
  have c := hT i _ t1
  clear hi t1
  have H3 : Hid (∀ j, (x &&& (x - 1)).getLsbD j = (x.getLsbD j && decide (j ≠ k))) := h3
  clear h3 h2
  generalize u ((1 : BitVec 64) <<< k * 285870213051353865) = y2 at *
  generalize u ((1 : BitVec 64) <<< k) = y1 at *
  have ti : (i : Int) < 64 := by omega
  go_enter Tryd.func59, Tryd.ntmps59
  go_wp2_with fail
  go_ret
  exact ⟨⟨k, rfl, hk, h1, H3.out⟩, rfl⟩

end Go.Proofs.YtihnmamejfoeeaaDoor
