/-
  Walks: both, without.
-/
import Derived.Test.YtihnmamejfoeeaaDoorW4
namespace Go.Proofs.YtihnmamejfoeeaaDoor
open Go.RowKit

set_option maxRecDepth 100000 in
set_option maxHeartbeats 4000000 in
theorem both_any (p q : Pl) (w : World) :
    Calls Tryd.prog 35 #[plv p, plv q] w fun e w' => e = .returned (plv (p.and q)) ∧ Gr w w' := by
  have HO : Hid (mixP (fun x y => x &&& y) p q 4 = p.and q) := rfl
  obtain ⟨r, hr⟩ : ∃ r, r = p.and q := ⟨_, rfl⟩
  rw [← hr] at HO ⊢
  clear hr
  have uu := fun x y => u_and x y
  go_enter Tryd.func35, Tryd.ntmps35
  go_wp2_with fail
  generalize hW : World.alloc _ _ = W
  have h0 : BlkL W w.heap.size p := by
    rw [← hW]
    exact ((Blk.new _ _ _).alloc _).alloc _
  have h1 : BlkL W (w.heap.size + 1) q := by
    rw [← hW]
    exact (Blk.new' _ _ _ _ (by simp)).alloc _
  have h2 : BlkL W (w.heap.size + 1 + 1) Pl.zero := by
    rw [← hW]
    exact Blk.new' _ _ _ _ (by simp)
  have hg : Gr w W := by
    rw [← hW]
    exact (((Gr.refl _).alloc _).alloc _).alloc _
  clear hW
  have H0 : Hid (BlkL W w.heap.size (mixP (fun x y => x &&& y) p q 0)) := h0
  have H1 : Hid (BlkL W (w.heap.size + 1) q) := h1
  have H2 : Hid (BlkL W (w.heap.size + 1 + 1) Pl.zero) := h2
  have HG : Hid (Gr w W) := hg
  clear h0 h1 h2 hg
  go_loopw [6] (fun vi wr => ∃ k : Nat, k ≤ 4 ∧ vi = .int .i64 k ∧ Hid (BlkL wr w.heap.size (mixP (fun x y => x &&& y) p q k)) ∧ Hid (BlkL wr (w.heap.size + 1) q) ∧ Hid (BlkL wr (w.heap.size + 1 + 1) Pl.zero) ∧ Hid (Gr w wr)) (fun vi _ => 4 - (intOf vi).toNat)
  case atStart => exact ⟨0, by omega, rfl, H0, H1, H2, HG⟩
  case round =>
    obtain ⟨k, hk, rfl, J0, J1, J2, JG⟩ := hrel
    clear H0 H1 H2 HG
    obtain ⟨pa, pb, pc, pd⟩ := p
    obtain ⟨qa, qb, qc, qd⟩ := q
    obtain ⟨d0, d1, d2, d3⟩ := BlkL.cs J1.out
    obtain ⟨z0, z1, z2, z3⟩ := BlkL.cs J2.out
    have f0 := J0.out.frozen
    have f2 := J2.out.frozen
    have hc : k = 0 ∨ k = 1 ∨ k = 2 ∨ k = 3 ∨ k = 4 := by omega
    rcases hc with rfl | rfl | rfl | rfl | rfl
    case inr.inr.inr.inr =>
      rw [HO.out] at J0
      obtain ⟨c0, c1, c2, c3⟩ := BlkL.cs J0.out
      clear d0 d1 d2 d3
      have n1 : w.heap.size + 1 + 1 ≠ w.heap.size := by omega
      go_wp2_with fail
      obtain ⟨ra, rb, rc, rd⟩ := r
      have hres := run_plv (BlkL.set4 J2.out ra rb rc rd)
      refine bodyPost_ret (v := plv ⟨ra, rb, rc, rd⟩) ?_ rfl ⟨rfl, ?_⟩
      · simp [results, Tryd.results35]
        exact hres
      · exact (((JG.out.setCell (p := ⟨w.heap.size + 1 + 1, 0, none⟩) (by simp; omega) _).setCell (p := ⟨w.heap.size + 1 + 1, 1, none⟩) (by simp; omega) _).setCell (p := ⟨w.heap.size + 1 + 1, 2, none⟩) (by simp; omega) _).setCell (p := ⟨w.heap.size + 1 + 1, 3, none⟩) (by simp; omega) _
    all_goals
      obtain ⟨c0, c1, c2, c3⟩ := BlkL.cs J0.out
      simp only [mixP] at c0 c1 c2 c3
      go_wp2_with fail
      go_region
      all_goals go_wp2_with fail
      all_goals first
        | exact ⟨⟨1, by omega, rfl, BlkL.s0 J0.out _, Blk.other J1.out (by simp) _, Blk.other J2.out (by simp; omega) _, (JG.out.setCell (by simp) _).drewN 1⟩, by decide⟩
        | exact ⟨⟨2, by omega, rfl, BlkL.s1 J0.out _, Blk.other J1.out (by simp) _, Blk.other J2.out (by simp; omega) _, (JG.out.setCell (by simp) _).drewN 1⟩, by decide⟩
        | exact ⟨⟨3, by omega, rfl, BlkL.s2 J0.out _, Blk.other J1.out (by simp) _, Blk.other J2.out (by simp; omega) _, (JG.out.setCell (by simp) _).drewN 1⟩, by decide⟩
        | exact ⟨⟨4, by omega, rfl, BlkL.s3 J0.out _, Blk.other J1.out (by simp) _, Blk.other J2.out (by simp; omega) _, (JG.out.setCell (by simp) _).drewN 1⟩, by decide⟩

set_option maxRecDepth 100000 in
set_option maxHeartbeats 4000000 in
theorem without_any (p q : Pl) (w : World) :
    Calls Tryd.prog 47 #[plv p, plv q] w fun e w' => e = .returned (plv (p.sub q)) ∧ Gr w w' := by
  have HO : Hid (mixP (fun x y => x &&& ~~~y) p q 4 = p.sub q) := rfl
  obtain ⟨r, hr⟩ : ∃ r, r = p.sub q := ⟨_, rfl⟩
  rw [← hr] at HO ⊢
  clear hr
  have uu := fun x y => u_andNot x y
  go_enter Tryd.func47, Tryd.ntmps47
  go_wp2_with fail
  generalize hW : World.alloc _ _ = W
  have h0 : BlkL W w.heap.size p := by
    rw [← hW]
    exact ((Blk.new _ _ _).alloc _).alloc _
  have h1 : BlkL W (w.heap.size + 1) q := by
    rw [← hW]
    exact (Blk.new' _ _ _ _ (by simp)).alloc _
  have h2 : BlkL W (w.heap.size + 1 + 1) Pl.zero := by
    rw [← hW]
    exact Blk.new' _ _ _ _ (by simp)
  have hg : Gr w W := by
    rw [← hW]
    exact (((Gr.refl _).alloc _).alloc _).alloc _
  clear hW
  have H0 : Hid (BlkL W w.heap.size (mixP (fun x y => x &&& ~~~y) p q 0)) := h0
  have H1 : Hid (BlkL W (w.heap.size + 1) q) := h1
  have H2 : Hid (BlkL W (w.heap.size + 1 + 1) Pl.zero) := h2
  have HG : Hid (Gr w W) := hg
  clear h0 h1 h2 hg
  go_loopw [6] (fun vi wr => ∃ k : Nat, k ≤ 4 ∧ vi = .int .i64 k ∧ Hid (BlkL wr w.heap.size (mixP (fun x y => x &&& ~~~y) p q k)) ∧ Hid (BlkL wr (w.heap.size + 1) q) ∧ Hid (BlkL wr (w.heap.size + 1 + 1) Pl.zero) ∧ Hid (Gr w wr)) (fun vi _ => 4 - (intOf vi).toNat)
  case atStart => exact ⟨0, by omega, rfl, H0, H1, H2, HG⟩
  case round =>
    obtain ⟨k, hk, rfl, J0, J1, J2, JG⟩ := hrel
    clear H0 H1 H2 HG
    obtain ⟨pa, pb, pc, pd⟩ := p
    obtain ⟨qa, qb, qc, qd⟩ := q
    obtain ⟨d0, d1, d2, d3⟩ := BlkL.cs J1.out
    obtain ⟨z0, z1, z2, z3⟩ := BlkL.cs J2.out
    have f0 := J0.out.frozen
    have f2 := J2.out.frozen
    have hc : k = 0 ∨ k = 1 ∨ k = 2 ∨ k = 3 ∨ k = 4 := by omega
    rcases hc with rfl | rfl | rfl | rfl | rfl
    case inr.inr.inr.inr =>
      rw [HO.out] at J0
      obtain ⟨c0, c1, c2, c3⟩ := BlkL.cs J0.out
      clear d0 d1 d2 d3
      have n1 : w.heap.size + 1 + 1 ≠ w.heap.size := by omega
      go_wp2_with fail
      obtain ⟨ra, rb, rc, rd⟩ := r
      have hres := run_plv (BlkL.set4 J2.out ra rb rc rd)
      refine bodyPost_ret (v := plv ⟨ra, rb, rc, rd⟩) ?_ rfl ⟨rfl, ?_⟩
      · simp [results, Tryd.results47]
        exact hres
      · exact (((JG.out.setCell (p := ⟨w.heap.size + 1 + 1, 0, none⟩) (by simp; omega) _).setCell (p := ⟨w.heap.size + 1 + 1, 1, none⟩) (by simp; omega) _).setCell (p := ⟨w.heap.size + 1 + 1, 2, none⟩) (by simp; omega) _).setCell (p := ⟨w.heap.size + 1 + 1, 3, none⟩) (by simp; omega) _
    all_goals
      obtain ⟨c0, c1, c2, c3⟩ := BlkL.cs J0.out
      simp only [mixP] at c0 c1 c2 c3
      go_wp2_with fail
      go_region
      all_goals go_wp2_with fail
      all_goals first
        | exact ⟨⟨1, by omega, rfl, BlkL.s0 J0.out _, Blk.other J1.out (by simp) _, Blk.other J2.out (by simp; omega) _, (JG.out.setCell (by simp) _).drewN 1⟩, by decide⟩
        | exact ⟨⟨2, by omega, rfl, BlkL.s1 J0.out _, Blk.other J1.out (by simp) _, Blk.other J2.out (by simp; omega) _, (JG.out.setCell (by simp) _).drewN 1⟩, by decide⟩
        | exact ⟨⟨3, by omega, rfl, BlkL.s2 J0.out _, Blk.other J1.out (by simp) _, Blk.other J2.out (by simp; omega) _, (JG.out.setCell (by simp) _).drewN 1⟩, by decide⟩
        | exact ⟨⟨4, by omega, rfl, BlkL.s3 J0.out _, Blk.other J1.out (by simp) _, Blk.other J2.out (by simp; omega) _, (JG.out.setCell (by simp) _).drewN 1⟩, by decide⟩

end Go.Proofs.YtihnmamejfoeeaaDoor
