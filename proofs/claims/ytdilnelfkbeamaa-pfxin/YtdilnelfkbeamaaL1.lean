/-
  The law PfxIn.
-/
import Derived.Test.YtdilnelfkbeamaaAlv
import Derived.Test.YtdilnelfkbeamaaW15
namespace Go.Proofs.Ytdilnelfkbeamaa
open Go.RowKit

set_option maxHeartbeats 4000000 in
theorem law_in (v : Value) (l : List En) (p : Pf) (w : World) (hp : Num p.addr) (hg : GoodE l) (hl : l.length < 4611686018427387904) (hv : RowE w v l) :
    Calls Try.prog 3 #[v, pv p] w fun e w' => e = .returned (.bool true) ∧ Below w.heap.size w w' := by
  obtain ⟨ao, cap, rfl⟩ := hv.form
  obtain ⟨N, hN⟩ : ∃ N : Nat, N = l.length := ⟨_, rfl⟩
  have HN : Hid (N = l.length) := hN
  have HV : Hid (RowE w (.slice ao N cap) l) := by rw [hN]; exact hv
  have HGd : Hid (GoodE l) := hg
  have km := fun W (h : RowE W (.slice ao N cap) l) => match_any (.slice ao N cap) l p W hp hg hl h
  have kr := fun W (h : RowE W (.slice ao N cap) l) => rmatch_any (.slice ao N cap) l p W hp hg hl h
  rw [← hN] at hl ⊢
  clear hv hg hN
  obtain ⟨P, n⟩ := p
  obtain ⟨W, hW⟩ : ∃ W, W = w.alloc (.cells #[.int .u32 P, .int .i64 n] 25) := ⟨_, rfl⟩
  have HP : Hid (BlkP W w.heap.size P n) := by rw [hW]; exact Blk.new _ _ _
  have HG : Hid (Gr w W) := by rw [hW]; exact (Gr.refl _).alloc _
  have HW2 : Hid (w.alloc (.cells #[.int .u32 P, .int .i64 n] 25) = W) := hW.symm
  clear hW
  have hmx : Try.prog.follows .mixedOrders = true := by kernel_rfl
  go_enter Try.func3, Try.ntmps3
  go_wp2_with fail
  rw [HW2.out]
  clear HW2
  refine (alive_any W).mono ?_
  rintro _ w1 ⟨rfl, b1⟩
  have B1 : Hid (Below w.heap.size w w1) := bstep HG.out.below b1
  have HP1 : Hid (BlkP w1 w.heap.size P n) := HP.out.bel b1
  have HV1 : Hid (RowE w1 (.slice ao N cap) l) := HV.out.bel B1.out
  clear b1 HP HV HG
  go_wp2_with fail
  go_loopw [11] (fun vi wr => ∃ k : Nat, k ≤ N ∧ vi = .int .i64 k ∧ Hid (Gr w1 wr)) (fun vi _ => N - (intOf vi).toNat)
  case atStart => exact ⟨0, Nat.zero_le _, rfl, Gr.refl _⟩
  case round =>
    obtain ⟨k, hk, rfl, HK⟩ := hrel
    by_cases hlt : k < N
    case neg =>
      have k1 := fun n os => km (Sort.grow (wr.drewN n) os) ((HV1.out.gr HK.out).gr ⟨n, os, rfl⟩)
      have k2 := fun n os => kr (Sort.grow (wr.drewN n) os) ((HV1.out.gr HK.out).gr ⟨n, os, rfl⟩)
      have d0 := fun n os => (BlkP.cs ((HP1.out.gr HK.out).grow n os)).1
      have d1 := fun n os => (BlkP.cs ((HP1.out.gr HK.out).grow n os)).2
      clear km kr
      generalize matchL l ⟨P, n⟩ = r at *
      go_wp2_with fail
      refine wp_region_quiet_grownB (by assumption) (by kernel_rfl) ?_
      repeat (refine wpQuiet_stepB (fun K hK => ?_); go_simp; first | (refine hK _ ?_; clear hK K) | (apply Exists.intro; refine ⟨fun _ => ?_, hK _ ?_⟩; (first | (go_at_call 15; with_reducible refine Calls.grown_of (k1 _ _)) | (go_at_call 16; with_reducible refine Calls.grown_of (k2 _ _))); clear hK K))
      refine wpQuiet_nilB ?_
      intro _ hw'
      obtain ⟨⟨nq, osq⟩, hw''⟩ := hw'
      subst hw''
      go_wp2_with fail
      go_ret
      refine ⟨?_, bstep B1.out (HK.out.trans ⟨_, _, rfl⟩).below⟩
      simp
    obtain ⟨e, he⟩ : ∃ e, l[k]? = some e := ⟨_, List.getElem?_eq_getElem (by have := HN.out; omega)⟩
    obtain ⟨b, off, rfl, hb, d0, d1, d2, d3, d4⟩ := (HV1.out.gr HK.out).cs5 he
    have he' := HGd.out.at he
    obtain ⟨dn, g0, g1, g2, g3⟩ := e
    simp only at d0 d1 d2 d3 d4 he'
    have j1 := fun W => pright_any g0 g1 g2 g3 he' W
    have j2 := fun W => rrightR_any g0 g1 g2 g3 he' W
    have j3 := fun W => in_any ⟨g0, g1, g2, g3⟩ ⟨P, n⟩ he' hp W
    have j4 := fun W => rin_any ⟨g0, g1, g2, g3⟩ ⟨P, n⟩ he' hp W
    obtain ⟨W2, hW2⟩ : ∃ W2, W2 = wr.alloc (.cells #[.bool dn, .int .u32 g0, .int .i64 g1, .int .i64 g2, .int .i64 g3] 30) := ⟨_, rfl⟩
    have HE : Hid (Blk W2 wr.heap.size #[.bool dn, .int .u32 g0, .int .i64 g1, .int .i64 g2, .int .i64 g3] 30) := by rw [hW2]; exact Blk.new _ _ _
    have HG2 : Hid (Gr w1 W2) := by rw [hW2]; exact HK.out.alloc _
    have HW3 : Hid (wr.alloc (.cells #[.bool dn, .int .u32 g0, .int .i64 g1, .int .i64 g2, .int .i64 g3] 30) = W2) := hW2.symm
    have x1 : ∀ n os, (Sort.grow (W2.drewN n) os).cell? ⟨wr.heap.size, 1, none⟩ = some (.int .u32 g0) := fun n os => (HE.out.grow n os).c 1
    have x2 : ∀ n os, (Sort.grow (W2.drewN n) os).cell? ⟨wr.heap.size, 2, none⟩ = some (.int .i64 g1) := fun n os => (HE.out.grow n os).c 2
    have x3 : ∀ n os, (Sort.grow (W2.drewN n) os).cell? ⟨wr.heap.size, 3, none⟩ = some (.int .i64 g2) := fun n os => (HE.out.grow n os).c 3
    have x4 : ∀ n os, (Sort.grow (W2.drewN n) os).cell? ⟨wr.heap.size, 4, none⟩ = some (.int .i64 g3) := fun n os => (HE.out.grow n os).c 4
    have y0 := fun n os => (BlkP.cs ((HP1.out.gr HG2.out).grow n os)).1
    have y1 := fun n os => (BlkP.cs ((HP1.out.gr HG2.out).grow n os)).2
    clear hW2 he HE km kr
    generalize rightR ⟨g0, g1, g2, g3⟩ = q1 at *
    generalize inR ⟨g0, g1, g2, g3⟩ ⟨P, n⟩ = q2 at *
    go_wp2_with fail
    rw [HW3.out]
    clear HW3 d0 d1 d2 d3 d4
    have hq1 : (q1 != q1) = false := by simp
    have hq2 : (q2 != q2) = false := by simp
    refine wp_region_quiet_grownB (by assumption) (by kernel_rfl) ?_
    repeat (refine wpQuiet_stepB (fun K hK => ?_); go_simp; first | (refine hK _ ?_; clear hK K) | (apply Exists.intro; refine ⟨fun _ => ?_, hK _ ?_⟩; (first | (go_at_call 11; with_reducible refine Calls.grown_of (j1 _)) | (go_at_call 12; with_reducible refine Calls.grown_of (j2 _)) | (go_at_call 13; with_reducible refine Calls.grown_of (j3 _)) | (go_at_call 14; with_reducible refine Calls.grown_of (j4 _))); clear hK K))
    refine wpQuiet_nilB ?_
    intro _ hw'
    obtain ⟨⟨nq, osq⟩, hw''⟩ := hw'
    subst hw''
    go_wp2_with fail
    go_roundw
    case rel => exact ⟨k + 1, by omega, by go_num, HG2.out.trans ⟨_, _, rfl⟩⟩
    case measure => simp [intOf]; omega

end Go.Proofs.Ytdilnelfkbeamaa
