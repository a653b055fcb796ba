/-
  The law PfxKinds.
-/
import Derived.Test.YtdilnelfkbeamaaW23
namespace Go.Proofs.Ytdilnelfkbeamaa
open Go.RowKit

set_option maxHeartbeats 8000000 in
theorem law_kinds (v : Value) (l : List Rg) (w : World) (hg : GoodG l) (hl : l.length < 4611686018427387904) (hv : RowG w v l) :
    Calls Try.prog 6 #[v] w fun e w' => e = .returned (.bool true) ∧ Below w.heap.size w w' := by
  obtain ⟨ao, cap, rfl⟩ := hv.form
  obtain ⟨N, hN⟩ : ∃ N : Nat, N = l.length := ⟨_, rfl⟩
  have HN : Hid (N = l.length) := hN
  have HV : Hid (RowG w (.slice ao N cap) l) := by rw [hN]; exact hv
  have HGd : Hid (GoodG l) := hg
  rw [← hN] at hl ⊢
  clear hv hg hN
  have hmx : Try.prog.follows .mixedOrders = true := by kernel_rfl
  go_enter Try.func6, Try.ntmps6
  go_wp2_with fail
  refine (alive_any w).mono ?_
  rintro _ w1 ⟨rfl, b1⟩
  have B1 : Hid (Below w.heap.size w w1) := b1
  have HV1 : Hid (RowG w1 (.slice ao N cap) l) := HV.out.bel b1
  clear b1 HV
  by_cases h64 : (64 : Int) < N
  · have h10 : (10 : Int) < N := by omega
    have k1 := kinds_full (.slice ao N cap) l w1 (by have := HN.out; omega) HV1.out
    have k2 := rkinds_full (.slice ao N cap) l w1 (by have := HN.out; omega) HV1.out
    go_wp2_with fail
    refine k1.mono ?_
    rintro _ w2 ⟨rfl, e2⟩
    rw [e2]
    clear e2 w2
    go_wp2_with fail
    refine k2.mono ?_
    rintro _ w2 ⟨rfl, e2⟩
    rw [e2]
    clear e2 w2
    go_wp2_with fail
    refine wp_loop_rounds 1 ?_
    rw [rounds_succ]
    go_wp2_with fail
    go_ret
    exact ⟨rfl, B1.out⟩
  by_cases h10 : (10 : Int) < N
  · go_wp2_with fail
    go_ret
    exact ⟨rfl, B1.out⟩
  have hN64 : l.length ≤ 64 := by have := HN.out; omega
  go_wp2_with fail
  refine (kinds_any (.slice ao N cap) l w1 hN64 HGd.out HV1.out).mono ?_
  rintro _ w2 ⟨u, out, rfl, hik, hol, hru, bb2⟩
  have B2 : Hid (Below w.heap.size w w2) := bstep B1.out bb2
  have HV2 : Hid (RowG w2 (.slice ao N cap) l) := HV1.out.bel bb2
  have HR2 : Hid (RowP w2 u out) := hru
  have HIK : Hid (IsKinds l out) := hik
  obtain ⟨ao5, cap5, rfl⟩ := hru.form
  clear bb2 hru hik B1 HV1
  go_wp2_with fail
  refine (rkinds_any (.slice ao N cap) l w2 hN64 HGd.out HV2.out).mono ?_
  rintro _ w3 ⟨u', out', rfl, hik', _, hru', bb3⟩
  have ho : out' = out := hik'.unique HIK.out
  subst ho
  have B3 : Hid (Below w.heap.size w w3) := bstep B2.out bb3
  have HR3 : Hid (RowP w3 (.slice ao5 out'.length cap5) out') := HR2.out.bel bb3
  have HS3 : Hid (RowP w3 u' out') := hru'
  obtain ⟨ao6, cap6, rfl⟩ := hru'.form
  clear bb3 hru' hik' B2 HV2 HR2 HIK
  obtain ⟨M, hM⟩ : ∃ M : Nat, M = out'.length := ⟨_, rfl⟩
  rw [← hM] at HR3 HS3 hol ⊢
  have HM : Hid (M = out'.length) := hM
  clear hM
  go_wp2_with fail
  go_loopw [40] (fun vi wr => ∃ k : Nat, k ≤ M ∧ vi = .int .i64 k ∧ Hid (Gr w3 wr)) (fun vi _ => M - (intOf vi).toNat)
  case atStart => exact ⟨0, Nat.zero_le _, rfl, Gr.refl _⟩
  case round =>
    obtain ⟨k, hk, rfl, HG⟩ := hrel
    by_cases hlt : k < M
    case neg =>
      go_wp2_with fail
      go_ret
      exact ⟨rfl, bstep B3.out HG.out.below⟩
    obtain ⟨y, hy⟩ : ∃ y, out'[k]? = some y := ⟨_, List.getElem?_eq_getElem (by have := HM.out; omega)⟩
    obtain ⟨b, off, rfl, hb, d0, d1⟩ := (HR3.out.gr HG.out).cs2 hy
    obtain ⟨b2, off2, rfl, hb2, f0, f1⟩ := (HS3.out.gr HG.out).cs2 hy
    have c0 := fun n os => cell_grown (w := wr) hb d0 n os
    have c1 := fun n os => cell_grown (w := wr) hb d1 n os
    have e0 := fun n os => cell_grown (w := wr) hb2 f0 n os
    have e1 := fun n os => cell_grown (w := wr) hb2 f1 n os
    have hq := fun W => neq25 y.addr y.len y.addr y.len W
    simp only [beq_self_eq_true, Bool.and_self, Bool.not_true] at hq
    clear hy hb hb2 d0 d1 f0 f1
    go_wp2_with fail
    refine wp_region_quiet_grownB (by assumption) (by kernel_rfl) ?_
    repeat (refine wpQuiet_stepB (fun K hK => ?_); go_simp; first | (refine hK _ ?_; clear hK K) | (apply Exists.intro; refine ⟨fun _ => ?_, hK _ ?_⟩; fail; clear hK K))
    refine wpQuiet_nilB ?_
    intro _ hw'
    obtain ⟨⟨nq, osq⟩, hw''⟩ := hw'
    subst hw''
    go_wp2_with fail
    go_roundw
    case rel => exact ⟨k + 1, by omega, by go_num, HG.out.trans ⟨_, _, rfl⟩⟩
    case measure => simp [intOf]; omega

end Go.Proofs.Ytdilnelfkbeamaa
