/-
  The law PfxFlat.
-/
import Derived.Test.YtdilnelfkbeamaaW18
import Derived.Test.YtdilnelfkbeamaaAlv
namespace Go.Proofs.Ytdilnelfkbeamaa
open Go.RowKit

theorem info30 : (Try.prog.info? 30).map (fun i => (i.zero, i.size, i.bytes)) = some (some (.agg #[.bool false, .int .u32 0, .int .i64 0, .int .i64 0, .int .i64 0]), 5, 40) := by kernel_rfl

theorem wp_appEall {w : World} {ops : Array Oper} {rest : List Oper} {o : Oper} {a : Act} {Q : Exit → Act → World → Prop} (hgd : o.guard = none) (s x : Operand)
    (ho : o.op = .call { callee := .builtin .append, args := #[s, x], argTypes := #[22, 22] })
    (base : Nat) (v : Value) (l : List En) (hs : a.eval s = v) (hown : OwnE base w v l) (u : Value) (m : List En) (hx : a.eval x = u) (hu : RowE w u m)
    (hl : l.length + m.length ≤ 1000000) (hbase : base ≤ w.heap.size)
    (h : ∀ v' w', OwnE base w' v' (l ++ m) → Below base w w' → wpList Try.prog ops Q rest (a.put o.dst v') w') : wpList Try.prog ops Q (o :: rest) a w :=
  wp_appXall info30 Try.underlying22 encE_len oneE rfl (by decide) (by decide) hgd s x ho base v l hs hown u m hx hu hl hbase h

theorem flatV_len (l : List En) (hg : GoodE l) : (flatV l).1.length ≤ 1000000 := by
  unfold flatV
  cases h : flatL l with
  | none => simp
  | some out => exact Nat.le_trans (flatL_facts hg h).1 (by decide)

set_option maxHeartbeats 8000000 in
theorem law_flat (v : Value) (l : List En) (w : World) (hg : GoodE l) (hl : l.length < 4611686018427387904) (hv : RowE w v l) :
    Calls Try.prog 5 #[v] w fun e w' => e = .returned (.bool true) ∧ Below w.heap.size w w' := by
  obtain ⟨ao, cap, rfl⟩ := hv.form
  obtain ⟨N, hN⟩ : ∃ N : Nat, N = l.length := ⟨_, rfl⟩
  have HN : Hid (N = l.length) := hN
  have HV : Hid (RowE w (.slice ao N cap) l) := by rw [hN]; exact hv
  have HFL : Hid ((flatV l).1.length ≤ 1000000) := flatV_len l hg
  have kf := fun v W (h : RowE W v l) (h24 : l.length ≤ 24) => flat_any v l W hg (by omega) h
  have kr := fun v W (h : RowE W v l) (h24 : l.length ≤ 24) => rflat_any v l W hg (by omega) h
  rw [← hN] at hl ⊢
  clear hv hg hN
  generalize (flatV l).2 = E at *
  generalize (flatV l).1 = X at *
  have hmx : Try.prog.follows .mixedOrders = true := by kernel_rfl
  go_enter Try.func5, Try.ntmps5
  go_wp2_with fail
  refine (alive_any w).mono ?_
  rintro _ w1 ⟨rfl, b1⟩
  have B1 : Hid (Below w.heap.size w w1) := b1
  have HV1 : Hid (RowE w1 (.slice ao N cap) l) := HV.out.bel b1
  clear b1 HV
  by_cases h24 : (24 : Int) < N
  · go_wp2_with fail
    go_ret
    exact ⟨rfl, B1.out⟩
  have h24' : l.length ≤ 24 := by have := HN.out; omega
  have HL24 : Hid (l.length ≤ 24) := h24'
  clear h24'
  have HE0 : Hid (OwnE w1.heap.size (w1.alloc (.cells #[] 30)) (.slice (some ⟨w1.heap.size, 0, none⟩) 0 0) []) := OwnX.of_blk encE_len (Blk.new _ _ _) (Nat.le_refl _) rfl rfl (by decide)
  go_wp2_with (at_builtin; refine wp_appEall rfl _ _ rfl w1.heap.size (.slice (some ⟨w1.heap.size, 0, none⟩) 0 0) [] rfl HE0.out (.slice ao N cap) l rfl (HV1.out.gr ((Gr.refl _).alloc _)) (by have := HL24.out; simp; omega) (by simp) ?_; intro v2 w2 ow2 bb2; have O2 : Hid (RowE w2 v2 l) := ow2.row encE_len; have B2 : Hid (Below w1.heap.size w1 w2) := ((Below.refl _ _).alloc (Nat.le_refl _) _).trans bb2; have HF2 := ow2.form; simp only [List.nil_append] at HF2; clear ow2 bb2)
  obtain ⟨ao2, cap2, hv2⟩ := HF2
  rw [← HN.out] at hv2
  subst hv2
  refine (kf _ _ O2.out HL24.out).mono ?_
  rintro _ w3 ⟨v3, rfl, o3, bb3⟩
  have B3 : Hid (Below w1.heap.size w1 w3) := bstep B2.out bb3
  have O3 : Hid (RowE w3 (.slice ao2 N cap2) l) := O2.out.bel bb3
  have V3 : Hid (RowE w3 (.slice ao N cap) l) := HV1.out.bel B3.out
  have R3 : Hid (RowG w3 v3 X) := o3.row encG_len
  obtain ⟨ao3, cap3, rfl⟩ := o3.form
  clear bb3 o3 O2 HV1 B2 kf
  go_wp2_with fail
  refine (kr _ _ V3.out HL24.out).mono ?_
  rintro _ w4 ⟨v4, rfl, o4, bb4⟩
  have B4 : Hid (Below w.heap.size w w4) := bstep (bstep B1.out B3.out) bb4
  have O4 : Hid (RowE w4 (.slice ao2 N cap2) l) := O3.out.bel bb4
  have V4 : Hid (RowE w4 (.slice ao N cap) l) := V3.out.bel bb4
  have R34 : Hid (RowG w4 (.slice ao3 X.length cap3) X) := R3.out.bel bb4
  have R4 : Hid (RowG w4 v4 X) := o4.row encG_len
  obtain ⟨ao4, cap4, rfl⟩ := o4.form
  clear bb4 o4 O3 V3 R3 B3 B1 kr HE0
  have hE : (E != E) = false := by simp
  go_wp2_with fail
  refine (same_true _ _ X _ HFL.out R34.out R4.out).mono ?_
  rintro _ w5 ⟨rfl, gw⟩
  have B5 : Hid (Below w.heap.size w w5) := bstep B4.out gw.below
  have O5 : Hid (RowE w5 (.slice ao2 N cap2) l) := O4.out.gr gw
  have V5 : Hid (RowE w5 (.slice ao N cap) l) := V4.out.gr gw
  clear gw B4 O4 V4 R34 R4
  go_wp2_with fail
  go_loopw [38] (fun vi wr => ∃ k : Nat, k ≤ N ∧ vi = .int .i64 k ∧ Hid (Gr w5 wr)) (fun vi _ => N - (intOf vi).toNat)
  case atStart => exact ⟨0, Nat.zero_le _, rfl, Gr.refl _⟩
  case round =>
    obtain ⟨k, hk, rfl, HG⟩ := hrel
    by_cases hlt : k < N
    case neg =>
      go_wp2_with fail
      go_ret
      exact ⟨rfl, bstep B5.out HG.out.below⟩
    obtain ⟨y, hy⟩ : ∃ y, l[k]? = some y := ⟨_, List.getElem?_eq_getElem (by have := HN.out; omega)⟩
    obtain ⟨b, off, rfl, hb, d0, d1, d2, d3, d4⟩ := (O5.out.gr HG.out).cs5 hy
    obtain ⟨b2, off2, rfl, hb2, f0, f1, f2, f3, f4⟩ := (V5.out.gr HG.out).cs5 hy
    have c0 := fun n os => cell_grown (w := wr) hb d0 n os
    have c1 := fun n os => cell_grown (w := wr) hb d1 n os
    have c2 := fun n os => cell_grown (w := wr) hb d2 n os
    have c3 := fun n os => cell_grown (w := wr) hb d3 n os
    have c4 := fun n os => cell_grown (w := wr) hb d4 n os
    have e0 := fun n os => cell_grown (w := wr) hb2 f0 n os
    have e1 := fun n os => cell_grown (w := wr) hb2 f1 n os
    have e2 := fun n os => cell_grown (w := wr) hb2 f2 n os
    have e3 := fun n os => cell_grown (w := wr) hb2 f3 n os
    have e4 := fun n os => cell_grown (w := wr) hb2 f4 n os
    have hq := fun W => neq30 y.deny y.rg.addr y.rg.len y.rg.ge y.rg.le W
    clear hy hb hb2 d0 d1 d2 d3 d4 f0 f1 f2 f3 f4
    go_wp2_with fail
    refine wp_region_quiet_grownB (by assumption) (by kernel_rfl) ?_
    repeat (refine wpQuiet_stepB (fun K hK => ?_); go_simp; first | (refine hK _ ?_; clear hK K) | (apply Exists.intro; refine ⟨fun _ => ?_, hK _ ?_⟩; fail; clear hK K))
    refine wpQuiet_nilB ?_
    intro _ hw'
    obtain ⟨⟨nq, osq⟩, hw''⟩ := hw'
    subst hw''
    go_wp2_with fail
    go_roundw
    case rel => exact ⟨k + 1, by omega, by go_num, HG.out.trans ⟨_, _, rfl⟩⟩
    case measure => simp [intOf]; omega

end Go.Proofs.Ytdilnelfkbeamaa
