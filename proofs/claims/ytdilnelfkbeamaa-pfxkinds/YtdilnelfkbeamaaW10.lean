/-
  The walk of addMinus.
-/
import Derived.Test.YtdilnelfkbeamaaW9
import Derived.Deep.RegionHeld3
namespace Go.Proofs.Ytdilnelfkbeamaa
open Go.RowKit

theorem meet_facts (a b : Rg) (ha : Num a.addr) (hb : Num b.addr) (h : meetOk a b = true) : rightR (meetX a b) = true ∧ a.len ≤ (meetX a b).len ∧ a.le ≤ 32 ∧ 0 ≤ a.len ∧ Num (meetX a b).addr := by
  obtain ⟨ra, rb, ma, mb, hl⟩ := meetOk_iff.1 h
  obtain ⟨pa, a3, a4, a5⟩ := rightR_iff.1 ra
  obtain ⟨pb, b3, b4, b5⟩ := rightR_iff.1 rb
  refine ⟨rightR_iff.2 ⟨?_, ?_, hl, ?_⟩, ?_, a5, (rightP_len pa).1, ?_⟩
  · simp only [meetX]
    split <;> assumption
  · simp only [meetX]; omega
  · simp only [meetX]; omega
  · simp only [meetX]; split <;> omega
  · simp only [meetX]; split <;> assumption

set_option maxHeartbeats 4000000 in
theorem addMinus_any (a b : Rg) (base : Nat) (v : Value) (l : List Rg) (w : World) (ha : Num a.addr) (hb : Num b.addr) (ho : OwnG base w v l) (hbase : base ≤ w.heap.size) (hl : l.length ≤ 900000) :
    Calls Try.prog 32 #[v, gv a, gv b] w fun e w' => ∃ v', e = .returned v' ∧ OwnG base w' v' (l ++ minusR a b) ∧ Below base w w' := by
  obtain ⟨ao, cap, rfl⟩ := ho.form
  obtain ⟨a0, a1, a2, a3⟩ := a
  obtain ⟨b0, b1, b2, b3⟩ := b
  simp only at ha hb
  have k1 := fun W => pright_any a0 a1 a2 a3 ha W
  have k2 := fun W => meet_any ⟨a0, a1, a2, a3⟩ ⟨b0, b1, b2, b3⟩ ha hb W
  obtain ⟨W, hW⟩ : ∃ W, W = ((w.alloc (.cells #[.slice ao l.length cap] 37)).alloc (.cells #[.int .u32 a0, .int .i64 a1, .int .i64 a2, .int .i64 a3] 28)).alloc (.cells #[.int .u32 b0, .int .i64 b1, .int .i64 b2, .int .i64 b3] 28) := ⟨_, rfl⟩
  have HO : Hid (Blk W w.heap.size #[.slice ao l.length cap] 37) := by rw [hW]; exact ((Blk.new _ _ _).alloc _).alloc _
  have HA : Hid (BlkG W (w.heap.size + 1) a0 a1 a2 a3) := by rw [hW]; exact (Blk.new' _ _ _ _ (by simp)).alloc _
  have HB : Hid (BlkG W (w.heap.size + 1 + 1) b0 b1 b2 b3) := by rw [hW]; exact Blk.new' _ _ _ _ (by simp)
  have HG : Hid (Gr w W) := by rw [hW]; exact (((Gr.refl _).alloc _).alloc _).alloc _
  have HW : Hid (OwnG base w (.slice ao l.length cap) l) := ho
  have HBs : Hid (base ≤ w.heap.size) := hbase
  have HL : Hid (l.length ≤ 900000) := hl
  have HMR : Hid (minusR ⟨a0, a1, a2, a3⟩ ⟨b0, b1, b2, b3⟩ = if rightR ⟨a0, a1, a2, a3⟩ then (if meetOk ⟨a0, a1, a2, a3⟩ ⟨b0, b1, b2, b3⟩ then minusM ⟨a0, a1, a2, a3⟩ (meetX ⟨a0, a1, a2, a3⟩ ⟨b0, b1, b2, b3⟩) else [⟨a0, a1, a2, a3⟩]) else []) := rfl
  have HMO : Hid (meetOk ⟨a0, a1, a2, a3⟩ ⟨b0, b1, b2, b3⟩ = true → rightR (meetX ⟨a0, a1, a2, a3⟩ ⟨b0, b1, b2, b3⟩) = true ∧ a1 ≤ (meetX ⟨a0, a1, a2, a3⟩ ⟨b0, b1, b2, b3⟩).len ∧ a3 ≤ 32 ∧ 0 ≤ a1 ∧ Num (meetX ⟨a0, a1, a2, a3⟩ ⟨b0, b1, b2, b3⟩).addr) := meet_facts _ _ ha hb
  generalize minusR ⟨a0, a1, a2, a3⟩ ⟨b0, b1, b2, b3⟩ = R at *
  generalize rightR ⟨a0, a1, a2, a3⟩ = q1 at *
  generalize meetOk ⟨a0, a1, a2, a3⟩ ⟨b0, b1, b2, b3⟩ = q2 at *
  obtain ⟨m, hm⟩ : ∃ m, m = meetX ⟨a0, a1, a2, a3⟩ ⟨b0, b1, b2, b3⟩ := ⟨_, rfl⟩
  rw [← hm] at k2
  have HM2 := HMO.out
  have HR2 := HMR.out
  rw [← hm] at HM2 HR2
  clear HMR HMO hm
  have HMO : Hid _ := HM2
  have HMR : Hid _ := HR2
  clear HM2 HR2
  have c0 := HO.out.c 0
  obtain ⟨d0, d1, d2, d3⟩ := BlkG.cs HA.out
  have HW2 : Hid (((w.alloc (.cells #[.slice ao l.length cap] 37)).alloc (.cells #[.int .u32 a0, .int .i64 a1, .int .i64 a2, .int .i64 a3] 28)).alloc (.cells #[.int .u32 b0, .int .i64 b1, .int .i64 b2, .int .i64 b3] 28) = W) := hW.symm
  clear hW ho hbase hl
  have hmf : ∀ (fn : Fn) (first cap : Array Value) (w : World), (Instr.makeFunc fn first cap).run Try.prog w = .ok (.func fn first cap) w := fun _ _ _ _ => rfl
  go_enter Try.func32, Try.ntmps32
  go_wp2_with fail
  rw [HW2.out]
  clear HW2
  refine (k1 W).mono ?_
  rintro e1 w1 ⟨rfl, g1⟩
  have G1 : Hid (Gr W w1) := g1
  clear g1
  have x0 := (HO.out.gr G1.out).c 0
  obtain ⟨y0, y1, y2, y3⟩ := BlkG.cs (HA.out.gr G1.out)
  obtain ⟨z0, z1, z2, z3⟩ := BlkG.cs (HB.out.gr G1.out)
  clear c0 d0 d1 d2 d3
  cases q1
  case false =>
    go_wp2_with fail
    go_ret
    refine ⟨_, rfl, ?_, ?_⟩
    · rw [HMR.out]
      simp
      exact HW.out.gr (HG.out.trans G1.out)
    · exact (HG.out.trans G1.out).below.mono HBs.out
  cases q2
  case false =>
    simp only [Bool.false_eq_true, if_false] at k2
    go_wp2_with (first
     | (go_at_call 17; refine (k2 _).mono ?_; rintro e2 w2 ⟨rfl, g2⟩; have G2 : Hid (Gr W w2) := G1.out.trans g2; clear g2; have u0 := (HO.out.gr G2.out).c 0; obtain ⟨v0, v1, v2, v3⟩ := BlkG.cs (HA.out.gr G2.out); have ul := (HO.out.gr G2.out).lt; have vl := (HA.out.gr G2.out).lt)
     | (at_builtin; refine wp_appG rfl _ _ rfl base (.slice ao l.length cap) l rfl (((HW.out.gr (HG.out.trans G2.out)).alloc _).alloc _) ⟨a0, a1, a2, a3⟩ _ rfl (Blk.new' _ _ _ _ (by simp)) (Nat.le_trans HL.out (by decide)) (by have := HBs.out; have := (HG.out.trans G2.out).below.size; simp; omega) ?_; intro g3 cap3 w3 how3 hB3 hgg hlt3))
    go_ret
    refine ⟨_, rfl, ?_, ?_⟩
    · rw [HMR.out]
      simpa using how3
    · have hg := (((HG.out.trans G2.out).alloc (.cells #[.int .u32 0, .int .i64 0, .int .i64 0, .int .i64 0] 28)).alloc (.cells #[.int .u32 a0, .int .i64 a1, .int .i64 a2, .int .i64 a3] 28))
      exact (hg.below.mono HBs.out).grown hB3 (by have := HBs.out; have := hg.below.size; omega) (fun k hk => (HW.out.lt hk).1)
  simp only [if_true] at k2
  obtain ⟨m0, m1, m2, m3⟩ := m
  obtain ⟨hrm, h1m, h3a, h0a, hnm⟩ := HMO.out rfl
  obtain ⟨pm, n1, n2, n3⟩ := rightR_iff.1 hrm
  simp only at h1m hnm n1 n2 n3
  obtain ⟨A1, rfl⟩ : ∃ A1 : Nat, a1 = A1 := ⟨a1.toNat, by omega⟩
  obtain ⟨M1, rfl⟩ : ∃ M1 : Nat, m1 = M1 := ⟨m1.toNat, by omega⟩
  have HR3 : Hid (R = piece a0 A1 a2 (m2 - 1) ++ beside m0 A1 m2 m3 (M1 - A1) ++ piece a0 A1 (m3 + 1) a3) := by
    have := HMR.out
    simp only [if_true] at this
    rw [show Hid (R = piece a0 A1 a2 (m2 - 1) ++ beside m0 A1 m2 m3 (M1 - A1) ++ piece a0 A1 (m3 + 1) a3) ↔ (R = piece a0 A1 a2 (m2 - 1) ++ beside m0 A1 m2 m3 (M1 - A1) ++ piece a0 A1 (m3 + 1) a3) from Iff.rfl, this]
    unfold minusM
    simp only
    rw [show ((M1 : Int) - (A1 : Int)).toNat = M1 - A1 by omega]
  clear HMR hrm pm HMO
  have hN : M1 ≤ 32 := by omega
  have hA : A1 ≤ M1 := by omega
  have hm2 : 0 ≤ m2 := by omega
  have hm2' : m2 ≤ 32 := by omega
  have hm3 : 0 ≤ m3 := by omega
  clear h1m h3a h0a n1
  go_wp2_with (first
     | (go_at_call 17; refine (k2 _).mono ?_; rintro e2 w2 ⟨rfl, g2⟩; have G2 : Hid (Gr W w2) := G1.out.trans g2; clear g2; have u0 := (HO.out.gr G2.out).c 0; obtain ⟨v0, v1, v2, v3⟩ := BlkG.cs (HA.out.gr G2.out); have ul := (HO.out.gr G2.out).lt; have vl := (HA.out.gr G2.out).lt))
  have hs2 := G2.out.below.size
  have hsW := HB.out.lt
  have I0 : AmI w (w2.alloc (.cells #[.int .u32 m0, .int .i64 M1, .int .i64 m2, .int .i64 m3] 28)) w.heap.size w2.heap.size base ⟨a0, A1, a2, a3⟩ ⟨m0, M1, m2, m3⟩ (.slice ao l.length cap) l :=
    ⟨(HO.out.gr G2.out).alloc _, (HA.out.gr G2.out).alloc _, Blk.new _ _ _, (HW.out.gr (HG.out.trans G2.out)).alloc _, fun k hk => (by have := (HW.out.lt hk).2; omega), (((HG.out.trans G2.out).alloc _).below.mono HBs.out), HBs.out, by omega⟩
  refine (add_am ⟨a0, A1⟩ a2 (m2 - 1) I0 (by have := HL.out; omega)).mono ?_
  rintro e3 w3 ⟨rfl, v1', I1⟩
  have HLen : Hid ((l ++ piece a0 A1 a2 (m2 - 1)).length ≤ 900001) := by
    have h1 := HL.out
    have h2 : (piece a0 A1 a2 (m2 - 1)).length ≤ 1 := by unfold piece; split <;> simp
    show (l ++ piece a0 A1 a2 (m2 - 1)).length ≤ 900001
    rw [List.length_append]
    omega
  have HI1 : Hid (AmI w w3 w.heap.size w2.heap.size base ⟨a0, A1, a2, a3⟩ ⟨m0, M1, m2, m3⟩ v1' (l ++ piece a0 A1 a2 (m2 - 1))) := I1
  obtain ⟨p0, p1, p2, p3⟩ := BlkG.cs' I1.ba
  clear I0 I1 u0 v0 v1 v2 v3 ul vl hs2 hsW x0 y0 y1 y2 y3 z0 z1 z2 z3 k1 k2 HO HA HB HG HW HL G1 G2
  generalize w.heap.size = o at *
  generalize w2.heap.size = mb at *
  go_wp2_with fail
  go_loopw [10] (fun vn wr => ∃ (k : Nat) (v : Value), A1 < k ∧ k ≤ M1 + 1 ∧ vn = .int .i64 k ∧ Hid (AmI w wr o mb base ⟨a0, A1, a2, a3⟩ ⟨m0, M1, m2, m3⟩ v (l ++ piece a0 A1 a2 (m2 - 1) ++ beside m0 A1 m2 m3 (k - 1 - A1)))) (fun vn _ => M1 + 1 - (intOf vn).toNat)
  case atStart => exact ⟨A1 + 1, v1', by omega, by omega, by go_num, by rw [show A1 + 1 - 1 - A1 = 0 by omega]; simpa [beside] using HI1⟩
  case round =>
    obtain ⟨k, vk, hk1, hk2, rfl, HK⟩ := hrel
    obtain ⟨q0, q1, q2, q3⟩ := BlkG.cs' HK.out.bm
    obtain ⟨r0, r1, r2, r3⟩ := BlkG.cs' HK.out.ba
    clear p0 p1 p2 p3 HI1
    have HLk : Hid ((l ++ piece a0 A1 a2 (m2 - 1) ++ beside m0 A1 m2 m3 (k - 1 - A1)).length ≤ 999999) := by
      have h1 := HLen.out
      show (l ++ piece a0 A1 a2 (m2 - 1) ++ beside m0 A1 m2 m3 (k - 1 - A1)).length ≤ 999999
      rw [List.length_append]
      simp only [beside, List.length_map, List.length_range]
      omega
    by_cases hk : k ≤ M1
    · obtain ⟨d, hd⟩ : ∃ d, d = k - 1 - A1 := ⟨_, rfl⟩
      have kt := fun W => turned_any m0 M1 k hnm (by omega) (by omega) W
      have HT : Hid (l ++ piece a0 A1 a2 (m2 - 1) ++ beside m0 A1 m2 m3 (k - 1 - A1) ++ piece (turnA m0 k) k m2 m3 = l ++ piece a0 A1 a2 (m2 - 1) ++ beside m0 A1 m2 m3 (k + 1 - 1 - A1)) := by
        show l ++ piece a0 A1 a2 (m2 - 1) ++ beside m0 A1 m2 m3 (k - 1 - A1) ++ piece (turnA m0 k) k m2 m3 = l ++ piece a0 A1 a2 (m2 - 1) ++ beside m0 A1 m2 m3 (k + 1 - 1 - A1)
        rw [← hd, show k + 1 - 1 - A1 = d + 1 by omega, beside_succ, show (A1 : Int) + 1 + (d : Int) = k by omega]
        unfold piece
        rw [if_pos n2]
        simp
      clear hd
      generalize turnA m0 k = T at *
      have ka := fun (W : World) (h : AmI w W o mb base ⟨a0, A1, a2, a3⟩ ⟨m0, M1, m2, m3⟩ vk (l ++ piece a0 A1 a2 (m2 - 1) ++ beside m0 A1 m2 m3 (k - 1 - A1))) => add_am ⟨T, k⟩ m2 m3 h HLk.out
      clear r0 r1 r2 r3
      go_wp2_with fail
      go_region_held3 (fun w' => w'.cell? ⟨mb, 0, none⟩ = some (.int .u32 m0) ∧ w'.cell? ⟨mb, 1, none⟩ = some (.int .i64 M1) ∧ w'.cell? ⟨mb, 2, none⟩ = some (.int .i64 m2) ∧ w'.cell? ⟨mb, 3, none⟩ = some (.int .i64 m3)) (go_keep)
        (first
          | (go_at_call 41; (with_reducible refine (kt _).mono ?_); rintro e4 w4 ⟨rfl, g4⟩; have G4 : Hid (Gr wr w4) := ((Gr.refl wr).drewN 1).trans g4; clear g4; obtain ⟨s0, s1, s2, s3⟩ := BlkG.cs' (HK.out.gr G4.out).bm)
          | (go_at_call 40; (with_reducible refine (ka _ (HK.out.gr G4.out)).mono ?_); rintro e5 w5 ⟨rfl, v5, I5⟩; obtain ⟨t0, t1, t2, t3⟩ := BlkG.cs' I5.bm; have HI5 : Hid (AmI w w5 o mb base ⟨a0, A1, a2, a3⟩ ⟨m0, M1, m2, m3⟩ v5 _) := I5; clear I5))
      go_wp2_with fail
      go_roundw
      case rel => exact ⟨k + 1, v5, by omega, by omega, by go_num, by rw [← HT.out]; exact HI5⟩
      case measure => simp [intOf]; omega
    · have HE : Hid (l ++ R = l ++ piece a0 A1 a2 (m2 - 1) ++ beside m0 A1 m2 m3 (k - 1 - A1) ++ piece a0 A1 (m3 + 1) a3) := by
        show l ++ R = l ++ piece a0 A1 a2 (m2 - 1) ++ beside m0 A1 m2 m3 (k - 1 - A1) ++ piece a0 A1 (m3 + 1) a3
        rw [HR3.out, show k - 1 - A1 = M1 - A1 by omega]
        simp
      go_wp2_with fail
      refine (add_am ⟨a0, A1⟩ (m3 + 1) a3 HK.out HLk.out).mono ?_
      rintro e4 w4 ⟨rfl, v4, I4⟩
      obtain ⟨ao4, cap4, hv4⟩ := I4.own.form
      generalize (l ++ piece a0 (A1 : Int) a2 (m2 - 1) ++ beside m0 (A1 : Int) m2 m3 (k - 1 - A1) ++ piece a0 (A1 : Int) (m3 + 1) a3).length = n4 at hv4
      subst hv4
      have f0 := I4.bo.c 0
      have HI4 : Hid (AmI w w4 o mb base ⟨a0, A1, a2, a3⟩ ⟨m0, M1, m2, m3⟩ _ _) := I4
      clear I4
      go_wp2_with fail
      go_ret
      exact ⟨_, rfl, by rw [HE.out]; exact HI4.out.own, HI4.out.below⟩

set_option maxHeartbeats 1000000 in
theorem minus_any (a b : Rg) (ha : Num a.addr) (hb : Num b.addr) (w : World) :
    Calls Try.prog 20 #[gv a, gv b] w fun e w' => ∃ v', e = .returned v' ∧ OwnG w.heap.size w' v' (minusR a b) ∧ Below w.heap.size w w' := by
  obtain ⟨a0, a1, a2, a3⟩ := a
  obtain ⟨b0, b1, b2, b3⟩ := b
  have HG : Hid (Gr w ((w.alloc (.cells #[.int .u32 a0, .int .i64 a1, .int .i64 a2, .int .i64 a3] 28)).alloc (.cells #[.int .u32 b0, .int .i64 b1, .int .i64 b2, .int .i64 b3] 28))) := ((Gr.refl _).alloc _).alloc _
  have k1 := fun W h => addMinus_any ⟨a0, a1, a2, a3⟩ ⟨b0, b1, b2, b3⟩ w.heap.size (.slice none 0 0) [] W ha hb (OwnX.nil _ _ _ _ _) h (by simp)
  go_enter Try.func20, Try.ntmps20
  go_wp2_with (go_at_call 32; refine (k1 _ HG.out.below.size).mono ?_; rintro e2 w2 ⟨v', rfl, h1, h2⟩)
  go_ret
  exact ⟨_, rfl, h1, HG.out.below.trans h2⟩

end Go.Proofs.Ytdilnelfkbeamaa
