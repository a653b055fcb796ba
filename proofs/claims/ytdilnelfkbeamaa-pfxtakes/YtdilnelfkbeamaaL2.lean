/-
  The law PfxParts.
-/
import Derived.Test.YtdilnelfkbeamaaAlv
namespace Go.Proofs.Ytdilnelfkbeamaa
open Go.RowKit

theorem cnt_take {p : Pf} {l : List Rg} {k : Nat} {x : Rg} (hx : l[k]? = some x) : cnt p (l.take (k + 1)) = cnt p (l.take k) + if inR x p then 1 else 0 := by
  rw [take_succ_of hx, cnt_append]
  simp [cnt, List.countP_cons]

theorem cnt_le (p : Pf) (l : List Rg) : cnt p l ≤ l.length := List.countP_le_length

set_option maxHeartbeats 8000000 in
theorem law_parts (a b : Rg) (p : Pf) (w : World) (ha : Num a.addr) (hb : Num b.addr) (hp : Num p.addr) :
    Calls Try.prog 8 #[gv a, gv b, pv p] w fun e w' => e = .returned (.bool true) ∧ Below w.heap.size w w' := by
  obtain ⟨a0, a1, a2, a3⟩ := a
  obtain ⟨b0, b1, b2, b3⟩ := b
  obtain ⟨P, n⟩ := p
  simp only at ha hb hp
  have kmin := fun W => minus_any ⟨a0, a1, a2, a3⟩ ⟨b0, b1, b2, b3⟩ ha hb W
  have kmeet := fun W => meet_any ⟨a0, a1, a2, a3⟩ ⟨b0, b1, b2, b3⟩ ha hb W
  have ja := fun W => in_any ⟨a0, a1, a2, a3⟩ ⟨P, n⟩ ha hp W
  have jb := fun W => in_any ⟨b0, b1, b2, b3⟩ ⟨P, n⟩ hb hp W
  have HMG : Hid (GoodG (minusR ⟨a0, a1, a2, a3⟩ ⟨b0, b1, b2, b3⟩)) := minusR_good _ _ ha hb
  have HML : Hid ((minusR ⟨a0, a1, a2, a3⟩ ⟨b0, b1, b2, b3⟩).length ≤ 34) := minusR_len _ _
  have HC : Hid (cnt ⟨P, n⟩ (minusR ⟨a0, a1, a2, a3⟩ ⟨b0, b1, b2, b3⟩) = if inR ⟨a0, a1, a2, a3⟩ ⟨P, n⟩ = true ∧ inR ⟨b0, b1, b2, b3⟩ ⟨P, n⟩ = false then 1 else 0) := cnt_minus _ _ _
  have HO : Hid (inR ⟨a0, a1, a2, a3⟩ ⟨P, n⟩ = true → inR ⟨b0, b1, b2, b3⟩ ⟨P, n⟩ = true → meetOk ⟨a0, a1, a2, a3⟩ ⟨b0, b1, b2, b3⟩ = true) := fun h k => meetOk_of_in h k
  have HI : Hid (meetOk ⟨a0, a1, a2, a3⟩ ⟨b0, b1, b2, b3⟩ = true → inR (meetX ⟨a0, a1, a2, a3⟩ ⟨b0, b1, b2, b3⟩) ⟨P, n⟩ = (inR ⟨a0, a1, a2, a3⟩ ⟨P, n⟩ && inR ⟨b0, b1, b2, b3⟩ ⟨P, n⟩)) := fun h => in_meetX _ h
  have HMn : Hid (Num (meetX ⟨a0, a1, a2, a3⟩ ⟨b0, b1, b2, b3⟩).addr) := by
    show Num (meetX ⟨a0, a1, a2, a3⟩ ⟨b0, b1, b2, b3⟩).addr
    simp only [meetX]
    split <;> assumption
  generalize meetX ⟨a0, a1, a2, a3⟩ ⟨b0, b1, b2, b3⟩ = m at *
  generalize minusR ⟨a0, a1, a2, a3⟩ ⟨b0, b1, b2, b3⟩ = R at *
  generalize meetOk ⟨a0, a1, a2, a3⟩ ⟨b0, b1, b2, b3⟩ = mk at *
  generalize inR ⟨a0, a1, a2, a3⟩ ⟨P, n⟩ = qa at *
  generalize inR ⟨b0, b1, b2, b3⟩ ⟨P, n⟩ = qb at *
  obtain ⟨m0, m1, m2, m3⟩ := m
  have jm := fun W => in_any ⟨m0, m1, m2, m3⟩ ⟨P, n⟩ HMn.out hp W
  obtain ⟨W, hW⟩ : ∃ W, W = ((w.alloc (.cells #[.int .u32 a0, .int .i64 a1, .int .i64 a2, .int .i64 a3] 28)).alloc (.cells #[.int .u32 b0, .int .i64 b1, .int .i64 b2, .int .i64 b3] 28)).alloc (.cells #[.int .u32 P, .int .i64 n] 25) := ⟨_, rfl⟩
  have HA : Hid (BlkG W w.heap.size a0 a1 a2 a3) := by rw [hW]; exact ((Blk.new _ _ _).alloc _).alloc _
  have HB : Hid (BlkG W (w.heap.size + 1) b0 b1 b2 b3) := by rw [hW]; exact (Blk.new' _ _ _ _ (by simp)).alloc _
  have HP : Hid (BlkP W (w.heap.size + 1 + 1) P n) := by rw [hW]; exact Blk.new' _ _ _ _ (by simp)
  have HG : Hid (Gr w W) := by rw [hW]; exact (((Gr.refl _).alloc _).alloc _).alloc _
  have HW2 : Hid (((w.alloc (.cells #[.int .u32 a0, .int .i64 a1, .int .i64 a2, .int .i64 a3] 28)).alloc (.cells #[.int .u32 b0, .int .i64 b1, .int .i64 b2, .int .i64 b3] 28)).alloc (.cells #[.int .u32 P, .int .i64 n] 25) = W) := hW.symm
  clear hW
  go_enter Try.func8, Try.ntmps8
  go_wp2_with fail
  rw [HW2.out]
  clear HW2
  refine (alive_any W).mono ?_
  rintro _ w1 ⟨rfl, bb1⟩
  have B1 : Hid (Below w.heap.size w w1) := bstep HG.out.below bb1
  have HA1 : Hid (BlkG w1 w.heap.size a0 a1 a2 a3) := HA.out.bel bb1
  have HB1 : Hid (BlkG w1 (w.heap.size + 1) b0 b1 b2 b3) := HB.out.bel bb1
  have HP1 : Hid (BlkP w1 (w.heap.size + 1 + 1) P n) := HP.out.bel bb1
  clear bb1 HP HA HB HG
  obtain ⟨x0, x1, x2, x3⟩ := BlkG.cs HA1.out
  obtain ⟨y0, y1, y2, y3⟩ := BlkG.cs HB1.out
  go_wp2_with fail
  refine (kmin _).mono ?_
  rintro _ w2 ⟨v2, rfl, o2, bb2⟩
  have B2 : Hid (Below w.heap.size w w2) := bstep B1.out bb2
  have HA2 : Hid (BlkG w2 w.heap.size a0 a1 a2 a3) := HA1.out.bel bb2
  have HB2 : Hid (BlkG w2 (w.heap.size + 1) b0 b1 b2 b3) := HB1.out.bel bb2
  have HP2 : Hid (BlkP w2 (w.heap.size + 1 + 1) P n) := HP1.out.bel bb2
  obtain ⟨ao, cap, hv2⟩ := o2.form
  obtain ⟨N, hN⟩ : ∃ N : Nat, N = R.length := ⟨_, rfl⟩
  have HN : Hid (N = R.length) := hN
  have HN34 : N ≤ 34 := by rw [hN]; exact HML.out
  rw [← hN] at hv2
  subst hv2
  have HR : Hid (RowG w2 (.slice ao N cap) R) := o2.row encG_len
  clear hN bb2 o2 HA1 HB1 HP1 B1 x0 x1 x2 x3 y0 y1 y2 y3 HML kmin
  go_wp2_with fail
  go_loopw [7, 19] (fun vn vi wr => ∃ k : Nat, k ≤ N ∧ vi = .int .i64 k ∧ vn = .int .i64 (cnt ⟨P, n⟩ (R.take k) : Nat) ∧ Hid (Gr w2 wr)) (fun _ vi _ => N - (intOf vi).toNat)
  case atStart => exact ⟨0, Nat.zero_le _, rfl, rfl, Gr.refl _⟩
  case round =>
    obtain ⟨k, hk, rfl, rfl, HK⟩ := hrel
    have hcl : cnt ⟨P, n⟩ (R.take k) ≤ 34 := by
      have := cnt_le ⟨P, n⟩ (R.take k)
      simp at this
      have := HN.out
      omega
    by_cases hlt : k < N
    case pos =>
      obtain ⟨y, hy⟩ : ∃ y, R[k]? = some y := ⟨_, List.getElem?_eq_getElem (by have := HN.out; omega)⟩
      obtain ⟨b, off, rfl, hb', d0, d1, d2, d3⟩ := (HR.out.gr HK.out).cs4 hy
      have jy := fun W => in_any y ⟨P, n⟩ (HMG.out.at hy) hp W
      have HCT : Hid (cnt ⟨P, n⟩ (R.take (k + 1)) = cnt ⟨P, n⟩ (R.take k) + if inR y ⟨P, n⟩ then 1 else 0) := cnt_take hy
      obtain ⟨c0, c1⟩ := BlkP.cs (HP2.out.gr HK.out)
      have cl := (HP2.out.gr HK.out).lt
      clear hy ja jb jm kmeet
      generalize inR y ⟨P, n⟩ = qy at *
      generalize cnt ⟨P, n⟩ (R.take k) = C at *
      cases qy
      all_goals
        go_wp2_with (go_at_call 13; refine (jy _).mono ?_; rintro e2 w3 ⟨rfl, gw⟩; have G3 : Hid (Gr wr w3) := ((Gr.refl _).alloc _).trans gw; clear gw)
        go_roundw
        case rel => exact ⟨k + 1, by omega, by go_num, by rw [HCT.out]; go_num, HK.out.trans G3.out⟩
        case measure => simp [intOf]; omega
    have hk2 : R.take k = R := List.take_of_length_le (by have := HN.out; omega)
    have B3 : Hid (Below w.heap.size w wr) := bstep B2.out HK.out.below
    have HA3 : Hid (BlkG wr w.heap.size a0 a1 a2 a3) := HA2.out.gr HK.out
    have HB3 : Hid (BlkG wr (w.heap.size + 1) b0 b1 b2 b3) := HB2.out.gr HK.out
    have HP3 : Hid (BlkP wr (w.heap.size + 1 + 1) P n) := HP2.out.gr HK.out
    rw [hk2, HC.out]
    clear hk2 hcl HC HR HK HMG HA2 HB2 HP2 B2
    obtain ⟨x0, x1, x2, x3⟩ := BlkG.cs HA3.out
    obtain ⟨y0, y1, y2, y3⟩ := BlkG.cs HB3.out
    cases qa <;> cases qb <;> cases mk
    case false.false.false =>
      rw [if_neg (by decide)]
      simp only [Bool.false_eq_true, if_false] at kmeet
      go_wp2_with fail
      refine (kmeet _).mono ?_
      rintro _ w4 ⟨rfl, gw⟩
      have G4 : Hid (Gr wr (w4.alloc (.cells #[.int .u32 0, .int .i64 0, .int .i64 0, .int .i64 0] 28))) := gw.alloc _
      have HM4 : Hid (Blk (w4.alloc (.cells #[.int .u32 0, .int .i64 0, .int .i64 0, .int .i64 0] 28)) w4.heap.size #[.int .u32 0, .int .i64 0, .int .i64 0, .int .i64 0] 28) := Blk.new _ _ _
      obtain ⟨f0, f1, f2, f3⟩ := BlkG.cs (HA3.out.gr gw)
      obtain ⟨h0, h1, h2, h3⟩ := BlkG.cs (HB3.out.gr gw)
      obtain ⟨p0, p1⟩ := BlkP.cs (HP3.out.gr gw)
      have fl := (HA3.out.gr gw).lt
      have hl := (HB3.out.gr gw).lt
      have pl := (HP3.out.gr gw).lt
      clear gw x0 x1 x2 x3 y0 y1 y2 y3
      go_wp2_with fail
      clear f0 f1 f2 f3 h0 h1 h2 h3 p0 p1 fl hl pl
      refine (ja _).mono ?_
      rintro _ v0 ⟨rfl, gw⟩
      have GV0 : Hid (Gr (w4.alloc (.cells #[.int .u32 0, .int .i64 0, .int .i64 0, .int .i64 0] 28)) v0) := gw
      clear gw
      obtain ⟨f0, f1, f2, f3⟩ := BlkG.cs ((HA3.out.gr G4.out).gr GV0.out)
      obtain ⟨h0, h1, h2, h3⟩ := BlkG.cs ((HB3.out.gr G4.out).gr GV0.out)
      obtain ⟨p0, p1⟩ := BlkP.cs ((HP3.out.gr G4.out).gr GV0.out)
      obtain ⟨e0, e1, e2, e3⟩ := BlkG.cs (HM4.out.gr GV0.out)
      go_wp2_with fail
      refine (ja _).mono ?_
      rintro _ v1 ⟨rfl, gw⟩
      have GV1 : Hid (Gr (w4.alloc (.cells #[.int .u32 0, .int .i64 0, .int .i64 0, .int .i64 0] 28)) v1) := GV0.out.trans gw
      clear gw f0 f1 f2 f3 h0 h1 h2 h3 p0 p1 e0 e1 e2 e3
      obtain ⟨f0, f1, f2, f3⟩ := BlkG.cs ((HA3.out.gr G4.out).gr GV1.out)
      obtain ⟨h0, h1, h2, h3⟩ := BlkG.cs ((HB3.out.gr G4.out).gr GV1.out)
      obtain ⟨p0, p1⟩ := BlkP.cs ((HP3.out.gr G4.out).gr GV1.out)
      obtain ⟨e0, e1, e2, e3⟩ := BlkG.cs (HM4.out.gr GV1.out)
      go_wp2_with fail
      go_ret
      exact ⟨rfl, bstep B3.out (G4.out.trans GV1.out).below⟩
    case false.false.true =>
      rw [if_neg (by decide)]
      simp only [if_true] at kmeet
      have HI2 : inR ⟨m0, m1, m2, m3⟩ ⟨P, n⟩ = false := HI.out rfl
      rw [HI2] at jm
      clear HI2
      go_wp2_with fail
      refine (kmeet _).mono ?_
      rintro _ w4 ⟨rfl, gw⟩
      have G4 : Hid (Gr wr (w4.alloc (.cells #[.int .u32 m0, .int .i64 m1, .int .i64 m2, .int .i64 m3] 28))) := gw.alloc _
      have HM4 : Hid (Blk (w4.alloc (.cells #[.int .u32 m0, .int .i64 m1, .int .i64 m2, .int .i64 m3] 28)) w4.heap.size #[.int .u32 m0, .int .i64 m1, .int .i64 m2, .int .i64 m3] 28) := Blk.new _ _ _
      obtain ⟨f0, f1, f2, f3⟩ := BlkG.cs (HA3.out.gr gw)
      obtain ⟨h0, h1, h2, h3⟩ := BlkG.cs (HB3.out.gr gw)
      obtain ⟨p0, p1⟩ := BlkP.cs (HP3.out.gr gw)
      have fl := (HA3.out.gr gw).lt
      have hl := (HB3.out.gr gw).lt
      have pl := (HP3.out.gr gw).lt
      clear gw x0 x1 x2 x3 y0 y1 y2 y3
      go_wp2_with fail
      clear f0 f1 f2 f3 h0 h1 h2 h3 p0 p1 fl hl pl
      refine (ja _).mono ?_
      rintro _ v0 ⟨rfl, gw⟩
      have GV0 : Hid (Gr (w4.alloc (.cells #[.int .u32 m0, .int .i64 m1, .int .i64 m2, .int .i64 m3] 28)) v0) := gw
      clear gw
      obtain ⟨f0, f1, f2, f3⟩ := BlkG.cs ((HA3.out.gr G4.out).gr GV0.out)
      obtain ⟨h0, h1, h2, h3⟩ := BlkG.cs ((HB3.out.gr G4.out).gr GV0.out)
      obtain ⟨p0, p1⟩ := BlkP.cs ((HP3.out.gr G4.out).gr GV0.out)
      obtain ⟨e0, e1, e2, e3⟩ := BlkG.cs (HM4.out.gr GV0.out)
      go_wp2_with fail
      refine (ja _).mono ?_
      rintro _ v1 ⟨rfl, gw⟩
      have GV1 : Hid (Gr (w4.alloc (.cells #[.int .u32 m0, .int .i64 m1, .int .i64 m2, .int .i64 m3] 28)) v1) := GV0.out.trans gw
      clear gw f0 f1 f2 f3 h0 h1 h2 h3 p0 p1 e0 e1 e2 e3
      obtain ⟨f0, f1, f2, f3⟩ := BlkG.cs ((HA3.out.gr G4.out).gr GV1.out)
      obtain ⟨h0, h1, h2, h3⟩ := BlkG.cs ((HB3.out.gr G4.out).gr GV1.out)
      obtain ⟨p0, p1⟩ := BlkP.cs ((HP3.out.gr G4.out).gr GV1.out)
      obtain ⟨e0, e1, e2, e3⟩ := BlkG.cs (HM4.out.gr GV1.out)
      go_wp2_with fail
      refine (jm _).mono ?_
      rintro _ v2 ⟨rfl, gw⟩
      have GV2 : Hid (Gr (w4.alloc (.cells #[.int .u32 m0, .int .i64 m1, .int .i64 m2, .int .i64 m3] 28)) v2) := GV1.out.trans gw
      clear gw f0 f1 f2 f3 h0 h1 h2 h3 p0 p1 e0 e1 e2 e3
      obtain ⟨f0, f1, f2, f3⟩ := BlkG.cs ((HA3.out.gr G4.out).gr GV2.out)
      obtain ⟨h0, h1, h2, h3⟩ := BlkG.cs ((HB3.out.gr G4.out).gr GV2.out)
      obtain ⟨p0, p1⟩ := BlkP.cs ((HP3.out.gr G4.out).gr GV2.out)
      obtain ⟨e0, e1, e2, e3⟩ := BlkG.cs (HM4.out.gr GV2.out)
      go_wp2_with fail
      go_ret
      exact ⟨rfl, bstep B3.out (G4.out.trans GV2.out).below⟩
    case false.true.false =>
      rw [if_neg (by decide)]
      simp only [Bool.false_eq_true, if_false] at kmeet
      go_wp2_with fail
      refine (kmeet _).mono ?_
      rintro _ w4 ⟨rfl, gw⟩
      have G4 : Hid (Gr wr (w4.alloc (.cells #[.int .u32 0, .int .i64 0, .int .i64 0, .int .i64 0] 28))) := gw.alloc _
      have HM4 : Hid (Blk (w4.alloc (.cells #[.int .u32 0, .int .i64 0, .int .i64 0, .int .i64 0] 28)) w4.heap.size #[.int .u32 0, .int .i64 0, .int .i64 0, .int .i64 0] 28) := Blk.new _ _ _
      obtain ⟨f0, f1, f2, f3⟩ := BlkG.cs (HA3.out.gr gw)
      obtain ⟨h0, h1, h2, h3⟩ := BlkG.cs (HB3.out.gr gw)
      obtain ⟨p0, p1⟩ := BlkP.cs (HP3.out.gr gw)
      have fl := (HA3.out.gr gw).lt
      have hl := (HB3.out.gr gw).lt
      have pl := (HP3.out.gr gw).lt
      clear gw x0 x1 x2 x3 y0 y1 y2 y3
      go_wp2_with fail
      clear f0 f1 f2 f3 h0 h1 h2 h3 p0 p1 fl hl pl
      refine (ja _).mono ?_
      rintro _ v0 ⟨rfl, gw⟩
      have GV0 : Hid (Gr (w4.alloc (.cells #[.int .u32 0, .int .i64 0, .int .i64 0, .int .i64 0] 28)) v0) := gw
      clear gw
      obtain ⟨f0, f1, f2, f3⟩ := BlkG.cs ((HA3.out.gr G4.out).gr GV0.out)
      obtain ⟨h0, h1, h2, h3⟩ := BlkG.cs ((HB3.out.gr G4.out).gr GV0.out)
      obtain ⟨p0, p1⟩ := BlkP.cs ((HP3.out.gr G4.out).gr GV0.out)
      obtain ⟨e0, e1, e2, e3⟩ := BlkG.cs (HM4.out.gr GV0.out)
      go_wp2_with fail
      refine (ja _).mono ?_
      rintro _ v1 ⟨rfl, gw⟩
      have GV1 : Hid (Gr (w4.alloc (.cells #[.int .u32 0, .int .i64 0, .int .i64 0, .int .i64 0] 28)) v1) := GV0.out.trans gw
      clear gw f0 f1 f2 f3 h0 h1 h2 h3 p0 p1 e0 e1 e2 e3
      obtain ⟨f0, f1, f2, f3⟩ := BlkG.cs ((HA3.out.gr G4.out).gr GV1.out)
      obtain ⟨h0, h1, h2, h3⟩ := BlkG.cs ((HB3.out.gr G4.out).gr GV1.out)
      obtain ⟨p0, p1⟩ := BlkP.cs ((HP3.out.gr G4.out).gr GV1.out)
      obtain ⟨e0, e1, e2, e3⟩ := BlkG.cs (HM4.out.gr GV1.out)
      go_wp2_with fail
      go_ret
      exact ⟨rfl, bstep B3.out (G4.out.trans GV1.out).below⟩
    case false.true.true =>
      rw [if_neg (by decide)]
      simp only [if_true] at kmeet
      have HI2 : inR ⟨m0, m1, m2, m3⟩ ⟨P, n⟩ = false := HI.out rfl
      rw [HI2] at jm
      clear HI2
      go_wp2_with fail
      refine (kmeet _).mono ?_
      rintro _ w4 ⟨rfl, gw⟩
      have G4 : Hid (Gr wr (w4.alloc (.cells #[.int .u32 m0, .int .i64 m1, .int .i64 m2, .int .i64 m3] 28))) := gw.alloc _
      have HM4 : Hid (Blk (w4.alloc (.cells #[.int .u32 m0, .int .i64 m1, .int .i64 m2, .int .i64 m3] 28)) w4.heap.size #[.int .u32 m0, .int .i64 m1, .int .i64 m2, .int .i64 m3] 28) := Blk.new _ _ _
      obtain ⟨f0, f1, f2, f3⟩ := BlkG.cs (HA3.out.gr gw)
      obtain ⟨h0, h1, h2, h3⟩ := BlkG.cs (HB3.out.gr gw)
      obtain ⟨p0, p1⟩ := BlkP.cs (HP3.out.gr gw)
      have fl := (HA3.out.gr gw).lt
      have hl := (HB3.out.gr gw).lt
      have pl := (HP3.out.gr gw).lt
      clear gw x0 x1 x2 x3 y0 y1 y2 y3
      go_wp2_with fail
      clear f0 f1 f2 f3 h0 h1 h2 h3 p0 p1 fl hl pl
      refine (ja _).mono ?_
      rintro _ v0 ⟨rfl, gw⟩
      have GV0 : Hid (Gr (w4.alloc (.cells #[.int .u32 m0, .int .i64 m1, .int .i64 m2, .int .i64 m3] 28)) v0) := gw
      clear gw
      obtain ⟨f0, f1, f2, f3⟩ := BlkG.cs ((HA3.out.gr G4.out).gr GV0.out)
      obtain ⟨h0, h1, h2, h3⟩ := BlkG.cs ((HB3.out.gr G4.out).gr GV0.out)
      obtain ⟨p0, p1⟩ := BlkP.cs ((HP3.out.gr G4.out).gr GV0.out)
      obtain ⟨e0, e1, e2, e3⟩ := BlkG.cs (HM4.out.gr GV0.out)
      go_wp2_with fail
      refine (ja _).mono ?_
      rintro _ v1 ⟨rfl, gw⟩
      have GV1 : Hid (Gr (w4.alloc (.cells #[.int .u32 m0, .int .i64 m1, .int .i64 m2, .int .i64 m3] 28)) v1) := GV0.out.trans gw
      clear gw f0 f1 f2 f3 h0 h1 h2 h3 p0 p1 e0 e1 e2 e3
      obtain ⟨f0, f1, f2, f3⟩ := BlkG.cs ((HA3.out.gr G4.out).gr GV1.out)
      obtain ⟨h0, h1, h2, h3⟩ := BlkG.cs ((HB3.out.gr G4.out).gr GV1.out)
      obtain ⟨p0, p1⟩ := BlkP.cs ((HP3.out.gr G4.out).gr GV1.out)
      obtain ⟨e0, e1, e2, e3⟩ := BlkG.cs (HM4.out.gr GV1.out)
      go_wp2_with fail
      refine (jm _).mono ?_
      rintro _ v2 ⟨rfl, gw⟩
      have GV2 : Hid (Gr (w4.alloc (.cells #[.int .u32 m0, .int .i64 m1, .int .i64 m2, .int .i64 m3] 28)) v2) := GV1.out.trans gw
      clear gw f0 f1 f2 f3 h0 h1 h2 h3 p0 p1 e0 e1 e2 e3
      obtain ⟨f0, f1, f2, f3⟩ := BlkG.cs ((HA3.out.gr G4.out).gr GV2.out)
      obtain ⟨h0, h1, h2, h3⟩ := BlkG.cs ((HB3.out.gr G4.out).gr GV2.out)
      obtain ⟨p0, p1⟩ := BlkP.cs ((HP3.out.gr G4.out).gr GV2.out)
      obtain ⟨e0, e1, e2, e3⟩ := BlkG.cs (HM4.out.gr GV2.out)
      go_wp2_with fail
      go_ret
      exact ⟨rfl, bstep B3.out (G4.out.trans GV2.out).below⟩
    case true.false.false =>
      rw [if_pos (by decide)]
      simp only [Bool.false_eq_true, if_false] at kmeet
      go_wp2_with fail
      refine (kmeet _).mono ?_
      rintro _ w4 ⟨rfl, gw⟩
      have G4 : Hid (Gr wr (w4.alloc (.cells #[.int .u32 0, .int .i64 0, .int .i64 0, .int .i64 0] 28))) := gw.alloc _
      have HM4 : Hid (Blk (w4.alloc (.cells #[.int .u32 0, .int .i64 0, .int .i64 0, .int .i64 0] 28)) w4.heap.size #[.int .u32 0, .int .i64 0, .int .i64 0, .int .i64 0] 28) := Blk.new _ _ _
      obtain ⟨f0, f1, f2, f3⟩ := BlkG.cs (HA3.out.gr gw)
      obtain ⟨h0, h1, h2, h3⟩ := BlkG.cs (HB3.out.gr gw)
      obtain ⟨p0, p1⟩ := BlkP.cs (HP3.out.gr gw)
      have fl := (HA3.out.gr gw).lt
      have hl := (HB3.out.gr gw).lt
      have pl := (HP3.out.gr gw).lt
      clear gw x0 x1 x2 x3 y0 y1 y2 y3
      go_wp2_with fail
      clear f0 f1 f2 f3 h0 h1 h2 h3 p0 p1 fl hl pl
      refine (ja _).mono ?_
      rintro _ v0 ⟨rfl, gw⟩
      have GV0 : Hid (Gr (w4.alloc (.cells #[.int .u32 0, .int .i64 0, .int .i64 0, .int .i64 0] 28)) v0) := gw
      clear gw
      obtain ⟨f0, f1, f2, f3⟩ := BlkG.cs ((HA3.out.gr G4.out).gr GV0.out)
      obtain ⟨h0, h1, h2, h3⟩ := BlkG.cs ((HB3.out.gr G4.out).gr GV0.out)
      obtain ⟨p0, p1⟩ := BlkP.cs ((HP3.out.gr G4.out).gr GV0.out)
      obtain ⟨e0, e1, e2, e3⟩ := BlkG.cs (HM4.out.gr GV0.out)
      go_wp2_with fail
      refine (jb _).mono ?_
      rintro _ v1 ⟨rfl, gw⟩
      have GV1 : Hid (Gr (w4.alloc (.cells #[.int .u32 0, .int .i64 0, .int .i64 0, .int .i64 0] 28)) v1) := GV0.out.trans gw
      clear gw f0 f1 f2 f3 h0 h1 h2 h3 p0 p1 e0 e1 e2 e3
      obtain ⟨f0, f1, f2, f3⟩ := BlkG.cs ((HA3.out.gr G4.out).gr GV1.out)
      obtain ⟨h0, h1, h2, h3⟩ := BlkG.cs ((HB3.out.gr G4.out).gr GV1.out)
      obtain ⟨p0, p1⟩ := BlkP.cs ((HP3.out.gr G4.out).gr GV1.out)
      obtain ⟨e0, e1, e2, e3⟩ := BlkG.cs (HM4.out.gr GV1.out)
      go_wp2_with fail
      refine (ja _).mono ?_
      rintro _ v2 ⟨rfl, gw⟩
      have GV2 : Hid (Gr (w4.alloc (.cells #[.int .u32 0, .int .i64 0, .int .i64 0, .int .i64 0] 28)) v2) := GV1.out.trans gw
      clear gw f0 f1 f2 f3 h0 h1 h2 h3 p0 p1 e0 e1 e2 e3
      obtain ⟨f0, f1, f2, f3⟩ := BlkG.cs ((HA3.out.gr G4.out).gr GV2.out)
      obtain ⟨h0, h1, h2, h3⟩ := BlkG.cs ((HB3.out.gr G4.out).gr GV2.out)
      obtain ⟨p0, p1⟩ := BlkP.cs ((HP3.out.gr G4.out).gr GV2.out)
      obtain ⟨e0, e1, e2, e3⟩ := BlkG.cs (HM4.out.gr GV2.out)
      go_wp2_with fail
      refine (jb _).mono ?_
      rintro _ v3 ⟨rfl, gw⟩
      have GV3 : Hid (Gr (w4.alloc (.cells #[.int .u32 0, .int .i64 0, .int .i64 0, .int .i64 0] 28)) v3) := GV2.out.trans gw
      clear gw f0 f1 f2 f3 h0 h1 h2 h3 p0 p1 e0 e1 e2 e3
      obtain ⟨f0, f1, f2, f3⟩ := BlkG.cs ((HA3.out.gr G4.out).gr GV3.out)
      obtain ⟨h0, h1, h2, h3⟩ := BlkG.cs ((HB3.out.gr G4.out).gr GV3.out)
      obtain ⟨p0, p1⟩ := BlkP.cs ((HP3.out.gr G4.out).gr GV3.out)
      obtain ⟨e0, e1, e2, e3⟩ := BlkG.cs (HM4.out.gr GV3.out)
      go_wp2_with fail
      go_ret
      exact ⟨rfl, bstep B3.out (G4.out.trans GV3.out).below⟩
    case true.false.true =>
      rw [if_pos (by decide)]
      simp only [if_true] at kmeet
      have HI2 : inR ⟨m0, m1, m2, m3⟩ ⟨P, n⟩ = false := HI.out rfl
      rw [HI2] at jm
      clear HI2
      go_wp2_with fail
      refine (kmeet _).mono ?_
      rintro _ w4 ⟨rfl, gw⟩
      have G4 : Hid (Gr wr (w4.alloc (.cells #[.int .u32 m0, .int .i64 m1, .int .i64 m2, .int .i64 m3] 28))) := gw.alloc _
      have HM4 : Hid (Blk (w4.alloc (.cells #[.int .u32 m0, .int .i64 m1, .int .i64 m2, .int .i64 m3] 28)) w4.heap.size #[.int .u32 m0, .int .i64 m1, .int .i64 m2, .int .i64 m3] 28) := Blk.new _ _ _
      obtain ⟨f0, f1, f2, f3⟩ := BlkG.cs (HA3.out.gr gw)
      obtain ⟨h0, h1, h2, h3⟩ := BlkG.cs (HB3.out.gr gw)
      obtain ⟨p0, p1⟩ := BlkP.cs (HP3.out.gr gw)
      have fl := (HA3.out.gr gw).lt
      have hl := (HB3.out.gr gw).lt
      have pl := (HP3.out.gr gw).lt
      clear gw x0 x1 x2 x3 y0 y1 y2 y3
      go_wp2_with fail
      clear f0 f1 f2 f3 h0 h1 h2 h3 p0 p1 fl hl pl
      refine (ja _).mono ?_
      rintro _ v0 ⟨rfl, gw⟩
      have GV0 : Hid (Gr (w4.alloc (.cells #[.int .u32 m0, .int .i64 m1, .int .i64 m2, .int .i64 m3] 28)) v0) := gw
      clear gw
      obtain ⟨f0, f1, f2, f3⟩ := BlkG.cs ((HA3.out.gr G4.out).gr GV0.out)
      obtain ⟨h0, h1, h2, h3⟩ := BlkG.cs ((HB3.out.gr G4.out).gr GV0.out)
      obtain ⟨p0, p1⟩ := BlkP.cs ((HP3.out.gr G4.out).gr GV0.out)
      obtain ⟨e0, e1, e2, e3⟩ := BlkG.cs (HM4.out.gr GV0.out)
      go_wp2_with fail
      refine (jb _).mono ?_
      rintro _ v1 ⟨rfl, gw⟩
      have GV1 : Hid (Gr (w4.alloc (.cells #[.int .u32 m0, .int .i64 m1, .int .i64 m2, .int .i64 m3] 28)) v1) := GV0.out.trans gw
      clear gw f0 f1 f2 f3 h0 h1 h2 h3 p0 p1 e0 e1 e2 e3
      obtain ⟨f0, f1, f2, f3⟩ := BlkG.cs ((HA3.out.gr G4.out).gr GV1.out)
      obtain ⟨h0, h1, h2, h3⟩ := BlkG.cs ((HB3.out.gr G4.out).gr GV1.out)
      obtain ⟨p0, p1⟩ := BlkP.cs ((HP3.out.gr G4.out).gr GV1.out)
      obtain ⟨e0, e1, e2, e3⟩ := BlkG.cs (HM4.out.gr GV1.out)
      go_wp2_with fail
      refine (ja _).mono ?_
      rintro _ v2 ⟨rfl, gw⟩
      have GV2 : Hid (Gr (w4.alloc (.cells #[.int .u32 m0, .int .i64 m1, .int .i64 m2, .int .i64 m3] 28)) v2) := GV1.out.trans gw
      clear gw f0 f1 f2 f3 h0 h1 h2 h3 p0 p1 e0 e1 e2 e3
      obtain ⟨f0, f1, f2, f3⟩ := BlkG.cs ((HA3.out.gr G4.out).gr GV2.out)
      obtain ⟨h0, h1, h2, h3⟩ := BlkG.cs ((HB3.out.gr G4.out).gr GV2.out)
      obtain ⟨p0, p1⟩ := BlkP.cs ((HP3.out.gr G4.out).gr GV2.out)
      obtain ⟨e0, e1, e2, e3⟩ := BlkG.cs (HM4.out.gr GV2.out)
      go_wp2_with fail
      refine (jb _).mono ?_
      rintro _ v3 ⟨rfl, gw⟩
      have GV3 : Hid (Gr (w4.alloc (.cells #[.int .u32 m0, .int .i64 m1, .int .i64 m2, .int .i64 m3] 28)) v3) := GV2.out.trans gw
      clear gw f0 f1 f2 f3 h0 h1 h2 h3 p0 p1 e0 e1 e2 e3
      obtain ⟨f0, f1, f2, f3⟩ := BlkG.cs ((HA3.out.gr G4.out).gr GV3.out)
      obtain ⟨h0, h1, h2, h3⟩ := BlkG.cs ((HB3.out.gr G4.out).gr GV3.out)
      obtain ⟨p0, p1⟩ := BlkP.cs ((HP3.out.gr G4.out).gr GV3.out)
      obtain ⟨e0, e1, e2, e3⟩ := BlkG.cs (HM4.out.gr GV3.out)
      go_wp2_with fail
      refine (jm _).mono ?_
      rintro _ v4 ⟨rfl, gw⟩
      have GV4 : Hid (Gr (w4.alloc (.cells #[.int .u32 m0, .int .i64 m1, .int .i64 m2, .int .i64 m3] 28)) v4) := GV3.out.trans gw
      clear gw f0 f1 f2 f3 h0 h1 h2 h3 p0 p1 e0 e1 e2 e3
      obtain ⟨f0, f1, f2, f3⟩ := BlkG.cs ((HA3.out.gr G4.out).gr GV4.out)
      obtain ⟨h0, h1, h2, h3⟩ := BlkG.cs ((HB3.out.gr G4.out).gr GV4.out)
      obtain ⟨p0, p1⟩ := BlkP.cs ((HP3.out.gr G4.out).gr GV4.out)
      obtain ⟨e0, e1, e2, e3⟩ := BlkG.cs (HM4.out.gr GV4.out)
      go_wp2_with fail
      go_ret
      exact ⟨rfl, bstep B3.out (G4.out.trans GV4.out).below⟩
    case true.true.false =>
      exact absurd (HO.out rfl rfl) (by decide)
    case true.true.true =>
      rw [if_neg (by decide)]
      simp only [if_true] at kmeet
      have HI2 : inR ⟨m0, m1, m2, m3⟩ ⟨P, n⟩ = true := HI.out rfl
      rw [HI2] at jm
      clear HI2
      go_wp2_with fail
      refine (kmeet _).mono ?_
      rintro _ w4 ⟨rfl, gw⟩
      have G4 : Hid (Gr wr (w4.alloc (.cells #[.int .u32 m0, .int .i64 m1, .int .i64 m2, .int .i64 m3] 28))) := gw.alloc _
      have HM4 : Hid (Blk (w4.alloc (.cells #[.int .u32 m0, .int .i64 m1, .int .i64 m2, .int .i64 m3] 28)) w4.heap.size #[.int .u32 m0, .int .i64 m1, .int .i64 m2, .int .i64 m3] 28) := Blk.new _ _ _
      obtain ⟨f0, f1, f2, f3⟩ := BlkG.cs (HA3.out.gr gw)
      obtain ⟨h0, h1, h2, h3⟩ := BlkG.cs (HB3.out.gr gw)
      obtain ⟨p0, p1⟩ := BlkP.cs (HP3.out.gr gw)
      have fl := (HA3.out.gr gw).lt
      have hl := (HB3.out.gr gw).lt
      have pl := (HP3.out.gr gw).lt
      clear gw x0 x1 x2 x3 y0 y1 y2 y3
      go_wp2_with fail
      clear f0 f1 f2 f3 h0 h1 h2 h3 p0 p1 fl hl pl
      refine (ja _).mono ?_
      rintro _ v0 ⟨rfl, gw⟩
      have GV0 : Hid (Gr (w4.alloc (.cells #[.int .u32 m0, .int .i64 m1, .int .i64 m2, .int .i64 m3] 28)) v0) := gw
      clear gw
      obtain ⟨f0, f1, f2, f3⟩ := BlkG.cs ((HA3.out.gr G4.out).gr GV0.out)
      obtain ⟨h0, h1, h2, h3⟩ := BlkG.cs ((HB3.out.gr G4.out).gr GV0.out)
      obtain ⟨p0, p1⟩ := BlkP.cs ((HP3.out.gr G4.out).gr GV0.out)
      obtain ⟨e0, e1, e2, e3⟩ := BlkG.cs (HM4.out.gr GV0.out)
      go_wp2_with fail
      refine (jb _).mono ?_
      rintro _ v1 ⟨rfl, gw⟩
      have GV1 : Hid (Gr (w4.alloc (.cells #[.int .u32 m0, .int .i64 m1, .int .i64 m2, .int .i64 m3] 28)) v1) := GV0.out.trans gw
      clear gw f0 f1 f2 f3 h0 h1 h2 h3 p0 p1 e0 e1 e2 e3
      obtain ⟨f0, f1, f2, f3⟩ := BlkG.cs ((HA3.out.gr G4.out).gr GV1.out)
      obtain ⟨h0, h1, h2, h3⟩ := BlkG.cs ((HB3.out.gr G4.out).gr GV1.out)
      obtain ⟨p0, p1⟩ := BlkP.cs ((HP3.out.gr G4.out).gr GV1.out)
      obtain ⟨e0, e1, e2, e3⟩ := BlkG.cs (HM4.out.gr GV1.out)
      go_wp2_with fail
      refine (ja _).mono ?_
      rintro _ v2 ⟨rfl, gw⟩
      have GV2 : Hid (Gr (w4.alloc (.cells #[.int .u32 m0, .int .i64 m1, .int .i64 m2, .int .i64 m3] 28)) v2) := GV1.out.trans gw
      clear gw f0 f1 f2 f3 h0 h1 h2 h3 p0 p1 e0 e1 e2 e3
      obtain ⟨f0, f1, f2, f3⟩ := BlkG.cs ((HA3.out.gr G4.out).gr GV2.out)
      obtain ⟨h0, h1, h2, h3⟩ := BlkG.cs ((HB3.out.gr G4.out).gr GV2.out)
      obtain ⟨p0, p1⟩ := BlkP.cs ((HP3.out.gr G4.out).gr GV2.out)
      obtain ⟨e0, e1, e2, e3⟩ := BlkG.cs (HM4.out.gr GV2.out)
      go_wp2_with fail
      refine (jb _).mono ?_
      rintro _ v3 ⟨rfl, gw⟩
      have GV3 : Hid (Gr (w4.alloc (.cells #[.int .u32 m0, .int .i64 m1, .int .i64 m2, .int .i64 m3] 28)) v3) := GV2.out.trans gw
      clear gw f0 f1 f2 f3 h0 h1 h2 h3 p0 p1 e0 e1 e2 e3
      obtain ⟨f0, f1, f2, f3⟩ := BlkG.cs ((HA3.out.gr G4.out).gr GV3.out)
      obtain ⟨h0, h1, h2, h3⟩ := BlkG.cs ((HB3.out.gr G4.out).gr GV3.out)
      obtain ⟨p0, p1⟩ := BlkP.cs ((HP3.out.gr G4.out).gr GV3.out)
      obtain ⟨e0, e1, e2, e3⟩ := BlkG.cs (HM4.out.gr GV3.out)
      go_wp2_with fail
      refine (jm _).mono ?_
      rintro _ v4 ⟨rfl, gw⟩
      have GV4 : Hid (Gr (w4.alloc (.cells #[.int .u32 m0, .int .i64 m1, .int .i64 m2, .int .i64 m3] 28)) v4) := GV3.out.trans gw
      clear gw f0 f1 f2 f3 h0 h1 h2 h3 p0 p1 e0 e1 e2 e3
      obtain ⟨f0, f1, f2, f3⟩ := BlkG.cs ((HA3.out.gr G4.out).gr GV4.out)
      obtain ⟨h0, h1, h2, h3⟩ := BlkG.cs ((HB3.out.gr G4.out).gr GV4.out)
      obtain ⟨p0, p1⟩ := BlkP.cs ((HP3.out.gr G4.out).gr GV4.out)
      obtain ⟨e0, e1, e2, e3⟩ := BlkG.cs (HM4.out.gr GV4.out)
      go_wp2_with fail
      go_ret
      exact ⟨rfl, bstep B3.out (G4.out.trans GV4.out).below⟩

end Go.Proofs.Ytdilnelfkbeamaa
