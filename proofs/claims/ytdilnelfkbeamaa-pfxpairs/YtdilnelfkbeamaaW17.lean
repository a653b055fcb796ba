/-
  The walk of the document's Minus.
-/
import Derived.Test.YtdilnelfkbeamaaW16
import Derived.Deep.LoopGhost
import Derived.Deep.DeepCutAuto
import Derived.Deep.CutBlock
import Derived.Test.YtdilnelfkbeamaaW9
import Derived.Test.YtdilnelfkbeamaaW10
import Derived.Test.YtdilnelfkbeamaaMath3
namespace Go.Proofs.Ytdilnelfkbeamaa
open Go.RowKit

/-- A new block as a row. -/
theorem OwnX.of_blk {α : Type} {f : α → List Value} {n : Nat} {t : TypeId} {base : Nat} {W : World} {b : Nat} {cs : Array Value} {l : List α} {m : Nat} (hf : ∀ x, (f x).length = n) (h : Blk W b cs t) (hb : base ≤ b) (hcs : cs.toList = cellsOf f l) (hm : m = l.length) (hmx : m ≤ maxLen) : OwnX f n t base W (.slice (some ⟨b, 0, none⟩) m m) l := by
  subst hm
  have hsz : cs.size = l.length * n := by rw [← Array.length_toList, hcs, cellsOf_length hf]
  refine ⟨cellsOf_length hf l, .inr ⟨b, l.length, cs, rfl, hb, h, Nat.le_refl _, hmx, hsz, ?_⟩⟩
  rw [hcs]
  exact List.take_of_length_le (by rw [cellsOf_length hf]; omega)

theorem turn_facts (m0 : Int) (k : Nat) (hm : Num m0) (h1 : 1 ≤ k) (h2 : k ≤ 32) : ∃ A s Q T : Int, A = maskA m0 k ∧ s = szN (32 - k) ∧ T = turnA m0 k ∧ A / s = Q ∧ 1 ≤ s ∧ s ≤ 2147483648 ∧ 0 ≤ A ∧ A ≤ 4294967295 ∧ 0 ≤ Q ∧ Q ≤ 4294967295 ∧ 0 ≤ T ∧ T ≤ 4294967295 ∧ (Q % 2 = 1 → A - s = T) ∧ (¬ Q % 2 = 1 → A + s = T) := by
  have hs : sz (k : Int) = szN (32 - k) := by
    unfold sz
    rw [clampL_of (by omega) (by omega)]
    congr 1
    omega
  have hp := szN_pos (32 - k)
  have hA := maskA_range (n := (k : Int)) hm
  have hT := turnA_range (n := (k : Int)) hm (by omega) (by omega)
  have hle : szN (32 - k) ≤ 2147483648 := by
    have : (2 : Nat) ^ (32 - k) ≤ 2 ^ 31 := Nat.pow_le_pow_right (by omega) (by omega)
    unfold szN
    omega
  have hq : maskA m0 k / szN (32 - k) = m0 / szN (32 - k) := by
    unfold maskA
    rw [hs, Int.mul_ediv_cancel _ (by omega)]
  refine ⟨_, _, m0 / szN (32 - k), _, rfl, rfl, rfl, hq, hp, hle, hA.1, hA.2, Int.ediv_nonneg hm.1 (by omega), ?_, hT.1, hT.2, fun h => ?_, fun h => ?_⟩
  · have := Int.ediv_le_self (b := szN (32 - k)) hm.1
    have := hm.2
    omega
  · unfold turnA maskA
    rw [hs, if_pos h, Int.sub_mul, Int.one_mul]
  · unfold turnA maskA
    rw [hs, if_neg h, Int.add_mul, Int.one_mul]

set_option maxRecDepth 100000 in
set_option maxHeartbeats 8000000 in
theorem rminus_any (a b : Rg) (ha : Num a.addr) (hb : Num b.addr) (w : World) :
    Calls Try.prog 21 #[gv a, gv b] w fun e w' => ∃ v', e = .returned v' ∧ OwnG w.heap.size w' v' (minusR a b) ∧ Below w.heap.size w w' := by
  obtain ⟨a0, a1, a2, a3⟩ := a
  obtain ⟨b0, b1, b2, b3⟩ := b
  simp only at ha hb
  have k1 := fun W => rrightR_any a0 a1 a2 a3 ha W
  have k2 := fun W => rmeet_any ⟨a0, a1, a2, a3⟩ ⟨b0, b1, b2, b3⟩ ha hb W
  obtain ⟨W, hW⟩ : ∃ W, W = (w.alloc (.cells #[.int .u32 a0, .int .i64 a1, .int .i64 a2, .int .i64 a3] 28)).alloc (.cells #[.int .u32 b0, .int .i64 b1, .int .i64 b2, .int .i64 b3] 28) := ⟨_, rfl⟩
  have HA : Hid (BlkG W w.heap.size a0 a1 a2 a3) := by rw [hW]; exact (Blk.new _ _ _).alloc _
  have HB : Hid (BlkG W (w.heap.size + 1) b0 b1 b2 b3) := by rw [hW]; exact Blk.new' _ _ _ _ (by simp)
  have HG : Hid (Gr w W) := by rw [hW]; exact ((Gr.refl _).alloc _).alloc _
  have HMR : Hid (minusR ⟨a0, a1, a2, a3⟩ ⟨b0, b1, b2, b3⟩ = if rightR ⟨a0, a1, a2, a3⟩ then (if meetOk ⟨a0, a1, a2, a3⟩ ⟨b0, b1, b2, b3⟩ then minusM ⟨a0, a1, a2, a3⟩ (meetX ⟨a0, a1, a2, a3⟩ ⟨b0, b1, b2, b3⟩) else [⟨a0, a1, a2, a3⟩]) else []) := rfl
  have HMO : Hid (meetOk ⟨a0, a1, a2, a3⟩ ⟨b0, b1, b2, b3⟩ = true → rightR (meetX ⟨a0, a1, a2, a3⟩ ⟨b0, b1, b2, b3⟩) = true ∧ a1 ≤ (meetX ⟨a0, a1, a2, a3⟩ ⟨b0, b1, b2, b3⟩).len ∧ a3 ≤ 32 ∧ 0 ≤ a1 ∧ Num (meetX ⟨a0, a1, a2, a3⟩ ⟨b0, b1, b2, b3⟩).addr) := meet_facts _ _ ha hb
  generalize minusR ⟨a0, a1, a2, a3⟩ ⟨b0, b1, b2, b3⟩ = R at *
  generalize rightR ⟨a0, a1, a2, a3⟩ = q1 at *
  generalize meetOk ⟨a0, a1, a2, a3⟩ ⟨b0, b1, b2, b3⟩ = q2 at *
  obtain ⟨m, hm⟩ : ∃ m, m = meetX ⟨a0, a1, a2, a3⟩ ⟨b0, b1, b2, b3⟩ := ⟨_, rfl⟩
  rw [← hm] at k2
  have HM2 := HMO.out
  have HR2 := HMR.out
  rw [← hm] at HM2 HR2
  clear HMR HMO hm
  have HMO : Hid _ := HM2
  have HMR : Hid _ := HR2
  clear HM2 HR2
  obtain ⟨d0, d1, d2, d3⟩ := BlkG.cs HA.out
  have HW2 : Hid ((w.alloc (.cells #[.int .u32 a0, .int .i64 a1, .int .i64 a2, .int .i64 a3] 28)).alloc (.cells #[.int .u32 b0, .int .i64 b1, .int .i64 b2, .int .i64 b3] 28) = W) := hW.symm
  clear hW
  go_enter Try.func21, Try.ntmps21
  go_wp2_with fail
  rw [HW2.out]
  clear HW2
  refine (k1 W).mono ?_
  rintro e1 w1 ⟨rfl, g1⟩
  have G1 : Hid (Gr W w1) := g1
  clear g1
  obtain ⟨y0, y1, y2, y3⟩ := BlkG.cs (HA.out.gr G1.out)
  obtain ⟨z0, z1, z2, z3⟩ := BlkG.cs (HB.out.gr G1.out)
  clear d0 d1 d2 d3
  cases q1
  case false =>
    go_wp2_with fail
    go_ret
    refine ⟨_, rfl, ?_, (HG.out.trans G1.out).below⟩
    rw [HMR.out]
    exact OwnX.nil _ _ _ _ _
  cases q2
  case false =>
    simp only [Bool.false_eq_true, if_false] at k2
    go_wp2_with (go_at_call 18; refine (k2 _).mono ?_; rintro e2 w2 ⟨rfl, g2⟩; have G2 : Hid (Gr W w2) := G1.out.trans g2; clear g2; obtain ⟨v0, v1, v2, v3⟩ := BlkG.cs (HA.out.gr G2.out); have vl := (HA.out.gr G2.out).lt)
    go_ret
    refine ⟨_, rfl, ?_, (((HG.out.trans G2.out).alloc _).alloc _).below⟩
    rw [HMR.out]
    exact OwnX.of_blk encG_len (Blk.new' _ _ _ _ (by simp)) (by have := (HG.out.trans G2.out).below.size; omega) rfl rfl (by decide)
  simp only [if_true] at k2
  obtain ⟨m0, m1, m2, m3⟩ := m
  obtain ⟨hrm, h1m, h3a, h0a, hnm⟩ := HMO.out rfl
  obtain ⟨pm, n1, n2, n3⟩ := rightR_iff.1 hrm
  simp only at h1m hnm n1 n2 n3
  obtain ⟨A1, rfl⟩ : ∃ A1 : Nat, a1 = A1 := ⟨a1.toNat, by omega⟩
  obtain ⟨M1, rfl⟩ : ∃ M1 : Nat, m1 = M1 := ⟨m1.toNat, by omega⟩
  have HR3 : Hid (R = piece a0 A1 a2 (m2 - 1) ++ beside m0 A1 m2 m3 (M1 - A1) ++ piece a0 A1 (m3 + 1) a3) := by
    have := HMR.out
    simp only [if_true] at this
    rw [show Hid (R = piece a0 A1 a2 (m2 - 1) ++ beside m0 A1 m2 m3 (M1 - A1) ++ piece a0 A1 (m3 + 1) a3) ↔ (R = piece a0 A1 a2 (m2 - 1) ++ beside m0 A1 m2 m3 (M1 - A1) ++ piece a0 A1 (m3 + 1) a3) from Iff.rfl, this]
    unfold minusM
    simp only
    rw [show ((M1 : Int) - (A1 : Int)).toNat = M1 - A1 by omega]
  clear HMR hrm pm HMO
  have hN : M1 ≤ 32 := by omega
  have hA : A1 ≤ M1 := by omega
  have hm2 : 0 ≤ m2 := by omega
  have hm2' : m2 ≤ 32 := by omega
  have hm3 : 0 ≤ m3 := by omega
  clear h1m h3a h0a n1
  go_wp2_with fail
  refine (k2 _).mono ?_
  rintro e2 w2 ⟨rfl, g2⟩
  have G2 : Hid (Gr W w2) := G1.out.trans g2
  clear g2
  obtain ⟨W3, hW3⟩ : ∃ W3, W3 = w2.alloc (.cells #[.int .u32 m0, .int .i64 M1, .int .i64 m2, .int .i64 m3] 28) := ⟨_, rfl⟩
  have HA3 : Hid (BlkG W3 w.heap.size a0 A1 a2 a3) := by rw [hW3]; exact (HA.out.gr G2.out).alloc _
  have HM3 : Hid (BlkG W3 w2.heap.size m0 M1 m2 m3) := by rw [hW3]; exact Blk.new _ _ _
  have HG3 : Hid (Gr w W3) := by rw [hW3]; exact (HG.out.trans G2.out).alloc _
  have HW3 : Hid (w2.alloc (.cells #[.int .u32 m0, .int .i64 M1, .int .i64 m2, .int .i64 m3] 28) = W3) := hW3.symm
  have v0 := (BlkG.cs (HA.out.gr G2.out)).1
  have v1 := (BlkG.cs (HA.out.gr G2.out)).2.1
  have v2 := (BlkG.cs (HA.out.gr G2.out)).2.2.1
  have v3 := (BlkG.cs (HA.out.gr G2.out)).2.2.2
  have vl := (HA.out.gr G2.out).lt
  clear hW3 y0 y1 y2 y3 z0 z1 z2 z3 k1 k2 G1 HA HB
  have HNil : Hid (OwnG W3.heap.size W3 (.slice none 0 0) []) := OwnX.nil _ _ _ _ _
  have HRf : Hid (Below W3.heap.size W3 W3) := Below.refl _ _
  have HP1 : Hid ((piece a0 A1 a2 (m2 - 1)).length ≤ 1) := piece_len _ _ _ _
  go_upto_if 29 with fail
  rw [HW3.out]
  clear HW3 v0 v1 v2 v3 vl
  go_cut [7] (fun v7 wx => Hid (OwnG W3.heap.size wx v7 (piece a0 A1 a2 (m2 - 1))) ∧ Hid (Below W3.heap.size W3 wx))
  case first =>
    obtain ⟨c0, c1, c2, c3⟩ := BlkG.cs HA3.out
    obtain ⟨f0, f1, f2, f3⟩ := BlkG.cs HM3.out
    have cl := HA3.out.lt
    have fl := HM3.out.lt
    by_cases h1 : a2 < m2
    · have HPe : Hid (piece a0 A1 a2 (m2 - 1) = [⟨a0, A1, a2, m2 - 1⟩]) := by
        show piece a0 A1 a2 (m2 - 1) = [⟨a0, A1, a2, m2 - 1⟩]
        unfold piece
        rw [if_pos (by omega)]
      go_wp2_with (at_builtin; refine wp_appG rfl _ _ rfl W3.heap.size (.slice none 0 0) [] rfl (HNil.out.alloc _) ⟨a0, A1, a2, m2 - 1⟩ _ rfl (Blk.new' _ _ _ _ (by simp)) (Nat.zero_le _) (Nat.le_trans HRf.out.size (by simp)) ?_; intro g1 cp1 wq1 hw1 hbq1 _ _; have HQ1 : Hid (OwnG W3.heap.size wq1 _ _) := hw1; have HBQ1 : Hid (Below W3.heap.size W3 wq1) := (HRf.out.alloc HRf.out.size _).grown hbq1 (Nat.le_trans HRf.out.size (by simp)) (fun k hk => (HNil.out.lt hk).1); clear hw1 hbq1)
      go_meet
      case rel => exact ⟨by rw [HPe.out]; exact HQ1, HBQ1⟩
    · have HPe : Hid (piece a0 A1 a2 (m2 - 1) = []) := by
        show piece a0 A1 a2 (m2 - 1) = []
        unfold piece
        rw [if_neg (by omega)]
      go_wp2_with fail
      go_meet
      case rel => exact ⟨by rw [HPe.out]; exact HNil, HRf⟩
  case rest =>
    obtain ⟨HO7, HB7⟩ := hcut
    clear HNil HRf
    have c1 := (BlkG.cs (HA3.out.bel HB7.out)).2.1
    have cl := (HA3.out.bel HB7.out).lt
    go_wp2_with fail
    go_loopw [7, 8] (fun vo vn wr => ∃ k : Nat, A1 < k ∧ k ≤ M1 + 1 ∧ vn = .int .i64 k ∧ Hid (OwnG W3.heap.size wr vo (piece a0 (A1 : Int) a2 (m2 - 1) ++ beside m0 (A1 : Int) m2 m3 (k - 1 - A1))) ∧ Hid (Below W3.heap.size W3 wr)) (fun _ vn _ => M1 + 1 - (intOf vn).toNat)
    case atStart => exact ⟨A1 + 1, by omega, by omega, by go_num, by rw [show A1 + 1 - 1 - A1 = 0 by omega]; simpa [beside] using HO7, HB7⟩
    case round =>
      obtain ⟨k, hk1, hk2, rfl, HOk, HBk⟩ := hrel
      clear HO7 HB7 c1 cl
      obtain ⟨c0, c1, c2, c3⟩ := BlkG.cs (HA3.out.bel HBk.out)
      obtain ⟨f0, f1, f2, f3⟩ := BlkG.cs (HM3.out.bel HBk.out)
      have cl := (HA3.out.bel HBk.out).lt
      have fl := (HM3.out.bel HBk.out).lt
      have HLk : Hid ((piece a0 (A1 : Int) a2 (m2 - 1) ++ beside m0 (A1 : Int) m2 m3 (k - 1 - A1)).length ≤ 1000) := by
        have h1 := HP1.out
        show (piece a0 (A1 : Int) a2 (m2 - 1) ++ beside m0 (A1 : Int) m2 m3 (k - 1 - A1)).length ≤ 1000
        rw [List.length_append]
        simp only [beside, List.length_map, List.length_range]
        omega
      obtain ⟨aok, capk, hvk⟩ := HOk.out.form
      obtain ⟨nk, hnk⟩ : ∃ nk, nk = (piece a0 (A1 : Int) a2 (m2 - 1) ++ beside m0 (A1 : Int) m2 m3 (k - 1 - A1)).length := ⟨_, rfl⟩
      rw [← hnk] at hvk
      subst hvk
      have HNk : Hid (nk = (piece a0 (A1 : Int) a2 (m2 - 1) ++ beside m0 (A1 : Int) m2 m3 (k - 1 - A1)).length) := hnk
      clear hnk
      by_cases hk : k ≤ M1
      case neg =>
        have HE : Hid (R = (piece a0 (A1 : Int) a2 (m2 - 1) ++ beside m0 (A1 : Int) m2 m3 (k - 1 - A1)) ++ piece a0 A1 (m3 + 1) a3) := by
          show R = (piece a0 (A1 : Int) a2 (m2 - 1) ++ beside m0 (A1 : Int) m2 m3 (k - 1 - A1)) ++ piece a0 A1 (m3 + 1) a3
          rw [HR3.out, show k - 1 - A1 = M1 - A1 by omega]
        have HBW : Hid (Below w.heap.size w wr) := HG3.out.below.trans (HBk.out.mono HG3.out.below.size)
        by_cases h3 : m3 < a3
        · have HPe : Hid (piece a0 A1 (m3 + 1) a3 = [⟨a0, A1, m3 + 1, a3⟩]) := by
            show piece a0 A1 (m3 + 1) a3 = [⟨a0, A1, m3 + 1, a3⟩]
            unfold piece
            rw [if_pos (by omega)]
          generalize (piece a0 (A1 : Int) a2 (m2 - 1) ++ beside m0 (A1 : Int) m2 m3 (k - 1 - A1)) = L at *
          go_wp2_with (at_builtin; refine wp_appG rfl _ _ rfl W3.heap.size (.slice aok nk capk) L rfl (HOk.out.alloc _) ⟨a0, A1, m3 + 1, a3⟩ _ rfl (Blk.new' _ _ _ _ (by simp)) (Nat.le_trans HLk.out (by decide)) (Nat.le_trans HBk.out.size (by simp)) ?_; intro g2 cp2 wq2 hw2 hbq2 _ _; have HQ2 : Hid (OwnG W3.heap.size wq2 _ _) := hw2; have HBQ2 : Hid (Below W3.heap.size W3 wq2) := (HBk.out.alloc HBk.out.size _).grown hbq2 (Nat.le_trans HBk.out.size (by simp)) (fun k hk => (HOk.out.lt hk).1); clear hw2 hbq2)
          go_ret
          exact ⟨_, rfl, by rw [HE.out, HPe.out]; exact HQ2.out.lower HG3.out.below.size, HG3.out.below.trans (HBQ2.out.mono HG3.out.below.size)⟩
        · have HPe : Hid (piece a0 A1 (m3 + 1) a3 = []) := by
            show piece a0 A1 (m3 + 1) a3 = []
            unfold piece
            rw [if_neg (by omega)]
          generalize (piece a0 (A1 : Int) a2 (m2 - 1) ++ beside m0 (A1 : Int) m2 m3 (k - 1 - A1)) = L at *
          go_wp2_with fail
          go_ret
          exact ⟨_, rfl, by rw [HE.out, HPe.out, List.append_nil]; exact HOk.out.lower HG3.out.below.size, HBW.out⟩
      obtain ⟨A, s, Q, T, hA', hs, hT, hQ, s1, s2, q1, q2, q3, q4, t1, t2, hodd, heven⟩ := turn_facts m0 k hnm (by omega) (by omega)
      have kc := fun W => cut_any m0 k hnm W
      rw [← hA'] at kc
      have HT : Hid ((piece a0 (A1 : Int) a2 (m2 - 1) ++ beside m0 (A1 : Int) m2 m3 (k - 1 - A1)) ++ [⟨T, k, m2, m3⟩] = piece a0 A1 a2 (m2 - 1) ++ beside m0 A1 m2 m3 (k + 1 - 1 - A1)) := by
        obtain ⟨d, hd⟩ : ∃ d, d = k - 1 - A1 := ⟨_, rfl⟩
        show (piece a0 (A1 : Int) a2 (m2 - 1) ++ beside m0 (A1 : Int) m2 m3 (k - 1 - A1)) ++ [⟨T, k, m2, m3⟩] = piece a0 A1 a2 (m2 - 1) ++ beside m0 A1 m2 m3 (k + 1 - 1 - A1)
        rw [← hd, show k + 1 - 1 - A1 = d + 1 by omega, beside_succ, show (A1 : Int) + 1 + (d : Int) = k by omega, hT, List.append_assoc]
      have HSz : Hid (s = szN (32 - k)) := hs
      generalize (piece a0 (A1 : Int) a2 (m2 - 1) ++ beside m0 (A1 : Int) m2 m3 (k - 1 - A1)) = L at *
      clear hA' hs hT
      go_wp2_with fail
      go_loop [9, 10] (fun vs vi => ∃ j : Nat, k ≤ j ∧ j ≤ 32 ∧ vs = .int .u32 (szN (j - k)) ∧ vi = .int .i64 j) (fun _ i => 32 - (intOf i).toNat)
      case atStart => exact ⟨k, Nat.le_refl _, by omega, by simp [szN], rfl⟩
      case round =>
        obtain ⟨j, hj0, hj1, rfl, rfl⟩ := hrel
        by_cases hlt : j < 32
        · obtain ⟨t, ht⟩ : ∃ t, t = szN (j - k) := ⟨_, rfl⟩
          have HS : Hid (szN (j + 1 - k) = 2 * t) := by
            show szN (j + 1 - k) = 2 * t
            rw [show j + 1 - k = (j - k) + 1 by omega, szN_succ, ht]
          have u1 : 1 ≤ t := by rw [ht]; exact szN_pos _
          have u2 : t ≤ 1073741824 := by
            have : (2 : Nat) ^ (j - k) ≤ 2 ^ 30 := Nat.pow_le_pow_right (by omega) (by omega)
            rw [ht]
            unfold szN
            omega
          rw [← ht]
          clear ht
          go_wp2_with fail
          go_round
          case rel => exact ⟨j + 1, by omega, by omega, by rw [HS.out], by go_num⟩
          case measure => simp [intOf]; omega
        · have e : j = 32 := by omega
          subst e
          rw [← HSz.out]
          have hz : s ≠ 0 := by omega
          by_cases hp : Q % 2 = 1
          · have hd := hodd hp
            have hpb : (Q % 2 == 1) = true := by simp [hp]
            clear hodd heven hp
            go_wp2_with (first
            | (go_at_call 31; refine (kc _).mono ?_; rintro _ w5 ⟨rfl, gw⟩; have HO5 : Hid (OwnG W3.heap.size w5 (.slice aok nk capk) L) := HOk.out.gr gw; have HB5 : Hid (Below W3.heap.size W3 w5) := HBk.out.trans (gw.below.mono HBk.out.size); clear gw; obtain ⟨p0, p1, p2, p3⟩ := BlkG.cs (HM3.out.bel HB5.out); have pl := (HM3.out.bel HB5.out).lt)
            | (at_builtin; refine wp_appG rfl _ _ rfl W3.heap.size (.slice aok nk capk) L rfl (HO5.out.alloc _) ⟨T, k, m2, m3⟩ _ rfl (Blk.new' _ _ _ _ (by simp)) (Nat.le_trans HLk.out (by decide)) (Nat.le_trans HB5.out.size (by simp)) ?_; intro g3 cp3 wq3 hw3 hbq3 _ _; have HQ3 : Hid (OwnG W3.heap.size wq3 _ _) := hw3; have HBQ3 : Hid (Below W3.heap.size W3 wq3) := (HB5.out.alloc HB5.out.size _).grown hbq3 (Nat.le_trans HB5.out.size (by simp)) (fun k hk => (HO5.out.lt hk).1); clear hw3 hbq3))
            go_roundw
            case rel => exact ⟨k + 1, by omega, by omega, by go_num, by rw [← HT.out]; exact HQ3, HBQ3⟩
            case measure => simp [intOf]; omega
          · have hd := heven hp
            have hpb : (Q % 2 == 1) = false := by simp [hp]
            clear hodd heven hp
            go_wp2_with (first
            | (go_at_call 31; refine (kc _).mono ?_; rintro _ w5 ⟨rfl, gw⟩; have HO5 : Hid (OwnG W3.heap.size w5 (.slice aok nk capk) L) := HOk.out.gr gw; have HB5 : Hid (Below W3.heap.size W3 w5) := HBk.out.trans (gw.below.mono HBk.out.size); clear gw; obtain ⟨p0, p1, p2, p3⟩ := BlkG.cs (HM3.out.bel HB5.out); have pl := (HM3.out.bel HB5.out).lt)
            | (at_builtin; refine wp_appG rfl _ _ rfl W3.heap.size (.slice aok nk capk) L rfl (HO5.out.alloc _) ⟨T, k, m2, m3⟩ _ rfl (Blk.new' _ _ _ _ (by simp)) (Nat.le_trans HLk.out (by decide)) (Nat.le_trans HB5.out.size (by simp)) ?_; intro g3 cp3 wq3 hw3 hbq3 _ _; have HQ3 : Hid (OwnG W3.heap.size wq3 _ _) := hw3; have HBQ3 : Hid (Below W3.heap.size W3 wq3) := (HB5.out.alloc HB5.out.size _).grown hbq3 (Nat.le_trans HB5.out.size (by simp)) (fun k hk => (HO5.out.lt hk).1); clear hw3 hbq3))
            go_roundw
            case rel => exact ⟨k + 1, by omega, by omega, by go_num, by rw [← HT.out]; exact HQ3, HBQ3⟩
            case measure => simp [intOf]; omega

end Go.Proofs.Ytdilnelfkbeamaa
