/-
  The law PfxOne.
-/
import Derived.Test.YtdilnelfkbeamaaW21
import Derived.Test.YtdilnelfkbeamaaBx
import Derived.Test.YtdilnelfkbeamaaAlv
namespace Go.Proofs.Ytdilnelfkbeamaa
open Go.RowKit

/-- The two cells of a row's prefix. -/
theorem RowX.cs2 {w : World} {ao : Option Addr} {n cap : Nat} {l : List Pf} (h : RowP w (.slice ao n cap) l) {k : Nat} {x : Pf} (hx : l[k]? = some x) :
    ∃ b off, ao = some ⟨b, off, none⟩ ∧ b < w.heap.size ∧ w.cell? ⟨b, off + k * 2, none⟩ = some (.int .u32 x.addr) ∧ w.cell? ⟨b, off + k * 2 + 1, none⟩ = some (.int .i64 x.len) := by
  obtain ⟨b, off, e, hb, hc⟩ := h.at hx
  exact ⟨b, off, e, hb, hc 0 _ rfl, hc 1 _ rfl⟩

theorem countP_one {α : Type} {P : α → Bool} : ∀ (l : List α), l.Pairwise (fun a b => ¬ (P a = true ∧ P b = true)) → (∃ q ∈ l, P q = true) → l.countP P = 1
  | [], _, h => by obtain ⟨q, hq, _⟩ := h; simp at hq
  | a :: l, hp, h => by
    obtain ⟨h1, h2⟩ := List.pairwise_cons.1 hp
    by_cases ha : P a = true
    · have h0 : l.countP P = 0 := List.countP_eq_zero.2 fun b hb hb' => h1 b hb ⟨ha, hb'⟩
      rw [List.countP_cons, h0, if_pos ha]
    · obtain ⟨q, hq, hq'⟩ := h
      have hql : q ∈ l := by
        rcases List.mem_cons.1 hq with rfl | hq
        · exact absurd hq' ha
        · exact hq
      rw [List.countP_cons, countP_one l h2 ⟨q, hql, hq'⟩, if_neg ha]

/-- Of each right prefix there is just one of its kind. -/
theorem IsKinds.one {l : List Rg} {out : List Pf} (h : IsKinds l out) {p : Pf} (hp : OkPf p) : out.countP (fun q => alikeB l p q) = 1 := by
  obtain ⟨q, hq, h1, _⟩ := h.all p hp
  refine countP_one out (h.apart.imp ?_) ⟨q, hq, alikeB_comm h1⟩
  intro a b hab hc
  have := alikeB_trans (alikeB_comm hc.1) hc.2
  rw [this] at hab
  cases hab
/-- .. and it doesn't come behind it. -/
theorem IsKinds.first {l : List Rg} {out : List Pf} (h : IsKinds l out) {p q : Pf} (hp : OkPf p) (hq : q ∈ out) (ha : alikeB l p q = true) : lexLe q p := by
  obtain ⟨q', hq', h1, h2⟩ := h.all p hp
  have := h.eq_of_alike hq' hq (alikeB_trans h1 ha)
  subst this
  exact h2

theorem alike_take {l : List Rg} {k : Nat} {x : Rg} (p q : Pf) (hx : l[k]? = some x) : alikeB (l.take (k + 1)) p q = (alikeB (l.take k) p q && (inR x p == inR x q)) := by
  unfold alikeB
  rw [take_succ_of hx, List.all_append]
  simp

theorem countP_take {P : Pf → Bool} {l : List Pf} {k : Nat} {x : Pf} (hx : l[k]? = some x) : (l.take (k + 1)).countP P = (l.take k).countP P + if P x then 1 else 0 := by
  rw [take_succ_of hx, List.countP_append]
  simp [List.countP_cons]

set_option maxRecDepth 100000 in
set_option maxHeartbeats 8000000 in
theorem law_one (v : Value) (l : List Rg) (p : Pf) (w : World) (hp : Num p.addr) (hg : GoodG l) (hl : l.length < 4611686018427387904) (hv : RowG w v l) :
    Calls Try.prog 9 #[v, pv p] w fun e w' => e = .returned (.bool true) ∧ Below w.heap.size w w' := by
  obtain ⟨ao, cap, rfl⟩ := hv.form
  obtain ⟨N, hN⟩ : ∃ N : Nat, N = l.length := ⟨_, rfl⟩
  have HN : Hid (N = l.length) := hN
  have HV : Hid (RowG w (.slice ao N cap) l) := by rw [hN]; exact hv
  have HGd : Hid (GoodG l) := hg
  rw [← hN] at hl ⊢
  clear hv hg hN
  obtain ⟨P, n⟩ := p
  simp only at hp
  have kr := fun W => rright_any P n hp W
  have HOK : Hid (rightP P n = true → OkPf ⟨P, n⟩) := fun h => ⟨hp, h⟩
  obtain ⟨W, hW⟩ : ∃ W, W = w.alloc (.cells #[.int .u32 P, .int .i64 n] 25) := ⟨_, rfl⟩
  have HP : Hid (BlkP W w.heap.size P n) := by rw [hW]; exact Blk.new _ _ _
  have HG : Hid (Gr w W) := by rw [hW]; exact (Gr.refl _).alloc _
  have HW2 : Hid (w.alloc (.cells #[.int .u32 P, .int .i64 n] 25) = W) := hW.symm
  clear hW
  have hmx : Try.prog.follows .mixedOrders = true := by kernel_rfl
  go_enter Try.func9, Try.ntmps9
  go_wp2_with fail
  rw [HW2.out]
  clear HW2
  refine (alive_any W).mono ?_
  rintro _ w1 ⟨rfl, b1⟩
  have B1 : Hid (Below w.heap.size w w1) := bstep HG.out.below b1
  have HP1 : Hid (BlkP w1 w.heap.size P n) := HP.out.bel b1
  have HV1 : Hid (RowG w1 (.slice ao N cap) l) := HV.out.bel B1.out
  clear b1 HP HV HG
  by_cases h10 : (10 : Int) < N
  · go_wp2_with fail
    go_ret
    exact ⟨rfl, B1.out⟩
  have hN64 : l.length ≤ 64 := by have := HN.out; omega
  obtain ⟨c0, c1⟩ := BlkP.cs HP1.out
  generalize rightP P n = qr at *
  cases qr
  case false =>
    go_wp2_with (go_at_call 26; refine (kr _).mono ?_; rintro _ w2 ⟨rfl, gw⟩; have G2 : Hid (Gr w1 w2) := gw; clear gw)
    go_ret
    exact ⟨rfl, bstep B1.out G2.out.below⟩
  have HPk : Hid (OkPf ⟨P, n⟩) := HOK.out rfl
  go_wp2_with fail
  refine (kr _).mono ?_
  rintro _ w2 ⟨rfl, gw⟩
  have G2 : Hid (Gr w1 w2) := gw
  have HV2 : Hid (RowG w2 (.slice ao N cap) l) := HV1.out.gr gw
  clear gw kr c0 c1
  go_wp2_with fail
  refine (kinds_any (.slice ao N cap) l w2 hN64 HGd.out HV2.out).mono ?_
  rintro _ w3 ⟨u, out, rfl, hik, hol, hru, bb3⟩
  have B3 : Hid (Below w.heap.size w w3) := bstep (bstep B1.out G2.out.below) bb3
  have HV3 : Hid (RowG w3 (.slice ao N cap) l) := HV2.out.bel bb3
  have HP3 : Hid (BlkP w3 w.heap.size P n) := (HP1.out.gr G2.out).bel bb3
  have HIK : Hid (IsKinds l out) := hik
  have HRU : Hid (RowP w3 u out) := hru
  obtain ⟨ao5, cap5, hu⟩ := hru.form
  obtain ⟨M, hM⟩ : ∃ M : Nat, M = out.length := ⟨_, rfl⟩
  rw [← hM] at hu hol
  subst hu
  have HM : Hid (M = out.length) := hM
  clear hM bb3 hru hik B1 G2 HP1 HV1 HV2
  go_wp2_with fail
  go_loopw [7, 30] (fun vn vi wr => ∃ t : Nat, t ≤ M ∧ vi = .int .i64 t ∧ vn = .int .i64 ((out.take t).countP (fun q => alikeB l ⟨P, n⟩ q) : Nat) ∧ Hid (Gr w3 wr)) (fun _ vi _ => M - (intOf vi).toNat)
  case atStart => exact ⟨0, Nat.zero_le _, rfl, rfl, Gr.refl _⟩
  case round =>
    obtain ⟨t, ht, rfl, rfl, HK⟩ := hrel
    have hcl : (out.take t).countP (fun q => alikeB l ⟨P, n⟩ q) ≤ 4257 := by
      have h1 := List.countP_le_length (p := fun q => alikeB l ⟨P, n⟩ q) (l := out.take t)
      have h2 : (out.take t).length ≤ out.length := by simp; omega
      have := HM.out
      omega
    by_cases htl : t < M
    case neg =>
      have hk2 : out.take t = out := List.take_of_length_le (by have := HM.out; omega)
      rw [hk2, HIK.out.one HPk.out]
      clear hk2 hcl
      go_wp2_with fail
      go_ret
      exact ⟨rfl, bstep B3.out HK.out.below⟩
    obtain ⟨q, hq⟩ : ∃ q, out[t]? = some q := ⟨_, List.getElem?_eq_getElem (by have := HM.out; omega)⟩
    obtain ⟨b, off, rfl, hb, d0, d1⟩ := (HRU.out.gr HK.out).cs2 hq
    have hqk := HIK.out.ok q (List.mem_of_getElem? hq)
    have HCT : Hid ((out.take (t + 1)).countP (fun q => alikeB l ⟨P, n⟩ q) = (out.take t).countP (fun q => alikeB l ⟨P, n⟩ q) + if alikeB l ⟨P, n⟩ q then 1 else 0) := countP_take hq
    have HLX : Hid (alikeB l ⟨P, n⟩ q = true → lexLe q ⟨P, n⟩) := fun h => HIK.out.first HPk.out (List.mem_of_getElem? hq) h
    obtain ⟨q0, q1⟩ := q
    simp only at d0 d1
    have hq0 : Num q0 := hqk.1
    have krq := fun W => rright_any q0 q1 hq0 W
    have hq2 : rightP q0 q1 = true := hqk.2
    rw [hq2] at krq
    generalize (out.take t).countP (fun q => alikeB l ⟨P, n⟩ q) = C at *
    obtain ⟨W4, hW4⟩ : ∃ W4, W4 = wr.alloc (.cells #[.int .u32 q0, .int .i64 q1] 25) := ⟨_, rfl⟩
    have HQ4 : Hid (BlkP W4 wr.heap.size q0 q1) := by rw [hW4]; exact Blk.new _ _ _
    have HG4 : Hid (Gr w3 W4) := by rw [hW4]; exact HK.out.alloc _
    have HW4 : Hid (wr.alloc (.cells #[.int .u32 q0, .int .i64 q1] 25) = W4) := hW4.symm
    clear hW4 hq hqk hq2
    go_wp2_with fail
    rw [HW4.out]
    clear HW4 d0 d1 hb
    refine (krq _).mono ?_
    rintro _ w5 ⟨rfl, gw⟩
    have HQ5 : Hid (BlkP w5 wr.heap.size q0 q1) := HQ4.out.gr gw
    have HG5 : Hid (Gr w3 w5) := HG4.out.trans gw
    clear gw HQ4 HG4 krq
    go_wp2_with fail
    go_loopw [10, 38] (fun vs vj wq => ∃ k : Nat, k ≤ N ∧ vj = .int .i64 k ∧ vs = .bool (alikeB (l.take k) ⟨P, n⟩ ⟨q0, q1⟩) ∧ Hid (Gr w5 wq)) (fun _ vj _ => N - (intOf vj).toNat)
    case atStart => exact ⟨0, Nat.zero_le _, rfl, rfl, Gr.refl _⟩
    case round =>
      obtain ⟨k, hk, rfl, rfl, HJ⟩ := hrel
      by_cases hkl : k < N
      case pos =>
        obtain ⟨y, hy⟩ : ∃ y, l[k]? = some y := ⟨_, List.getElem?_eq_getElem (by have := HN.out; omega)⟩
        obtain ⟨b', off', rfl, hb', d0, d1, d2, d3⟩ := (HV3.out.gr (HG5.out.trans HJ.out)).cs4 hy
        have ja := fun W => in_any y ⟨P, n⟩ (HGd.out.at hy) hp W
        have jb := fun W => in_any y ⟨q0, q1⟩ (HGd.out.at hy) hq0 W
        have HAT : Hid (alikeB (l.take (k + 1)) ⟨P, n⟩ ⟨q0, q1⟩ = (alikeB (l.take k) ⟨P, n⟩ ⟨q0, q1⟩ && (inR y ⟨P, n⟩ == inR y ⟨q0, q1⟩))) := alike_take _ _ hy
        obtain ⟨y0, y1, y2, y3⟩ := y
        simp only at d0 d1 d2 d3
        obtain ⟨W6, hW6⟩ : ∃ W6, W6 = wr.alloc (.cells #[.int .u32 y0, .int .i64 y1, .int .i64 y2, .int .i64 y3] 28) := ⟨_, rfl⟩
        have HY6 : Hid (BlkG W6 wr.heap.size y0 y1 y2 y3) := by rw [hW6]; exact Blk.new _ _ _
        have HG6 : Hid (Gr w5 W6) := by rw [hW6]; exact HJ.out.alloc _
        have HW6 : Hid (wr.alloc (.cells #[.int .u32 y0, .int .i64 y1, .int .i64 y2, .int .i64 y3] 28) = W6) := hW6.symm
        clear hW6 hy
        generalize alikeB (l.take k) ⟨P, n⟩ ⟨q0, q1⟩ = sm at *
        generalize inR ⟨y0, y1, y2, y3⟩ ⟨P, n⟩ = qa at *
        generalize inR ⟨y0, y1, y2, y3⟩ ⟨q0, q1⟩ = qb at *
        go_wp2_with fail
        rw [HW6.out]
        clear HW6 d0 d1 d2 d3 hb'
        have e0 := fun n os => (BlkG.cs (HY6.out.grow n os)).1
        have e1 := fun n os => (BlkG.cs (HY6.out.grow n os)).2.1
        have e2 := fun n os => (BlkG.cs (HY6.out.grow n os)).2.2.1
        have e3 := fun n os => (BlkG.cs (HY6.out.grow n os)).2.2.2
        have f0 := fun n os => (BlkP.cs (((HP3.out.gr HG5.out).gr HG6.out).grow n os)).1
        have f1 := fun n os => (BlkP.cs (((HP3.out.gr HG5.out).gr HG6.out).grow n os)).2
        have g0 := fun n os => (BlkP.cs ((HQ5.out.gr HG6.out).grow n os)).1
        have g1 := fun n os => (BlkP.cs ((HQ5.out.gr HG6.out).grow n os)).2
        cases sm
        case false =>
          refine wp_region_quiet_grownB (by assumption) (by kernel_rfl) ?_
          repeat (refine wpQuiet_stepB (fun K hK => ?_); go_simp; first | (refine hK _ ?_; clear hK K) | (apply Exists.intro; refine ⟨fun _ => ?_, hK _ ?_⟩; fail; clear hK K))
          refine wpQuiet_nilB ?_
          intro _ hw'
          obtain ⟨⟨nq, osq⟩, hw''⟩ := hw'
          subst hw''
          go_wp2_with fail
          go_roundw
          case rel => exact ⟨k + 1, by omega, by go_num, by rw [HAT.out]; rfl, HG6.out.trans ⟨_, _, rfl⟩⟩
          case measure => simp [intOf]; omega
        case true =>
          refine wp_region_quiet_grownB (by assumption) (by kernel_rfl) ?_
          repeat (refine wpQuiet_stepB (fun K hK => ?_); go_simp; first | (refine hK _ ?_; clear hK K) | (apply Exists.intro; refine ⟨fun _ => ?_, hK _ ?_⟩; (first | (go_at_call 13; with_reducible refine Calls.grown_of (ja _)) | (go_at_call 13; with_reducible refine Calls.grown_of (jb _))); clear hK K))
          refine wpQuiet_nilB ?_
          intro _ hw'
          obtain ⟨⟨nq, osq⟩, hw''⟩ := hw'
          subst hw''
          go_wp2_with fail
          go_roundw
          case rel => exact ⟨k + 1, by omega, by go_num, by rw [HAT.out]; rfl, HG6.out.trans ⟨_, _, rfl⟩⟩
          case measure => simp [intOf]; omega
      have hk2 : l.take k = l := List.take_of_length_le (by have := HN.out; omega)
      rw [hk2]
      clear hk2
      obtain ⟨f0, f1⟩ := BlkP.cs ((HP3.out.gr HG5.out).gr HJ.out)
      obtain ⟨g0, g1⟩ := BlkP.cs (HQ5.out.gr HJ.out)
      generalize alikeB l ⟨P, n⟩ ⟨q0, q1⟩ = sm at *
      cases sm
      case false =>
        go_wp2_with fail
        go_roundw
        case rel => exact ⟨t + 1, by omega, by go_num, by rw [HCT.out]; rfl, HG5.out.trans HJ.out⟩
        case measure => simp [intOf]; omega
      case true =>
        have hlx : lexLe ⟨q0, q1⟩ ⟨P, n⟩ := HLX.out rfl
        unfold lexLe at hlx
        simp only at hlx
        rcases hlx with h1 | ⟨h1, h2⟩
        · have h3 : (q1 == n) = false := by simp; omega
          have h4 : ¬ n < q1 := by omega
          go_wp2_with fail
          go_roundw
          case rel => exact ⟨t + 1, by omega, by go_num, by rw [HCT.out]; rfl, HG5.out.trans HJ.out⟩
          case measure => simp [intOf]; omega
        · subst h1
          have h3 : (q1 == q1) = true := by simp
          have h4 : ¬ P < q0 := by omega
          go_wp2_with fail
          go_roundw
          case rel => exact ⟨t + 1, by omega, by go_num, by rw [HCT.out]; rfl, HG5.out.trans HJ.out⟩
          case measure => simp [intOf]; omega

end Go.Proofs.Ytdilnelfkbeamaa
