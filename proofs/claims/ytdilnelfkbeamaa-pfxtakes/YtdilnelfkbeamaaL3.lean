/-
  The law PfxTakes.
-/
import Derived.Test.YtdilnelfkbeamaaL2
import Derived.Test.YtdilnelfkbeamaaW15
namespace Go.Proofs.Ytdilnelfkbeamaa
open Go.RowKit

set_option maxHeartbeats 8000000 in
theorem law_takes (v : Value) (l : List En) (p : Pf) (w : World) (hp : Num p.addr) (hg : GoodE l) (hl : l.length < 4611686018427387904) (hv : RowE w v l) :
    Calls Try.prog 7 #[v, pv p] w fun e w' => e = .returned (.bool true) ∧ Below w.heap.size w w' := by
  obtain ⟨ao, cap, rfl⟩ := hv.form
  obtain ⟨N, hN⟩ : ∃ N : Nat, N = l.length := ⟨_, rfl⟩
  have HN : Hid (N = l.length) := hN
  have HV : Hid (RowE w (.slice ao N cap) l) := by rw [hN]; exact hv
  have HGd : Hid (GoodE l) := hg
  have km := fun W (h : RowE W (.slice ao N cap) l) => match_any (.slice ao N cap) l p W hp hg hl h
  have kf := fun W (h : RowE W (.slice ao N cap) l) (h24 : l.length ≤ 24) => flat_any (.slice ao N cap) l W hg (by omega) h
  rw [← hN] at hl ⊢
  clear hv hg hN
  obtain ⟨P, n⟩ := p
  obtain ⟨W, hW⟩ : ∃ W, W = w.alloc (.cells #[.int .u32 P, .int .i64 n] 25) := ⟨_, rfl⟩
  have HP : Hid (BlkP W w.heap.size P n) := by rw [hW]; exact Blk.new _ _ _
  have HG : Hid (Gr w W) := by rw [hW]; exact (Gr.refl _).alloc _
  have HW2 : Hid (w.alloc (.cells #[.int .u32 P, .int .i64 n] 25) = W) := hW.symm
  clear hW
  go_enter Try.func7, Try.ntmps7
  go_wp2_with fail
  rw [HW2.out]
  clear HW2
  refine (alive_any W).mono ?_
  rintro _ w1 ⟨rfl, b1⟩
  have B1 : Hid (Below w.heap.size w w1) := bstep HG.out.below b1
  have HP1 : Hid (BlkP w1 w.heap.size P n) := HP.out.bel b1
  have HV1 : Hid (RowE w1 (.slice ao N cap) l) := HV.out.bel B1.out
  clear b1 HP HV HG
  by_cases h24 : (24 : Int) < N
  · go_wp2_with fail
    go_ret
    exact ⟨rfl, B1.out⟩
  have hkf := kf w1 HV1.out (by have := HN.out; omega)
  have HF : Hid ((flatL l = none ∧ flatV l = ([], 6)) ∨ ∃ out, flatL l = some out ∧ flatV l = (out, 0)) := by
    show (flatL l = none ∧ flatV l = ([], 6)) ∨ ∃ out, flatL l = some out ∧ flatV l = (out, 0)
    unfold flatV
    cases flatL l with
    | none => exact Or.inl ⟨rfl, rfl⟩
    | some out => exact Or.inr ⟨out, rfl, rfl⟩
  clear kf
  go_wp2_with fail
  rcases HF.out with ⟨_, hfv⟩ | ⟨out, hfl, hfv⟩
  · rw [hfv] at hkf
    refine hkf.mono ?_
    rintro _ w2 ⟨v2, rfl, o2, bb2⟩
    have B2 : Hid (Below w.heap.size w w2) := bstep B1.out bb2
    obtain ⟨ao2, cap2, rfl⟩ := o2.form
    clear hkf HF hfv bb2 o2 B1 km
    go_wp2_with fail
    go_ret
    exact ⟨rfl, B2.out⟩
  rw [hfv] at hkf
  have HC : Hid (cnt ⟨P, n⟩ out = if matchL l ⟨P, n⟩ then 1 else 0) := cnt_flatL _ hfl
  have hff := flatL_facts HGd.out hfl
  have HOG : Hid (GoodG out) := hff.2.1
  have HOR : Hid (∀ x ∈ out, rightR x = true) := hff.2.2
  have hout : out.length ≤ 1024 := hff.1
  refine hkf.mono ?_
  rintro _ w2 ⟨v2, rfl, o2, bb2⟩
  have B2 : Hid (Below w.heap.size w w2) := bstep B1.out bb2
  have HP2 : Hid (BlkP w2 w.heap.size P n) := HP1.out.bel bb2
  have HV2 : Hid (RowE w2 (.slice ao N cap) l) := HV1.out.bel bb2
  have HR : Hid (RowG w2 v2 out) := o2.row encG_len
  obtain ⟨ao2, cap2, hv2⟩ := o2.form
  obtain ⟨M, hM⟩ : ∃ M : Nat, M = out.length := ⟨_, rfl⟩
  have HM : Hid (M = out.length) := hM
  have hM2 : M ≤ 1024 := by omega
  simp only [← hM] at hv2
  subst hv2
  clear hM bb2 o2 B1 HP1 HV1 hkf hff hout hfl hfv HF
  go_wp2_with fail
  go_loopw [7, 31] (fun vn vi wr => ∃ k : Nat, k ≤ M ∧ vi = .int .i64 k ∧ vn = .int .i64 (cnt ⟨P, n⟩ (out.take k) : Nat) ∧ Hid (Gr w2 wr)) (fun _ vi _ => M - (intOf vi).toNat)
  case atStart => exact ⟨0, Nat.zero_le _, rfl, rfl, Gr.refl _⟩
  case round =>
    obtain ⟨k, hk, rfl, rfl, HK⟩ := hrel
    have hcl : cnt ⟨P, n⟩ (out.take k) ≤ 1024 := by
      have := cnt_le ⟨P, n⟩ (out.take k)
      simp at this
      have := HM.out
      omega
    obtain ⟨c0, c1⟩ := BlkP.cs (HP2.out.gr HK.out)
    have cl := (HP2.out.gr HK.out).lt
    by_cases hlt : k < M
    case pos =>
      obtain ⟨y, hy⟩ : ∃ y, out[k]? = some y := ⟨_, List.getElem?_eq_getElem (by have := HM.out; omega)⟩
      obtain ⟨b, off, rfl, hb', d0, d1, d2, d3⟩ := (HR.out.gr HK.out).cs4 hy
      have jy := fun W => in_any y ⟨P, n⟩ (HOG.out.at hy) hp W
      have jr := fun W => pright_any y.addr y.len y.ge y.le (HOG.out.at hy) W
      have hry : rightR ⟨y.addr, y.len, y.ge, y.le⟩ = true := HOR.out y (List.mem_of_getElem? hy)
      rw [hry] at jr
      have HCT : Hid (cnt ⟨P, n⟩ (out.take (k + 1)) = cnt ⟨P, n⟩ (out.take k) + if inR y ⟨P, n⟩ then 1 else 0) := cnt_take hy
      have HY : Hid (Blk (wr.alloc (.cells #[.int .u32 y.addr, .int .i64 y.len, .int .i64 y.ge, .int .i64 y.le] 28)) wr.heap.size #[.int .u32 y.addr, .int .i64 y.len, .int .i64 y.ge, .int .i64 y.le] 28) := Blk.new _ _ _
      clear hy hry km
      generalize inR y ⟨P, n⟩ = qy at *
      generalize cnt ⟨P, n⟩ (out.take k) = C at *
      cases qy
      all_goals
        go_wp2_with (first
          | (go_at_call 13; refine (jy _).mono ?_; rintro e2 w3 ⟨rfl, gw⟩; have G3 : Hid (Gr wr w3) := ((Gr.refl _).alloc _).trans gw; obtain ⟨f0, f1, f2, f3⟩ := BlkG.cs (HY.out.gr gw); clear gw)
          | (go_at_call 11; refine (jr _).mono ?_; rintro e4 w4 ⟨rfl, gw⟩; have G4 : Hid (Gr wr w4) := G3.out.trans gw; clear gw))
        go_roundw
        case rel => exact ⟨k + 1, by omega, by go_num, by rw [HCT.out]; go_num, HK.out.trans G4.out⟩
        case measure => simp [intOf]; omega
    have hk2 : out.take k = out := List.take_of_length_le (by have := HM.out; omega)
    rw [hk2, HC.out]
    have jm := km wr (HV2.out.gr HK.out)
    clear hk2 hcl HC km
    generalize matchL l ⟨P, n⟩ = r at *
    cases r
    case false =>
      rw [if_neg (by decide)]
      go_wp2_with fail
      refine jm.mono ?_
      rintro _ w5 ⟨rfl, gw⟩
      have G5 : Hid (Gr wr w5) := gw
      clear gw
      go_wp2_with fail
      go_ret
      exact ⟨rfl, bstep B2.out (HK.out.trans G5.out).below⟩
    case true =>
      rw [if_pos (by decide)]
      go_wp2_with fail
      refine jm.mono ?_
      rintro _ w5 ⟨rfl, gw⟩
      have G5 : Hid (Gr wr w5) := gw
      clear gw
      go_wp2_with fail
      go_ret
      exact ⟨rfl, bstep B2.out (HK.out.trans G5.out).below⟩

end Go.Proofs.Ytdilnelfkbeamaa
