/-
  The walks of the two Matches.
-/
import Derived.Test.YtdilnelfkbeamaaW11
namespace Go.Proofs.Ytdilnelfkbeamaa
open Go.RowKit

set_option maxHeartbeats 2000000 in
theorem match_any (v : Value) (l : List En) (p : Pf) (w : World) (hp : Num p.addr) (hg : GoodE l) (hl : l.length < 4611686018427387904) (hv : RowE w v l) :
    Calls Try.prog 15 #[v, pv p] w fun e w' => e = .returned (.bool (matchL l p)) ∧ Gr w w' := by
  obtain ⟨ao, cap, rfl⟩ := hv.form
  obtain ⟨N, hN⟩ : ∃ N : Nat, N = l.length := ⟨_, rfl⟩
  have HN : Hid (N = l.length) := hN
  have HV : Hid (RowE w (.slice ao N cap) l) := by rw [hN]; exact hv
  have HGd : Hid (GoodE l) := hg
  rw [← hN] at hl ⊢
  clear hv hg hN
  obtain ⟨P, n⟩ := p
  obtain ⟨W, hW⟩ : ∃ W, W = w.alloc (.cells #[.int .u32 P, .int .i64 n] 25) := ⟨_, rfl⟩
  have HP : Hid (BlkP W w.heap.size P n) := by rw [hW]; exact Blk.new _ _ _
  have HG : Hid (Gr w W) := by rw [hW]; exact (Gr.refl _).alloc _
  have HW2 : Hid (w.alloc (.cells #[.int .u32 P, .int .i64 n] 25) = W) := hW.symm
  clear hW
  obtain ⟨r, hr⟩ : ∃ r, r = matchL l ⟨P, n⟩ := ⟨_, rfl⟩
  have HR : Hid (r = matchL l ⟨P, n⟩) := hr
  rw [← hr]
  clear hr
  go_enter Try.func15, Try.ntmps15
  go_wp2_with fail
  rw [HW2.out]
  clear HW2
  go_loopw [9] (fun vi wr => ∃ k : Nat, k ≤ N ∧ vi = .int .i64 k ∧ Hid (Gr W wr) ∧ Hid (r = matchL (l.drop k) ⟨P, n⟩)) (fun vi _ => N - (intOf vi).toNat)
  case atStart => exact ⟨0, Nat.zero_le _, rfl, Gr.refl _, by rw [List.drop_zero]; exact HR⟩
  case round =>
    obtain ⟨k, hk, rfl, HK, HM⟩ := hrel
    by_cases hlt : k < N
    case neg =>
      have e : r = false := by
        have := HM.out
        rw [List.drop_eq_nil_of_le (by have := HN.out; omega)] at this
        exact this
      go_wp2_with fail
      go_ret
      exact ⟨by rw [e]; rfl, HG.out.trans HK.out⟩
    obtain ⟨e, he⟩ : ∃ e, l[k]? = some e := ⟨_, List.getElem?_eq_getElem (by have := HN.out; omega)⟩
    obtain ⟨b, off, rfl, hb, d0, d1, d2, d3, d4⟩ := (HV.out.gr (HG.out.trans HK.out)).cs5 he
    have HM2 : Hid (r = if inR e.rg ⟨P, n⟩ then !e.deny else matchL (l.drop (k + 1)) ⟨P, n⟩) := by
      have hd : l.drop k = e :: l.drop (k + 1) := by
        obtain ⟨hi, rfl⟩ := List.getElem?_eq_some_iff.1 he
        exact List.drop_eq_getElem_cons hi
      have := HM.out
      rw [hd] at this
      exact this
    have kin := fun W => in_any e.rg ⟨P, n⟩ (HGd.out.at he) hp W
    obtain ⟨dn, g0, g1, g2, g3⟩ := e
    simp only at d0 d1 d2 d3 d4
    obtain ⟨c0, c1⟩ := BlkP.cs (HP.out.gr HK.out)
    have cl := (HP.out.gr HK.out).lt
    have HE : Hid (Blk (wr.alloc (.cells #[.bool dn, .int .u32 g0, .int .i64 g1, .int .i64 g2, .int .i64 g3] 30)) wr.heap.size #[.bool dn, .int .u32 g0, .int .i64 g1, .int .i64 g2, .int .i64 g3] 30) := Blk.new _ _ _
    clear he HM
    generalize inR ⟨g0, g1, g2, g3⟩ ⟨P, n⟩ = q at *
    cases q
    case true =>
      go_wp2_with (go_at_call 13; refine (kin _).mono ?_; rintro e2 w2 ⟨rfl, gw⟩; have G2 : Hid (Gr wr w2) := ((Gr.refl _).alloc _).trans gw; have f0 := (HE.out.gr gw).c 0; clear gw)
      go_ret
      exact ⟨by rw [HM2.out]; rfl, (HG.out.trans HK.out).trans G2.out⟩
    case false =>
      go_wp2_with (go_at_call 13; refine (kin _).mono ?_; rintro e2 w2 ⟨rfl, gw⟩; have G2 : Hid (Gr wr w2) := ((Gr.refl _).alloc _).trans gw; clear gw)
      go_roundw
      case rel => exact ⟨k + 1, by omega, by go_num, HK.out.trans G2.out, HM2⟩
      case measure => simp [intOf]; omega

set_option maxHeartbeats 2000000 in
theorem rmatch_any (v : Value) (l : List En) (p : Pf) (w : World) (hp : Num p.addr) (hg : GoodE l) (hl : l.length < 4611686018427387904) (hv : RowE w v l) :
    Calls Try.prog 16 #[v, pv p] w fun e w' => e = .returned (.bool (matchL l p)) ∧ Gr w w' := by
  obtain ⟨ao, cap, rfl⟩ := hv.form
  obtain ⟨N, hN⟩ : ∃ N : Nat, N = l.length := ⟨_, rfl⟩
  have HN : Hid (N = l.length) := hN
  have HV : Hid (RowE w (.slice ao N cap) l) := by rw [hN]; exact hv
  have HGd : Hid (GoodE l) := hg
  rw [← hN] at hl ⊢
  clear hv hg hN
  obtain ⟨P, n⟩ := p
  obtain ⟨W, hW⟩ : ∃ W, W = w.alloc (.cells #[.int .u32 P, .int .i64 n] 25) := ⟨_, rfl⟩
  have HP : Hid (BlkP W w.heap.size P n) := by rw [hW]; exact Blk.new _ _ _
  have HG : Hid (Gr w W) := by rw [hW]; exact (Gr.refl _).alloc _
  have HW2 : Hid (w.alloc (.cells #[.int .u32 P, .int .i64 n] 25) = W) := hW.symm
  clear hW
  obtain ⟨r, hr⟩ : ∃ r, r = matchL l ⟨P, n⟩ := ⟨_, rfl⟩
  have HR : Hid (r = matchL l ⟨P, n⟩) := hr
  rw [← hr]
  clear hr
  go_enter Try.func16, Try.ntmps16
  go_wp2_with fail
  rw [HW2.out]
  clear HW2
  go_loopw [9] (fun vi wr => ∃ k : Nat, k ≤ N ∧ vi = .int .i64 k ∧ Hid (Gr W wr) ∧ Hid (r = matchL (l.drop k) ⟨P, n⟩)) (fun vi _ => N - (intOf vi).toNat)
  case atStart => exact ⟨0, Nat.zero_le _, rfl, Gr.refl _, by rw [List.drop_zero]; exact HR⟩
  case round =>
    obtain ⟨k, hk, rfl, HK, HM⟩ := hrel
    by_cases hlt : k < N
    case neg =>
      have e : r = false := by
        have := HM.out
        rw [List.drop_eq_nil_of_le (by have := HN.out; omega)] at this
        exact this
      go_wp2_with fail
      go_ret
      exact ⟨by rw [e]; rfl, HG.out.trans HK.out⟩
    obtain ⟨e, he⟩ : ∃ e, l[k]? = some e := ⟨_, List.getElem?_eq_getElem (by have := HN.out; omega)⟩
    obtain ⟨b, off, rfl, hb, d0, d1, d2, d3, d4⟩ := (HV.out.gr (HG.out.trans HK.out)).cs5 he
    have HM2 : Hid (r = if inR e.rg ⟨P, n⟩ then !e.deny else matchL (l.drop (k + 1)) ⟨P, n⟩) := by
      have hd : l.drop k = e :: l.drop (k + 1) := by
        obtain ⟨hi, rfl⟩ := List.getElem?_eq_some_iff.1 he
        exact List.drop_eq_getElem_cons hi
      have := HM.out
      rw [hd] at this
      exact this
    have kin := fun W => rin_any e.rg ⟨P, n⟩ (HGd.out.at he) hp W
    obtain ⟨dn, g0, g1, g2, g3⟩ := e
    simp only at d0 d1 d2 d3 d4
    obtain ⟨c0, c1⟩ := BlkP.cs (HP.out.gr HK.out)
    have cl := (HP.out.gr HK.out).lt
    have HE : Hid (Blk (wr.alloc (.cells #[.bool dn, .int .u32 g0, .int .i64 g1, .int .i64 g2, .int .i64 g3] 30)) wr.heap.size #[.bool dn, .int .u32 g0, .int .i64 g1, .int .i64 g2, .int .i64 g3] 30) := Blk.new _ _ _
    clear he HM
    generalize inR ⟨g0, g1, g2, g3⟩ ⟨P, n⟩ = q at *
    cases q
    case true =>
      go_wp2_with (go_at_call 14; refine (kin _).mono ?_; rintro e2 w2 ⟨rfl, gw⟩; have G2 : Hid (Gr wr w2) := ((Gr.refl _).alloc _).trans gw; have f0 := (HE.out.gr gw).c 0; clear gw)
      go_ret
      exact ⟨by rw [HM2.out]; rfl, (HG.out.trans HK.out).trans G2.out⟩
    case false =>
      go_wp2_with (go_at_call 14; refine (kin _).mono ?_; rintro e2 w2 ⟨rfl, gw⟩; have G2 : Hid (Gr wr w2) := ((Gr.refl _).alloc _).trans gw; clear gw)
      go_roundw
      case rel => exact ⟨k + 1, by omega, by go_num, HK.out.trans G2.out, HM2⟩
      case measure => simp [intOf]; omega

end Go.Proofs.Ytdilnelfkbeamaa
