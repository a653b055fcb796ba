/-
  The walk of Flat.
-/
import Derived.Test.YtdilnelfkbeamaaW11
namespace Go.Proofs.Ytdilnelfkbeamaa
open Go.RowKit

theorem flatL_step {l : List En} {k : Nat} {e : En} {out : List Rg} (hx : l[k]? = some e) (h : flatL (l.drop (k + 1)) = some out) : flatL (l.drop k) = if 1024 < (stepF out e).length then none else some (stepF out e) := by
  have hd : l.drop k = e :: l.drop (k + 1) := by
    obtain ⟨hi, rfl⟩ := List.getElem?_eq_some_iff.1 hx
    exact List.drop_eq_getElem_cons hi
  rw [hd]
  show (match flatL (l.drop (k + 1)) with | none => none | some out => if 1024 < (stepF out e).length then none else some (stepF out e)) = _
  rw [h]

theorem flatL_drop : ∀ (k : Nat) (l : List En), flatL (l.drop k) = none → flatL l = none
  | 0, l, h => by simpa using h
  | k + 1, [], h => by simp [flatL] at h
  | k + 1, e :: l, h => by
    have := flatL_drop k l (by simpa using h)
    show (match flatL l with | none => none | some out => if 1024 < (stepF out e).length then none else some (stepF out e)) = none
    rw [this]

/-- What Flat hands back: the slice's list, and the error's number. -/
def flatV (l : List En) : List Rg × Int := match flatL l with
  | none => ([], 6)
  | some out => (out, 0)

set_option maxHeartbeats 4000000 in
theorem flat_any (v : Value) (l : List En) (w : World) (hg : GoodE l) (hl : l.length ≤ 100000) (hv : RowE w v l) :
    Calls Try.prog 22 #[v] w fun e w' => ∃ v', e = .returned (.tuple #[v', .int .i64 (flatV l).2]) ∧ OwnG w.heap.size w' v' (flatV l).1 ∧ Below w.heap.size w w' := by
  obtain ⟨ao, cap, rfl⟩ := hv.form
  have HV : Hid (RowE w (.slice ao l.length cap) l) := hv
  have HGd : Hid (GoodE l) := hg
  obtain ⟨N, hN⟩ : ∃ N : Nat, N = l.length := ⟨_, rfl⟩
  have HN : Hid (N = l.length) := hN
  rw [← hN] at HV hl ⊢
  clear hv hg hN
  have HNil : Hid (flatL (l.drop N) = some []) := by
    show flatL (l.drop N) = some []
    rw [HN.out, List.drop_length]
    rfl
  go_enter Try.func22, Try.ntmps22
  go_wp2_with fail
  go_loopw [4, 5] (fun vo vi wr => ∃ (j : Nat) (i : Int) (out : List Rg), j ≤ N ∧ Hid (i = j - 1) ∧ vi = .int .i64 i ∧ Hid (flatL (l.drop j) = some out) ∧ Hid (OwnG w.heap.size wr vo out) ∧ Hid (Below w.heap.size w wr)) (fun _ vi _ => (intOf vi + 1).toNat)
  case atStart => exact ⟨N, _, [], Nat.le_refl _, rfl, by go_num, HNil, OwnX.nil _ _ _ _ _, Below.refl _ _⟩
  case round =>
    obtain ⟨j, i, out, hj, HI, rfl, HF, HO, HB⟩ := hrel
    obtain ⟨ao4, cap4, hv4⟩ := HO.out.form
    obtain ⟨n4, hn4⟩ : ∃ n4, n4 = out.length := ⟨_, rfl⟩
    rw [← hn4] at hv4
    subst hv4
    have HN4 : Hid (n4 = out.length) := hn4
    clear hn4
    cases j with
    | zero =>
      have hi : i = -1 := by have := HI.out; omega
      subst hi
      have HFl : Hid (flatV l = (out, 0)) := by
        have := HF.out
        rw [List.drop_zero] at this
        show flatV l = (out, 0)
        unfold flatV
        rw [this]
      go_wp2_with fail
      refine bodyPost_ret (v := .tuple #[.slice ao4 n4 cap4, .int .i64 0]) (by simp [results, Try.results22, go_sem]) rfl ?_
      rw [HFl.out]
      exact ⟨_, rfl, HO.out, HB.out⟩
    | succ k =>
      have hi : i = k := by have := HI.out; omega
      subst hi
      clear HI
      obtain ⟨e, he⟩ : ∃ e, l[k]? = some e := ⟨_, List.getElem?_eq_getElem (by have := HN.out; omega)⟩
      have HE : Hid (l[k]? = some e) := he
      obtain ⟨b, off, rfl, hb, d0, d1, d2, d3, d4⟩ := (HV.out.bel HB.out).cs5 he
      have HEn : Hid (Num e.rg.addr) := HGd.out.at he
      have hf := flatL_facts (fun x hx => HGd.out x (List.mem_of_mem_drop hx)) HF.out
      have kw := without_any e.rg (.slice ao4 n4 cap4) out wr HEn.out hf.2.1 hf.1 (HO.out.row encG_len)
      have HLs : Hid ((out.flatMap fun y => minusR y e.rg).length ≤ 900000) := by
        have h1 := flatMap_len (l := out) e.rg
        have := hf.1
        show (out.flatMap fun y => minusR y e.rg).length ≤ 900000
        omega
      have HST : Hid (stepF out e = (out.flatMap fun y => minusR y e.rg) ++ (if !e.deny && rightR e.rg then [e.rg] else [])) := rfl
      have HFS : Hid (flatL (l.drop k) = if 1024 < (stepF out e).length then none else some (stepF out e)) := flatL_step HE.out HF.out
      have kr := fun W => pright_any e.rg.addr e.rg.len e.rg.ge e.rg.le HEn.out W
      clear he hf HNil
      obtain ⟨dn, g0, g1, g2, g3⟩ := e
      simp only at d0 d1 d2 d3 d4 kr
      generalize rightR ⟨g0, g1, g2, g3⟩ = q at *
      generalize (out.flatMap fun y => minusR y ⟨g0, g1, g2, g3⟩) = X at *
      go_wp2_with fail
      refine kw.mono ?_
      rintro e1 w1 ⟨v1, rfl, o1, B1⟩
      have BW1 : Below w.heap.size w w1 := HB.out.trans (B1.mono HB.out.size)
      obtain ⟨b', off', hbo, hb', f0, f1, f2, f3, f4⟩ := (HV.out.bel BW1).cs5 HE.out
      injection hbo with hbo
      injection hbo with hb1 hb2
      subst hb1
      subst hb2
      have HO1 : Hid (OwnG wr.heap.size w1 v1 X) := o1
      have HB1 : Hid (Below wr.heap.size wr w1) := B1
      have HBW : Hid (Below w.heap.size w w1) := BW1
      obtain ⟨ao1, cap1, hv1⟩ := o1.form
      obtain ⟨n1, hn1⟩ : ∃ n1, n1 = X.length := ⟨_, rfl⟩
      rw [← hn1] at hv1
      subst hv1
      have HN1 : Hid (n1 = X.length) := hn1
      clear hn1 d0 d1 d2 d3 d4 kw B1 BW1 o1 hb'
      have HSz1 : Hid (wr.heap.size ≤ w1.heap.size) := HB1.out.size
      cases dn
      case true =>
        by_cases h1024 : (1024 : Int) < n1
        · go_wp2_with fail
          refine bodyPost_ret (v := .tuple #[.slice none 0 0, .int .i64 6]) (by simp [results, Try.results22, go_sem]) rfl ?_
          have HFl : flatV l = ([], 6) := by
            have h1 := HFS.out
            rw [HST.out] at h1
            simp only [Bool.not_true, Bool.false_and, Bool.false_eq_true, if_false] at h1
            rw [if_pos (by have := HN1.out; simp; omega)] at h1
            unfold flatV
            rw [flatL_drop k l h1]
          rw [HFl]
          exact ⟨_, rfl, OwnX.nil _ _ _ _ _, HBW.out⟩
        · go_wp2_with fail
          go_roundw
          case rel =>
            refine ⟨k, _, X, by omega, rfl, by go_num, ?_, HO1.out.lower HB.out.size, HBW.out⟩
            have h1 := HFS.out
            rw [HST.out] at h1
            simp only [Bool.not_true, Bool.false_and, Bool.false_eq_true, if_false] at h1
            rw [if_neg (by have := HN1.out; simp; omega)] at h1
            simpa [Hid] using h1
          case measure => simp [intOf]
      cases q
      case false =>
        by_cases h1024 : (1024 : Int) < n1
        · go_wp2_with (go_at_call 11; refine (kr _).mono ?_; rintro e2 w2 ⟨rfl, gw⟩; have G2 : Hid (Gr w1 w2) := gw; clear gw)
          refine bodyPost_ret (v := .tuple #[.slice none 0 0, .int .i64 6]) (by simp [results, Try.results22, go_sem]) rfl ?_
          have HFl : flatV l = ([], 6) := by
            have h1 := HFS.out
            rw [HST.out] at h1
            simp only [Bool.not_false, Bool.and_false, Bool.false_eq_true, if_false] at h1
            rw [if_pos (by have := HN1.out; simp; omega)] at h1
            unfold flatV
            rw [flatL_drop k l h1]
          rw [HFl]
          exact ⟨_, rfl, OwnX.nil _ _ _ _ _, (HBW.out.trans (G2.out.below.mono HBW.out.size))⟩
        · go_wp2_with (go_at_call 11; refine (kr _).mono ?_; rintro e2 w2 ⟨rfl, gw⟩; have G2 : Hid (Gr w1 w2) := gw; clear gw)
          go_roundw
          case rel =>
            refine ⟨k, _, X, by omega, rfl, by go_num, ?_, ((HO1.out.gr G2.out).lower HB.out.size), (HBW.out.trans (G2.out.below.mono HBW.out.size))⟩
            have h1 := HFS.out
            rw [HST.out] at h1
            simp only [Bool.not_false, Bool.and_false, Bool.false_eq_true, if_false] at h1
            rw [if_neg (by have := HN1.out; simp; omega)] at h1
            simpa [Hid] using h1
          case measure => simp [intOf]
      case true =>
        obtain ⟨n3, hn3⟩ : ∃ n3, X.length + 1 = n3 := ⟨_, rfl⟩
        have HN3 : Hid (X.length + 1 = n3) := hn3
        clear hn3
        by_cases h1024 : (1024 : Int) < n3
        · go_wp2_with (first
            | (go_at_call 11; refine (kr _).mono ?_; rintro e2 w2 ⟨rfl, gw⟩; have G2 : Hid (Gr w1 w2) := gw; clear gw; obtain ⟨_, _, hbo, _, p0, p1, p2, p3, p4⟩ := (HV.out.bel (HBW.out.trans (G2.out.below.mono HBW.out.size))).cs5 HE.out; injection hbo with hbo; injection hbo with hb1 hb2; subst hb1; subst hb2)
            | (at_builtin; refine wp_appG rfl _ _ rfl wr.heap.size (.slice ao1 n1 cap1) X rfl ((HO1.out.gr G2.out).alloc _) ⟨g0, g1, g2, g3⟩ _ rfl (Blk.new' _ _ _ _ (by simp)) (Nat.le_trans HLs.out (by decide)) (by have := HSz1.out; have := G2.out.below.size; simp; omega) ?_; intro gb capb w3 how3 hB3 hgg hlt3; have HO3 : Hid (OwnG wr.heap.size w3 (.slice (some ⟨gb, 0, none⟩) (X.length + 1) capb) (X ++ [⟨g0, g1, g2, g3⟩])) := how3; have HB3 : Hid (Below wr.heap.size wr w3) := ((HB1.out.trans (G2.out.below.mono HSz1.out)).alloc (by have := HSz1.out; have := G2.out.below.size; omega) _).grown hB3 (by have := HSz1.out; have := G2.out.below.size; simp; omega) (fun k hk => (HO1.out.lt hk).1); clear how3 hB3 hgg hlt3; rw [HN3.out] at HO3 ⊢))
          refine bodyPost_ret (v := .tuple #[.slice none 0 0, .int .i64 6]) (by simp [results, Try.results22, go_sem]) rfl ?_
          have HFl : flatV l = ([], 6) := by
            have h1 := HFS.out
            rw [HST.out] at h1
            simp only [Bool.not_false, Bool.and_true, if_true] at h1
            rw [if_pos (by have := HN3.out; simp; omega)] at h1
            unfold flatV
            rw [flatL_drop k l h1]
          rw [HFl]
          exact ⟨_, rfl, OwnX.nil _ _ _ _ _, HB.out.trans (HB3.out.mono HB.out.size)⟩
        · go_wp2_with (first
            | (go_at_call 11; refine (kr _).mono ?_; rintro e2 w2 ⟨rfl, gw⟩; have G2 : Hid (Gr w1 w2) := gw; clear gw; obtain ⟨_, _, hbo, _, p0, p1, p2, p3, p4⟩ := (HV.out.bel (HBW.out.trans (G2.out.below.mono HBW.out.size))).cs5 HE.out; injection hbo with hbo; injection hbo with hb1 hb2; subst hb1; subst hb2)
            | (at_builtin; refine wp_appG rfl _ _ rfl wr.heap.size (.slice ao1 n1 cap1) X rfl ((HO1.out.gr G2.out).alloc _) ⟨g0, g1, g2, g3⟩ _ rfl (Blk.new' _ _ _ _ (by simp)) (Nat.le_trans HLs.out (by decide)) (by have := HSz1.out; have := G2.out.below.size; simp; omega) ?_; intro gb capb w3 how3 hB3 hgg hlt3; have HO3 : Hid (OwnG wr.heap.size w3 (.slice (some ⟨gb, 0, none⟩) (X.length + 1) capb) (X ++ [⟨g0, g1, g2, g3⟩])) := how3; have HB3 : Hid (Below wr.heap.size wr w3) := ((HB1.out.trans (G2.out.below.mono HSz1.out)).alloc (by have := HSz1.out; have := G2.out.below.size; omega) _).grown hB3 (by have := HSz1.out; have := G2.out.below.size; simp; omega) (fun k hk => (HO1.out.lt hk).1); clear how3 hB3 hgg hlt3; rw [HN3.out] at HO3 ⊢))
          go_roundw
          case rel =>
            refine ⟨k, (k : Int) - 1, X ++ [(⟨g0, g1, g2, g3⟩ : Rg)], by omega, rfl, by go_num, ?_, HO3.out.lower HB.out.size, HB.out.trans (HB3.out.mono HB.out.size)⟩
            have h1 := HFS.out
            rw [HST.out] at h1
            simp only [Bool.not_false, Bool.and_true, if_true] at h1
            rw [if_neg (by have := HN3.out; simp; omega)] at h1
            exact h1
          case measure => simp [intOf]

end Go.Proofs.Ytdilnelfkbeamaa
