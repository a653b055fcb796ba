/-
  The walk of PosEnds.
-/
import Derived.Test.YtjjlkjfhhpogaaaDoorLz
namespace Go.Proofs.YtjjlkjfhhpogaaaDoor
open Go.RowKit

set_option maxRecDepth 100000 in
set_option maxHeartbeats 8000000 in
theorem law_ends (kn : KN) (kal : ALIVE) (t : Tree) (x : PC) (pv : Value) (l : List Int) (w : World) (hok : okT t) (hg : goodT t) (hx : HT w t x) (hp : RowN w pv l) (hl : l.length ≤ 4611686018427387903) (hT : Tab w) :
    Calls Tryd.prog 12 #[x.v, pv] w fun e w' => e = .returned (.bool true) ∧ Below w.heap.size w w' := by
  have kg := fun W h => great_any t x W hok h
  have HX : Hid (HT w t x) := hx
  have HTb : Hid (Tab w) := hT
  have HG : Hid (goodT t) := hg
  obtain ⟨pa, pc, rfl⟩ := hp.form
  have HP : Hid (RowN w (.slice pa l.length pc) l) := hp
  obtain ⟨L, hL⟩ : ∃ L, L = l.length := ⟨_, rfl⟩
  have HL : Hid (L = l.length) := hL
  rw [← hL] at HP hl ⊢
  obtain ⟨xk, ⟨x1, x2, x3⟩, x4, x5, x6⟩ := x
  have HOk : Hid (okT t) := hok
  clear hT hp hL hx hg hok
  go_enter Tryd.func12, Tryd.ntmps12
  go_upto_region 1 with fail
  generalize hW : World.alloc _ _ = W
  have HI : Hid (BX w ⟨xk, ⟨x1, x2, x3⟩, ⟨x4, x5, x6⟩⟩ W) := by
    rw [← hW]
    exact ⟨(Below.refl _ _).alloc (Nat.le_refl _) _, Blk.new _ _ _⟩
  clear hW
  by_cases c : 3000 < size t
  · have kg2 : ∀ W, HT W t ⟨xk, ⟨x1, x2, x3⟩, ⟨x4, x5, x6⟩⟩ → Calls Tryd.prog 15 #[PC.v ⟨xk, ⟨x1, x2, x3⟩, ⟨x4, x5, x6⟩⟩] W fun e w' => e = .returned (.bool true) ∧ Gr W w' := fun W h => by have := kg W h; simpa [c] using this
    clear kg
    go_wp2_with (first
      | (go_at_call 32; refine (kal _ (HTb.out.bel HI.out.bel)).mono ?_; rintro _ w2 ⟨rfl, gw⟩; have I2 : Hid (BX w ⟨xk, ⟨x1, x2, x3⟩, ⟨x4, x5, x6⟩⟩ w2) := HI.out.go gw; clear gw; obtain ⟨e0, e1, e2⟩ := BlkT.cs I2.out.box)
      | (go_at_call 15; refine (kg2 _ (HT.bel I2.out.bel HX.out)).mono ?_; rintro _ w3 ⟨rfl, gw⟩; have I3 : Hid (BX w ⟨xk, ⟨x1, x2, x3⟩, ⟨x4, x5, x6⟩⟩ w3) := I2.out.go gw.below; clear gw))
    go_ret
    exact ⟨rfl, I3.out.bel⟩
  have kg2 : ∀ W, HT W t ⟨xk, ⟨x1, x2, x3⟩, ⟨x4, x5, x6⟩⟩ → Calls Tryd.prog 15 #[PC.v ⟨xk, ⟨x1, x2, x3⟩, ⟨x4, x5, x6⟩⟩] W fun e w' => e = .returned (.bool false) ∧ Gr W w' := fun W h => by have := kg W h; simpa [c] using this
  clear kg c
  by_cases c2 : L ≤ 100
  case neg =>
    have c3 : decide ((100 : Int) < L) = true := by simp; omega
    clear c2
    go_wp2_with (first
      | (go_at_call 32; refine (kal _ (HTb.out.bel HI.out.bel)).mono ?_; rintro _ w2 ⟨rfl, gw⟩; have I2 : Hid (BX w ⟨xk, ⟨x1, x2, x3⟩, ⟨x4, x5, x6⟩⟩ w2) := HI.out.go gw; clear gw; obtain ⟨e0, e1, e2⟩ := BlkT.cs I2.out.box)
      | (go_at_call 15; refine (kg2 _ (HT.bel I2.out.bel HX.out)).mono ?_; rintro _ w3 ⟨rfl, gw⟩; have I3 : Hid (BX w ⟨xk, ⟨x1, x2, x3⟩, ⟨x4, x5, x6⟩⟩ w3) := I2.out.go gw.below; clear gw))
    go_ret
    exact ⟨rfl, I3.out.bel⟩
  have c3 : decide ((100 : Int) < L) = false := by simp; omega
  cases hr : rightT t with
  | false =>
    have ko := fun W h => of_wrong kn t ⟨xk, ⟨x1, x2, x3⟩, x4, x5, x6⟩ W HOk.out HG.out h hr
    clear hr
    go_wp2_with (first
      | (go_at_call 32; refine (kal _ (HTb.out.bel HI.out.bel)).mono ?_; rintro _ w2 ⟨rfl, gw⟩; have I2 : Hid (BX w ⟨xk, ⟨x1, x2, x3⟩, ⟨x4, x5, x6⟩⟩ w2) := HI.out.go gw; clear gw; obtain ⟨e0, e1, e2⟩ := BlkT.cs I2.out.box)
      | (go_at_call 15; refine (kg2 _ (HT.bel I2.out.bel HX.out)).mono ?_; rintro _ w3 ⟨rfl, gw⟩; have I3 : Hid (BX w ⟨xk, ⟨x1, x2, x3⟩, ⟨x4, x5, x6⟩⟩ w3) := I2.out.go gw.below; clear gw; obtain ⟨f0, f1, f2⟩ := BlkT.cs I3.out.box)
      | (go_at_call 33; refine (ko _ (HT.bel I3.out.bel HX.out)).mono ?_; rintro _ w4 ⟨rfl, gw⟩; have I4 : Hid (BX w ⟨xk, ⟨x1, x2, x3⟩, ⟨x4, x5, x6⟩⟩ w4) := I3.out.go gw; clear gw))
    go_ret
    exact ⟨rfl, (I4.out.go (bel_alloc _ _)).bel⟩
  | true =>
    obtain ⟨E, hE⟩ : ∃ E, E = emp t := ⟨_, rfl⟩
    have ko := fun W h => of_right kn t ⟨xk, ⟨x1, x2, x3⟩, x4, x5, x6⟩ W HOk.out HG.out h hr E hE
    have HE : Hid (E = true ↔ matchP t []) := by
      show _ ↔ _
      rw [hE, ← takes_nil t (right_facts hr).1]
      exact ⟨fun h => ⟨hr, by simp, h⟩, fun h => h.2.2⟩
    clear hr hE
    go_upto_region 6 with (first
      | (go_at_call 32; refine (kal _ (HTb.out.bel HI.out.bel)).mono ?_; rintro _ w2 ⟨rfl, gw⟩; have I2 : Hid (BX w ⟨xk, ⟨x1, x2, x3⟩, ⟨x4, x5, x6⟩⟩ w2) := HI.out.go gw; clear gw; obtain ⟨e0, e1, e2⟩ := BlkT.cs I2.out.box)
      | (go_at_call 15; refine (kg2 _ (HT.bel I2.out.bel HX.out)).mono ?_; rintro _ w3 ⟨rfl, gw⟩; have I3 : Hid (BX w ⟨xk, ⟨x1, x2, x3⟩, ⟨x4, x5, x6⟩⟩ w3) := I2.out.go gw.below; clear gw; obtain ⟨f0, f1, f2⟩ := BlkT.cs I3.out.box)
      | (go_at_call 33; refine (ko _ (HT.bel I3.out.bel HX.out)).mono ?_; rintro _ w4 ⟨⟨sa, sn, sc⟩, ⟨va, vn, vc⟩, ⟨ia, iN, ic⟩, ⟨la, ln, lc⟩, ss, rs, sets, rows, Lf, Ll, rfl, hp, ip, gw⟩; have I4 : Hid (BX w ⟨xk, ⟨x1, x2, x3⟩, ⟨x4, x5, x6⟩⟩ w4) := I3.out.go gw; have HH : Hid _ := hp; have IP : Hid _ := ip; clear gw hp ip))
    generalize hW5 : World.alloc _ _ = W5
    have I5 : Hid (BX w ⟨xk, ⟨x1, x2, x3⟩, ⟨x4, x5, x6⟩⟩ W5) := by rw [← hW5]; exact I4.out.go (bel_alloc _ _)
    have P5 : Hid (Blk W5 w4.heap.size #[.slice sa sn sc, .bool E, .slice ia iN ic, .slice la ln lc, .slice va vn vc] 53) := by rw [← hW5]; exact Blk.new _ _ _
    have H5 := HH.out.bel (w' := W5) (by rw [← hW5]; exact bel_alloc _ _)
    have HH5 : Hid _ := H5
    obtain ⟨hn1, hn2, hn3, hn4⟩ := H5.nums
    simp only at hn1 hn2 hn3 hn4
    have hn5 : vn = sn := by rw [hn1, hn2, IP.out.sts.1, IP.out.rws.1]
    subst hn5
    have HN1 : Hid (vn = sets.length ∧ iN = Lf.length ∧ ln = Ll.length) := ⟨hn1, hn3, hn4⟩
    clear hW5 I4 I3 I2 HI kg2 ko HH H5 e0 e1 e2 f0 f1 f2 c3 kal hn1 hn2 hn3 hn4
    have hmx : Tryd.prog.follows .mixedOrders = true := by kernel_rfl
    have kE : ∀ n os, Calls Tryd.prog 21 #[PC.v ⟨xk, ⟨x1, x2, x3⟩, ⟨x4, x5, x6⟩⟩] (Sort.grow (W5.drewN n) os) fun e w' => e = .returned (.bool E) ∧ ∃ q os', w' = Sort.grow ((Sort.grow (W5.drewN n) os).drewN q) os' := fun n os => by
      have g : Gr W5 (Sort.grow (W5.drewN n) os) := ⟨n, os, rfl⟩
      have b1 := bstep I5.out.bel g.below
      refine (empty_any t ⟨xk, ⟨x1, x2, x3⟩, ⟨x4, x5, x6⟩⟩ _ HOk.out (HT.bel b1 HX.out) (HTb.out.bel b1)).mono ?_
      rintro e w' ⟨⟨q', rfl, hq'⟩, gr⟩
      rw [bool_same hq' HE.out]
      exact ⟨rfl, gr⟩
    have m0 := fun n os => (I5.out.box.grow n os).c 0
    have m1 := fun n os => (I5.out.box.grow n os).c 1
    have m2 := fun n os => (I5.out.box.grow n os).c 2
    have n0 := fun n os => (P5.out.grow n os).c 0
    have n1 := fun n os => (P5.out.grow n os).c 1
    have n4 := fun n os => (P5.out.grow n os).c 4
    simp [encT] at m0 m1 m2 n0 n1 n4
    have hEE : (E != E) = false := by cases E <;> rfl
    go_upto_region 8 with fail
    refine wp_region_quiet_grownB (by assumption) (by kernel_rfl) ?_
    repeat (refine wpQuiet_stepB (fun K hK => ?_); go_simp; first | (refine hK _ ?_; clear hK K) | (apply Exists.intro; refine ⟨fun _ => ?_, hK _ ?_⟩; (go_at_call 21; with_reducible refine Calls.grown_of (kE _ _)); clear hK K))
    refine wpQuiet_nilB ?_
    intro _ hw'
    obtain ⟨⟨nq, osq⟩, hw''⟩ := hw'
    subst hw''
    have g8 : Gr W5 (Sort.grow (W5.drewN nq) osq) := ⟨nq, osq, rfl⟩
    have I8 : Hid (BX w ⟨xk, ⟨x1, x2, x3⟩, ⟨x4, x5, x6⟩⟩ (Sort.grow (W5.drewN nq) osq)) := I5.out.go g8.below
    have P8 : Hid (Blk (Sort.grow (W5.drewN nq) osq) w4.heap.size #[.slice sa vn sc, .bool E, .slice ia iN ic, .slice la ln lc, .slice va vn vc] 53) := P5.out.bel g8.below
    have HH8 : Hid _ := HH5.out.gr g8
    generalize Sort.grow (W5.drewN nq) osq = W8 at I8 P8 HH8 ⊢
    clear g8 HH5 P5 I5 m0 m1 m2 n0 n1 n4 kE hEE
    obtain ⟨q, hq⟩ := bool_of (matchP t l)
    have kM := fun W h1 h2 h3 => match_any t ⟨xk, ⟨x1, x2, x3⟩, ⟨x4, x5, x6⟩⟩ (.slice pa L pc) l W HOk.out h1 h2 h3 (by have := HL.out; omega)
    have kM2 : ∀ W, HT W t ⟨xk, ⟨x1, x2, x3⟩, ⟨x4, x5, x6⟩⟩ → RowN W (.slice pa L pc) l → Tab W → Calls Tryd.prog 19 #[PC.v ⟨xk, ⟨x1, x2, x3⟩, ⟨x4, x5, x6⟩⟩, .slice pa L pc] W fun e w' => e = .returned (.bool q) ∧ Gr W w' := fun W h1 h2 h3 => (kM W h1 h2 h3).mono fun e w' h => by
      obtain ⟨⟨q', rfl, hq'⟩, gr⟩ := h
      rw [bool_same hq' hq]
      exact ⟨rfl, gr⟩
    have HQ : Hid (Tells q (matchP t l)) := hq
    clear kM hq
    obtain ⟨g0, g1, g2⟩ := BlkT.cs I8.out.box
    simp only at g0 g1 g2
    by_cases c4 : L = 0
    · have c5 : ((L : Int) == 0) = true := by simp; omega
      clear kM2 g0 g1 g2
      go_wp2_with fail
      go_ret
      exact ⟨rfl, I8.out.bel⟩
    have c5 : ((L : Int) == 0) = false := by simp; omega
    cases q
    · go_wp2_with (go_at_call 19; refine (kM2 _ (HT.bel I8.out.bel HX.out) (HP.out.bel I8.out.bel) (HTb.out.bel I8.out.bel)).mono ?_; rintro _ w9 ⟨rfl, gw⟩; have I9 : Hid (BX w ⟨xk, ⟨x1, x2, x3⟩, ⟨x4, x5, x6⟩⟩ w9) := I8.out.go gw.below; clear gw)
      go_ret
      exact ⟨rfl, I9.out.bel⟩
    obtain ⟨a, ha⟩ : ∃ a, l[0]? = some a := ⟨_, List.getElem?_eq_getElem (by have := HL.out; omega)⟩
    obtain ⟨z, hz⟩ : ∃ z, l[l.length - 1]? = some z := ⟨_, List.getElem?_eq_getElem (by have := HL.out; omega)⟩
    obtain ⟨hF, hL'⟩ := pos_ends IP.out (HQ.out.1 rfl) ha hz
    rw [← HN1.out.2.1] at hF
    rw [← HN1.out.2.2] at hL'
    have HHF : Hid (Hits sets Lf iN a) := hF
    have HHL : Hid (Hits sets Ll ln z) := hL'
    have HA : Hid (l[0]? = some a) := ha
    have HZ : Hid (l[L - 1]? = some z) := by show _ = _; rw [HL.out]; exact hz
    obtain ⟨_, _, hi200, hl200⟩ := IP.out.lens (HQ.out.1 rfl).1
    rw [← HN1.out.2.1] at hi200
    rw [← HN1.out.2.2] at hl200
    have HKS : Hid (∀ m ∈ sets, m.length ≤ 256) := IP.out.small fun s hs => sets_small t (right_facts (HQ.out.1 rfl).1).1 s hs
    clear hF hL' ha hz
    go_upto_region 13 with (go_at_call 19; refine (kM2 _ (HT.bel I8.out.bel HX.out) (HP.out.bel I8.out.bel) (HTb.out.bel I8.out.bel)).mono ?_; rintro _ w9 ⟨rfl, gw⟩; have I9 : Hid (BX w ⟨xk, ⟨x1, x2, x3⟩, ⟨x4, x5, x6⟩⟩ w9) := I8.out.go gw.below; have P9 : Hid (Blk w9 w4.heap.size #[.slice sa vn sc, .bool E, .slice ia iN ic, .slice la ln lc, .slice va vn vc] 53) := P8.out.bel gw.below; have HH9 : Hid _ := HH8.out.gr gw; clear gw)
    have HP9 : Hid (RowN w9 (.slice pa L pc) l) := HP.out.bel I9.out.bel
    have HB9 : Hid (Below w.heap.size w w9) := I9.out.bel
    obtain ⟨pb, po, rfl, hpb, _⟩ := HP9.out.cs1 HA.out
    have n2 := P9.out.c 2
    simp only [List.getElem?_toArray, List.getElem?_cons_zero, List.getElem?_cons_succ] at n2
    clear kM2 g0 g1 g2 I8 P8 HH8 I9 HP HX HTb hpb
    have kI := fun (m : List (Int × Int)) (hm : m.length ≤ 256) v y W (hv : RowS W v m) => rin_any v m y W (by omega) hv
    go_wp2_with fail
    go_loopw [7, 67] (fun vc vi wr => ∃ (k : Nat) (c : Bool), k ≤ iN ∧ vi = .int .i64 k ∧ vc = .bool c ∧ Hid (Gr w9 wr) ∧ Tells c (Hits sets Lf k a)) (fun _ vi _ => iN - (intOf vi).toNat)
    case atStart => exact ⟨0, false, Nat.zero_le _, rfl, rfl, Gr.refl _, by unfold Tells Hits; simp⟩
    case round =>
      clear n2
      obtain ⟨k, c, hk, rfl, rfl, HG, HC⟩ := hrel
      by_cases hlt : k < iN
      case pos =>
        obtain ⟨p, hp⟩ : ∃ p, Lf[k]? = some p := ⟨_, List.getElem?_eq_getElem (by have := HN1.out; omega)⟩
        have hps := IP.out.lt (p := p) (Or.inl (List.mem_of_getElem? hp))
        obtain ⟨m, hm⟩ : ∃ m, sets[p]? = some m := ⟨_, List.getElem?_eq_getElem hps⟩
        obtain ⟨⟨s1, s2, s3⟩, sb, so, hsa, hsb, cs, hrow⟩ := (HH9.out.gr HG.out).setAt hm
        obtain ⟨fb, fo, hfa, hfb, cf⟩ := (HH9.out.gr HG.out).hf.csI hp
        simp only at hsa hfa cs hrow cf
        subst hsa hfa
        have hpb2 := ((HP9.out.gr HG.out).cs1 HA.out)
        obtain ⟨_, _, e, hpb, cp⟩ := hpb2
        injection e with e
        injection e with e1 e2
        subst e1 e2
        obtain ⟨r, hr⟩ : ∃ r, r = inSet m a := ⟨_, rfl⟩
        have kc : ∀ n os, Calls Tryd.prog 37 #[.slice s1 s2 s3, .int .u32 a] (Sort.grow (wr.drewN n) os) fun e w' => e = .returned (.bool r) ∧ ∃ q os', w' = Sort.grow ((Sort.grow (wr.drewN n) os).drewN q) os' := fun n os => by
          rw [hr]
          exact kI m (HKS.out m (List.mem_of_getElem? hm)) _ a _ (hrow.gr ⟨n, os, rfl⟩)
        have HC2 : ∀ c', c' = (c || r) → Tells c' (Hits sets Lf (k + 1) a) := fun c' h => hits_step HC hp hm (by rw [h, hr])
        have n0 := fun n os => ((P9.out.gr HG.out).grow n os).c 0
        simp at n0
        have cs' := fun n os => cell_gr (w := wr) hsb cs n os
        have cp' := fun n os => cell_gr (w := wr) hpb cp n os
        have hk2 : (k : Int) < iN := by omega
        have hp2 : (p : Int) < vn := by have := HN1.out; omega
        have hL2 : 0 < L := by omega
        simp only [Nat.add_zero] at cp'
        clear hps hr hm hp hrow cs cp hsb hfb hpb HC
        cases c
        all_goals
          go_wp2_with fail
          refine wp_region_quiet_grownB (by assumption) (by kernel_rfl) ?_
          repeat (refine wpQuiet_stepB (fun K hK => ?_); go_simp; first | (refine hK _ ?_; clear hK K) | (apply Exists.intro; refine ⟨fun _ => ?_, hK _ ?_⟩; (go_at_call 37; with_reducible refine Calls.grown_of (kc _ _)); clear hK K))
          refine wpQuiet_nilB ?_
          intro _ hw'
          obtain ⟨⟨nq, osq⟩, hw''⟩ := hw'
          subst hw''
          have G2 : Hid (Gr w9 (Sort.grow (wr.drewN nq) osq)) := HG.out.trans ⟨nq, osq, rfl⟩
          generalize Sort.grow (wr.drewN nq) osq = W10 at G2 ⊢
          clear kc n0 cs' cp' cf
          go_wp2_with fail
          go_roundw
          case rel => exact ⟨k + 1, _, by omega, by go_num, rfl, G2, HC2 _ (by simp)⟩
          case measure => simp [intOf]; omega
      case neg =>
        have hke : k = iN := by omega
        subst hke
        have hct : c = true := HC.2 HHF.out
        subst hct
        have hle : ¬ (k : Int) < k := by omega
        have n3 := (P9.out.gr HG.out).c 3
        simp only [List.getElem?_toArray, List.getElem?_cons_zero, List.getElem?_cons_succ] at n3
        clear HC hlt hk
        go_wp2_with fail
        have HG1 : Hid (Gr w9 wr) := HG
        obtain ⟨M, hM⟩ : ∃ M : Nat, M = L - 1 := ⟨_, rfl⟩
        have HZ' : Hid (l[M]? = some z) := by rw [hM]; exact HZ
        have hM1 : (L : Int) - 1 = M := by omega
        have hM2 : M < L := by omega
        have hM3 : IntKind.i64.wrap (M : Int) = M := by unfold IntKind.wrap; simp [IntKind.signed, IntKind.bits]; omega
        clear hM HZ HG hle
        go_loopw [8, 87] (fun vc vi wr => ∃ (k : Nat) (c : Bool), k ≤ ln ∧ vi = .int .i64 k ∧ vc = .bool c ∧ Hid (Gr w9 wr) ∧ Tells c (Hits sets Ll k z)) (fun _ vi _ => ln - (intOf vi).toNat)
        case atStart => exact ⟨0, false, Nat.zero_le _, rfl, rfl, HG1, by unfold Tells Hits; simp⟩
        case round =>
          clear n3 HG1
          obtain ⟨k, c, hk, rfl, rfl, HG, HC⟩ := hrel
          rename_i wr
          by_cases hlt : k < ln
          case pos =>
            obtain ⟨p, hp⟩ : ∃ p, Ll[k]? = some p := ⟨_, List.getElem?_eq_getElem (by have := HN1.out; omega)⟩
            have hps := IP.out.lt (p := p) (Or.inr (List.mem_of_getElem? hp))
            obtain ⟨m, hm⟩ : ∃ m, sets[p]? = some m := ⟨_, List.getElem?_eq_getElem hps⟩
            obtain ⟨⟨s1, s2, s3⟩, sb, so, hsa, hsb, cs, hrow⟩ := (HH9.out.gr HG.out).setAt hm
            obtain ⟨fb, fo, hfa, hfb, cf⟩ := (HH9.out.gr HG.out).hl.csI hp
            simp only at hsa hfa cs hrow cf
            subst hsa hfa
            have hpb2 := ((HP9.out.gr HG.out).cs1 HZ'.out)
            obtain ⟨_, _, e, hpb, cp⟩ := hpb2
            injection e with e
            injection e with e1 e2
            subst e1 e2
            obtain ⟨r, hr⟩ : ∃ r, r = inSet m z := ⟨_, rfl⟩
            have kc : ∀ n os, Calls Tryd.prog 37 #[.slice s1 s2 s3, .int .u32 z] (Sort.grow (wr.drewN n) os) fun e w' => e = .returned (.bool r) ∧ ∃ q os', w' = Sort.grow ((Sort.grow (wr.drewN n) os).drewN q) os' := fun n os => by
              rw [hr]
              exact kI m (HKS.out m (List.mem_of_getElem? hm)) _ z _ (hrow.gr ⟨n, os, rfl⟩)
            have HC2 : ∀ c', c' = (c || r) → Tells c' (Hits sets Ll (k + 1) z) := fun c' h => hits_step HC hp hm (by rw [h, hr])
            have n0 := fun n os => ((P9.out.gr HG.out).grow n os).c 0
            simp at n0
            have cs' := fun n os => cell_gr (w := wr) hsb cs n os
            have cp' := fun n os => cell_gr (w := wr) hpb cp n os
            have hk2 : (k : Int) < ln := by omega
            have hp2 : (p : Int) < vn := by have := HN1.out; omega
            clear hps hr hm hp hrow cs cp hsb hfb hpb HC
            cases c
            all_goals
              go_wp2_with fail
              refine wp_region_quiet_grownB (by assumption) (by kernel_rfl) ?_
              repeat (refine wpQuiet_stepB (fun K hK => ?_); go_simp; first | (refine hK _ ?_; clear hK K) | (apply Exists.intro; refine ⟨fun _ => ?_, hK _ ?_⟩; (go_at_call 37; with_reducible refine Calls.grown_of (kc _ _)); clear hK K))
              refine wpQuiet_nilB ?_
              intro _ hw'
              obtain ⟨⟨nq, osq⟩, hw''⟩ := hw'
              subst hw''
              have G2 : Hid (Gr w9 (Sort.grow (wr.drewN nq) osq)) := HG.out.trans ⟨nq, osq, rfl⟩
              generalize Sort.grow (wr.drewN nq) osq = W10 at G2 ⊢
              clear kc n0 cs' cp' cf
              go_wp2_with fail
              go_roundw
              case rel => exact ⟨k + 1, _, by omega, by go_num, rfl, G2, HC2 _ (by simp)⟩
              case measure => simp [intOf]; omega
          case neg =>
            have hke : k = ln := by omega
            subst hke
            have hct : c = true := HC.2 HHL.out
            subst hct
            have hle : ¬ (k : Int) < k := by omega
            clear HC hlt hk
            go_wp2_with fail
            go_ret
            exact ⟨rfl, HB9.out.trans (HG.out.below.mono HB9.out.size)⟩

end Go.Proofs.YtjjlkjfhhpogaaaDoor
