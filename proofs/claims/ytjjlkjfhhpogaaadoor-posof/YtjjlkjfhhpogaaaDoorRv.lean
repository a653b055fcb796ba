/-
  The walk of Run: what runs along the positions.
-/
import Derived.Test.YtjjlkjfhhpogaaaDoorRu
namespace Go.Proofs.YtjjlkjfhhpogaaaDoor
open Go.RowKit Go.Shelf
attribute [local go_sem] Oper.semAt_some

/-- Whether no number is there. -/
def zt (p : Pl) : Bool := u p.a == 0 && u p.b == 0 && u p.c == 0 && u p.d == 0
theorem zt_iff (p : Pl) : (!zt p) = true ↔ ∃ n, p.has n = true := by
  by_cases h : p = .zero
  · subst h
    have : zt .zero = true := rfl
    rw [this]
    simp [Pl.has_zero]
  · have h1 : zt p = false := zero_test p h
    rw [h1]
    obtain ⟨n, _, hn⟩ := Pl.eq_zero h
    exact ⟨fun _ => ⟨n, hn⟩, fun _ => rfl⟩

set_option maxRecDepth 100000 in
set_option maxHeartbeats 4000000 in
theorem run_any (t : Tree) (w : World) (sv fv fi la : Sl) (ss rs : List Sl) (sets : List (List (Int × Int))) (rows : List (List Nat)) (Lf Ll : List Nat) (hp : HP w sv fv fi la ss rs sets rows Lf Ll) (ip : IsPos t sets rows Lf Ll) (hk : kindsT t = true) (hsz : size t ≤ 200)
    (hm : ∀ m ∈ sets, m.length ≤ 1000) (hT : Tab w) (pv : Value) (l : List Int) (hpv : RowN w pv l) (hl : l.length ≤ 100000) :
    Calls Tryd.prog 36 #[PVal sv fv fi la (emp t), pv] w (PostRun t l w) := by
  have hN : sets.length ≤ 200 := by rw [ip.sts.1, setsT_len]; have := ones_le 200 t hsz; omega
  have hlr : sets.length = rows.length := by rw [ip.sts.1, ip.rws.1]
  have hsn : sv.n = sets.length := by
    obtain ⟨_, _, e⟩ := hp.so.form
    injection e with _ e _
    rw [e, hp.sl]
  obtain ⟨E, hE⟩ : ∃ E, E = emp t := ⟨_, rfl⟩
  have HE : Hid (E = emp t) := hE
  rw [← hE]
  clear hE
  obtain ⟨N, hNN⟩ : ∃ N : Nat, N = sets.length := ⟨_, rfl⟩
  obtain ⟨pa, pc, rfl⟩ := hpv.form
  obtain ⟨M, hM⟩ : ∃ M : Nat, M = l.length := ⟨_, rfl⟩
  unfold PVal
  by_cases hnil : l = []
  · subst hnil
    obtain ⟨sa, sn, sc⟩ := sv
    go_enter Tryd.func36, Tryd.ntmps36
    go_wp2_with fail
    go_ret
    exact ⟨⟨E, rfl, by rw [takes_nil t hk, HE.out]⟩, (Gr.refl _).alloc _⟩
  have hM0 : 0 < M := by rw [hM]; exact List.length_pos_iff.2 hnil
  have HNN : Hid (N = sets.length) := hNN
  have HMM : Hid (M = l.length) := hM
  have HH : Hid (HP w sv fv fi la ss rs sets rows Lf Ll) := hp
  have HI : Hid (IsPos t sets rows Lf Ll) := ip
  have HTb : Hid (Tab w) := hT
  have HV : Hid (RowN w (.slice pa M pc) l) := by rw [hM]; exact hpv
  have kb := fun (W : World) b (h1 : Blk W b (pvc sv fv fi la E) 53) h2 => behind_any W b sv fv fi la E ss rs sets rows Lf Ll h1 h2 hlr hN ip.ok
  have ks := fun (W : World) b L v (h1 : Blk W b (pvc sv fv fi la E) 53) h2 h3 h4 => set_any W b sv fv fi la E L v h1 h2 h3 h4
  have kh := fun (W : World) b (h1 : Blk W b (pvc sv fv fi la E) 53) h2 h3 P h4 c => having_any W b sv fv fi la E ss rs sets rows Lf Ll h1 h2 hm hN h3 P h4 c
  rw [← hNN] at hsn hN kb
  rw [← hM] at hl ⊢
  obtain ⟨sa, sn, sc⟩ := sv
  obtain ⟨fa, fn, fc⟩ := fv
  obtain ⟨ia, in', ic⟩ := fi
  obtain ⟨la, ln, lc⟩ := la
  simp only at hsn
  subst hsn
  have hLf : ∀ j ∈ Lf, j < 200 := fun j hj => by have := (Fir.in_ ((ip.lf.2 j).1 hj)).2; have := ones_le 200 t hsz; omega
  have hLl : ∀ j ∈ Ll, j < 200 := fun j hj => by have := (Las.in_ ((ip.ll.2 j).1 hj)).2; have := ones_le 200 t hsz; omega
  have hLfl := rises_len ip.lf.1 hLf
  have hLll := rises_len ip.ll.1 hLl
  have hk9 := hk
  clear hp ip hm hT hpv hNN hM hnil hlr hk
  have c0 : Hid (Blk (w.alloc (.cells #[.slice sa sn sc, .bool E, .slice ia in' ic, .slice la ln lc, .slice fa fn fc] 53)) w.heap.size (pvc ⟨sa, sn, sc⟩ ⟨fa, fn, fc⟩ ⟨ia, in', ic⟩ ⟨la, ln, lc⟩ E) 53) := Blk.new _ _ _
  have kb1 := kb _ _ c0.out (HH.out.gr ((Gr.refl _).alloc _))
  clear kb
  refine (callsIn_wide (n := 3)).1 ?_
  refine callsIn_of_wp_marks Tryd.func36 rfl trivial ?_ rfl
  simp only [Tryd.ntmps36, List.size_toArray, List.length_cons, List.length_nil, Nat.reduceAdd, Nat.reduceSub, Array.replicate_succ, Array.replicate_zero, List.push_toArray, List.append_toArray, List.nil_append, List.cons_append]
  have hMz : ((M : Int) == 0) = false := by simp; omega
  gi_wp2_with (first
    | (refine ⟨trivial, ?_⟩; gi_at_call 58; refine (callsIn_wide.2 kb1).mono ?_; rintro _ w2 ⟨qb, qs, rfl, hqb, hqs, hql, hqm, gw⟩; have G2 : Hid (Gr w w2) := ((Gr.refl _).alloc _).trans gw; have B2 : Hid (Blk w2 w.heap.size (pvc ⟨sa, sn, sc⟩ ⟨fa, fn, fc⟩ ⟨ia, in', ic⟩ ⟨la, ln, lc⟩ E) 53) := c0.out.gr gw; have Q2 : Hid (Blk w2 qb (lrow qs) 67) := hqb; have QB : Hid (w.heap.size + 1 ≤ qb) := (by show _ ≤ _; simpa using hqs); have QL : Hid (qs.length = sn) := hql; have QM : Hid (∀ (i : Nat) L, rows[i]? = some L → ∃ q : Pl, qs[i]? = some q ∧ ∀ n, q.has n = true ↔ n ∈ L ∧ n < sn) := hqm; clear hqb hqs hql hqm gw; have b0 := B2.out.c 0; have b1 := B2.out.c 1; have b2 := B2.out.c 2; have b3 := B2.out.c 3; have b4 := B2.out.c 4; have bl := B2.out.lt; simp only [pvc, List.getElem?_toArray, List.getElem?_cons_zero, List.getElem?_cons_succ] at b0 b1 b2 b3 b4)
    | (refine ⟨trivial, ?_⟩; gi_at_call 59; refine (callsIn_wide.2 (ks _ _ Lf _ (B2.out.alloc _) (HH.out.hf.gr (G2.out.alloc _)) hLf (by omega))).mono ?_; rintro _ w3 ⟨S, rfl, hS, gw⟩; have HS : Hid (∀ n, S.has n = true ↔ n ∈ Lf ∧ n < sn) := hS; have G3 : Hid (Gr w w3) := (G2.out.alloc _).trans gw; have GW : Hid (Gr (w2.alloc (.cells #[.slice (some ⟨qb, 0, none⟩) sn sn] 68)) w3) := gw; clear hS gw))
  have R0 : Hid (RSt w ((w3.alloc (.cells #[.int .u64 (u S.a), .int .u64 (u S.b), .int .u64 (u S.c), .int .u64 (u S.d)] 67)).alloc (.cells #[.int .u64 0, .int .u64 0, .int .u64 0, .int .u64 0] 67)) w2.heap.size w3.heap.size qb (pvc ⟨sa, sn, sc⟩ ⟨fa, fn, fc⟩ ⟨ia, in', ic⟩ ⟨la, ln, lc⟩ E) sn qs S .zero) :=
    ⟨(G3.out.alloc _).alloc _, (((B2.out.alloc _).gr GW.out).alloc _).alloc _, (((Blk.new _ _ _).gr GW.out).alloc _).alloc _, (((Q2.out.alloc _).gr GW.out).alloc _).alloc _, (Blk.new _ _ _).alloc _, Blk.new' _ _ _ _ (by simp), QB.out, Q2.out.lt, ((Blk.new w2 _ _).gr GW.out).lt⟩
  have M0 : Hid (∀ q, S.has q = true ↔ MayP t l 0 q) := fun q => (HS.out q).trans ⟨fun h => Or.inl ⟨rfl, (HI.out.lf.2 q).1 h.1⟩, fun h => ⟨(HI.out.lf.2 q).2 (by
    rcases h with ⟨_, h⟩ | ⟨p, ⟨h, _⟩, _⟩
    · exact h
    · omega), by have := h.lt; have := HNN.out; have := HI.out.sts.1; rw [setsT_len] at this; omega⟩⟩
  have hsz3 : ((w3.alloc (.cells #[.int .u64 (u S.a), .int .u64 (u S.b), .int .u64 (u S.c), .int .u64 (u S.d)] 67)).alloc (.cells #[.int .u64 0, .int .u64 0, .int .u64 0, .int .u64 0] 67)).heap.size = w3.heap.size + 2 := by simp
  generalize hW3 : World.alloc _ _ = W3 at R0 hsz3 ⊢
  generalize w2.heap.size = p5 at R0 ⊢
  generalize w3.heap.size = p6 at R0 hsz3 ⊢
  clear hW3 G2 G3 GW B2 Q2 QB HS b0 b1 b2 b3 b4 bl kb1 c0
  clear w3 w2
  have HQL : Hid (qs.length = sn) := QL
  have HQM : Hid (∀ i, i < sn → ∃ q : Pl, qs[i]? = some q ∧ ∀ j, q.has j = true ↔ Fol t 0 i j) := fun i hi => by
    obtain ⟨L, hL⟩ : ∃ L, rows[i]? = some L := ⟨_, List.getElem?_eq_getElem (by have := HI.out.rws.1; have := HI.out.sts.1; have := HNN.out; omega)⟩
    obtain ⟨q, h1, h2⟩ := QM.out i L hL
    refine ⟨q, h1, fun j => (h2 j).trans ?_⟩
    have h3 := HI.out.rws.2 i L hL j
    rw [Nat.zero_add] at h3
    rw [h3]
    exact ⟨fun h => h.1, fun h => ⟨h, by have := (Fol.in_ h).2.2; have := HNN.out; have := HI.out.sts.1; rw [setsT_len] at this; omega⟩⟩
  clear QL QM
  obtain ⟨I, hI⟩ : ∃ I : Act → World → Prop, I = fun a wr => ∃ (k : Nat) (u9 u28 u29 u30 u31 u32 u33 u34 u35 u36 u44 : Value) (may cur : Pl) (Ds : List Nat), k ≤ M ∧ Hid (RSt w wr p5 p6 qb (pvc ⟨sa, sn, sc⟩ ⟨fa, fn, fc⟩ ⟨ia, in', ic⟩ ⟨la, ln, lc⟩ E) sn qs may cur) ∧ Hid (Open_ (p6 + 2) wr Ds) ∧ Hid (∀ q, may.has q = true ↔ MayP t l k q) ∧ Hid (∀ q, cur.has q = true ↔ CurP t l k q) ∧
    a = { tmps := #[.agg #[.slice sa sn sc, .bool E, .slice ia in' ic, .slice la ln lc, .slice fa fn fc], .slice pa M pc, .pointer (some ⟨w.heap.size, 0, none⟩), undef, .bool false, .pointer (some ⟨p5, 0, none⟩), .pointer (some ⟨p6, 0, none⟩), .pointer (some ⟨p6 + 1, 0, none⟩), undef, u9, undef, .slice pa M pc, .int .i64 M, .bool false, undef, undef, .pointer (some ⟨w.heap.size, 0, none⟩), .slice sa sn sc, .int .i64 sn, .bool (decide ((200 : Int) < sn)), .slice (some ⟨qb, 0, none⟩) sn sn, .pointer (some ⟨w.heap.size, 2, none⟩), .slice ia in' ic, plv S, .agg #[.int .u64 0, .int .u64 0, .int .u64 0, .int .u64 0], .slice pa M pc, .int .i64 M, .int .i64 k, u28, u29, u30, u31, u32, u33, u34, u35, u36, undef, undef, undef, undef, undef, undef, undef, u44, undef, undef, undef, undef, undef, undef, undef], defers := marks Ds } := ⟨_, rfl⟩
  have HII : Hid (I = fun a wr => ∃ (k : Nat) (u9 u28 u29 u30 u31 u32 u33 u34 u35 u36 u44 : Value) (may cur : Pl) (Ds : List Nat), k ≤ M ∧ Hid (RSt w wr p5 p6 qb (pvc ⟨sa, sn, sc⟩ ⟨fa, fn, fc⟩ ⟨ia, in', ic⟩ ⟨la, ln, lc⟩ E) sn qs may cur) ∧ Hid (Open_ (p6 + 2) wr Ds) ∧ Hid (∀ q, may.has q = true ↔ MayP t l k q) ∧ Hid (∀ q, cur.has q = true ↔ CurP t l k q) ∧
    a = { tmps := #[.agg #[.slice sa sn sc, .bool E, .slice ia in' ic, .slice la ln lc, .slice fa fn fc], .slice pa M pc, .pointer (some ⟨w.heap.size, 0, none⟩), undef, .bool false, .pointer (some ⟨p5, 0, none⟩), .pointer (some ⟨p6, 0, none⟩), .pointer (some ⟨p6 + 1, 0, none⟩), undef, u9, undef, .slice pa M pc, .int .i64 M, .bool false, undef, undef, .pointer (some ⟨w.heap.size, 0, none⟩), .slice sa sn sc, .int .i64 sn, .bool (decide ((200 : Int) < sn)), .slice (some ⟨qb, 0, none⟩) sn sn, .pointer (some ⟨w.heap.size, 2, none⟩), .slice ia in' ic, plv S, .agg #[.int .u64 0, .int .u64 0, .int .u64 0, .int .u64 0], .slice pa M pc, .int .i64 M, .int .i64 k, u28, u29, u30, u31, u32, u33, u34, u35, u36, undef, undef, undef, undef, undef, undef, undef, u44, undef, undef, undef, undef, undef, undef, undef], defers := marks Ds }) := hI
  clear hI
  refine wpIn_loop I (fun a _ => M - (intOf (a.tmps.getD 27 undef)).toNat) (by rw [HII.out]; exact ⟨0, undef, undef, undef, undef, undef, undef, undef, undef, undef, undef, undef, S, .zero, [], Nat.zero_le _, R0, ⟨List.nodup_nil, by simp⟩, M0, fun q => by rw [Pl.has_zero]; simp [CurP], rfl⟩) ?_
  clear R0 M0
  intro a0 wr hrel
  rw [HII.out] at hrel
  obtain ⟨k, u9, u28, u29, u30, u31, u32, u33, u34, u35, u36, u44, may, cur, Ds, hk, HR, HO, HMay, HCur, rfl⟩ := hrel
  have b0 := HR.out.box.c 0
  have b3 := HR.out.box.c 3
  have bl := HR.out.box.lt
  have p31 := HR.out.h1
  have p32 := HR.out.h2
  have p33 := HR.out.h3
  simp only [pvc, List.getElem?_toArray, List.getElem?_cons_zero, List.getElem?_cons_succ] at b0 b3
  by_cases hlt : k < M
  case neg =>
    have e : k = M := by omega
    subst e
    clear kh HII
    obtain ⟨d0, d1, d2, d3⟩ := BlkL.cs HR.out.cur
    have kl := fun (W : World) (g : Gr wr W) => ks W _ Ll _ (HR.out.box.gr g) (HH.out.hl.gr (HR.out.gr.trans g)) hLl (by omega)
    have kbo := fun p q W => both_any p q W
    have mixed : Tryd.prog.follows .mixedOrders = true := by kernel_rfl
    have zi := fun p : Pl => zt_iff p
    have ez : ∀ (p : Pl) W, (Op.equalIn 10000 67 (.agg (plc p)) (.agg #[.int .u64 0, .int .u64 0, .int .u64 0, .int .u64 0])).run Tryd.prog W = .ok (zt p) W := fun p W => eqIn50z p W
    clear b0
    gi_wp2
    refine wpIn_mono (Q := fun e a w5 => match e with | .normal => (∃ SL : Pl, Hid (∀ n, SL.has n = true ↔ n ∈ Ll ∧ n < sn) ∧ Hid (Gr wr w5) ∧ a = { tmps := #[.agg #[.slice sa sn sc, .bool E, .slice ia in' ic, .slice la ln lc, .slice fa fn fc], .slice pa k pc, .pointer (some ⟨w.heap.size, 0, none⟩), undef, .bool (!zt (cur.and SL)), .pointer (some ⟨p5, 0, none⟩), .pointer (some ⟨p6, 0, none⟩), .pointer (some ⟨p6 + 1, 0, none⟩), undef, u9, undef, .slice pa k pc, .int .i64 k, .bool false, undef, undef, .pointer (some ⟨w.heap.size, 0, none⟩), .slice sa sn sc, .int .i64 sn, .bool (decide ((200 : Int) < sn)), .slice (some ⟨qb, 0, none⟩) sn sn, .pointer (some ⟨w.heap.size, 2, none⟩), .slice ia in' ic, plv S, .agg #[.int .u64 0, .int .u64 0, .int .u64 0, .int .u64 0], .slice pa k pc, .int .i64 k, .int .i64 k, .bool false, u29, u30, u31, u32, u33, u34, u35, u36, undef, undef, undef, undef, undef, undef, undef, u44, plv cur, .pointer (some ⟨w.heap.size, 3, none⟩), .slice la ln lc, plv SL, plv (cur.and SL), .agg #[.int .u64 0, .int .u64 0, .int .u64 0, .int .u64 0], .bool (!zt (cur.and SL))], defers := marks Ds }) | _ => False) ?_ ?_
    · gi_region_with_o
        (first
          | (refine ⟨trivial, ?_⟩; gi_at_call 59; refine (callsIn_wide.2 (kl _ ((Gr.refl _).drewN 1))).mono ?_; rintro _ w4 ⟨SL, rfl, hS, gw⟩; have HS : Hid (∀ n, SL.has n = true ↔ n ∈ Ll ∧ n < sn) := hS; have G4 : Hid (Gr wr w4) := ((Gr.refl _).drewN 1).trans gw; clear hS gw; obtain ⟨e0, e1, e2, e3⟩ := BlkL.cs (HR.out.cur.gr G4.out))
          | (refine ⟨trivial, ?_⟩; gi_at_call 63; refine (callsIn_wide.2 (kbo _ _ _)).mono ?_; rintro _ w5 ⟨rfl, gw⟩; have G5 : Hid (Gr wr w5) := G4.out.trans gw; clear gw))
      all_goals exact ⟨SL, HS, G5, rfl⟩
    intro e a w5 hq
    cases e
    case exit => exact hq.elim
    case goto => exact hq.elim
    case ret => exact hq.elim
    case panic => exact hq.elim
    case outgrown => exact hq.elim
    obtain ⟨SL, HS, G5, rfl⟩ := hq
    gi_wp2
    have hr : (!zt (cur.and SL)) = true ↔ takes t l := by
      rw [zi, takes_reach t hk9 l (by intro e; rw [e] at HMM; have := HMM.out; simp at this; omega)]
      constructor
      · rintro ⟨n, hn⟩
        rw [Pl.has_and, Bool.and_eq_true, HCur.out n, HS.out n, HMM.out] at hn
        exact ⟨n, hn.1.2, (HI.out.ll.2 n).1 hn.2.1⟩
      · rintro ⟨q, h1, h2⟩
        refine ⟨q, ?_⟩
        rw [Pl.has_and, Bool.and_eq_true, HCur.out q, HS.out q, HMM.out]
        exact ⟨⟨by have := HMM.out; omega, h1⟩, (HI.out.ll.2 q).2 h2, by have := (Las.in_ h2).2; have := HNN.out; have := HI.out.sts.1; rw [setsT_len] at this; omega⟩
    refine leave_marks (B := p6 + 2) Ds w _ (HR.out.gr.trans G5.out) (by omega) HO.out.nd (HO.out.grow G5.out).at_ fun W' g' _ => ?_
    exact ⟨.bool (!zt (cur.and SL)), by simp [results, Tryd.f36], ⟨_, rfl, hr⟩, g'⟩
  obtain ⟨x, hx⟩ : ∃ x, l[k]? = some x := ⟨_, List.getElem?_eq_getElem (by have := HMM.out; omega)⟩
  have HX : Hid (l[k]? = some x) := hx
  obtain ⟨pb, off, rfl, hpb, c1⟩ := (HV.out.gr HR.out.gr).cs1 hx
  clear hx b3 hpb
  have hMl : ∀ n, may.has n = true → n < sets.length := fun n hn => by have := ((HMay.out n).1 hn).lt; have := HI.out.sts.1; rw [setsT_len] at this; omega
  have kh1 := kh wr _ HR.out.box (HH.out.gr HR.out.gr) (HTb.out.gr HR.out.gr) may hMl x
  have kx : (k : Int) < M := by omega
  clear kh hMl b0
  obtain ⟨d0, d1, d2, d3⟩ := BlkL.cs HR.out.may
  have ka := fun (A : Pl) W => all_any A W
  gi_wp2_with (first
    | (refine ⟨trivial, ?_⟩; gi_at_call 60; refine (callsIn_wide.2 kh1).mono ?_; rintro _ w4 ⟨A, rfl, hA, gw⟩; have HA : Hid (∀ j, A.has j = true ↔ may.has j = true ∧ ∃ m, sets[j]? = some m ∧ inSet m x = true) := hA; have R4 : Hid (RSt w w4 p5 p6 qb (pvc ⟨sa, sn, sc⟩ ⟨fa, fn, fc⟩ ⟨ia, in', ic⟩ ⟨la, ln, lc⟩ E) sn qs may cur) := HR.out.grow gw; have O4 : Hid (Open_ (p6 + 2) w4 Ds) := HO.out.grow gw; clear hA gw; obtain ⟨e0, e1, e2, e3⟩ := BlkL.cs R4.out.may; obtain ⟨g0, g1, g2, g3⟩ := BlkL.cs R4.out.cur; have f6 := R4.out.may.frozen; have f7 := R4.out.cur.frozen)
    | (refine ⟨trivial, ?_⟩; gi_at_call 61; refine (callsIn_wide.2 (ka A _)).mono ?_; rintro _ w5 ⟨rfl, rfl⟩))
  have HA2 : Hid (∀ q, A.has q = true ↔ CurP t l (k + 1) q) := fun q => by rw [HA.out q, HMay.out q, cur_next, HI.out.sat HX.out q]
  have HA3 : Hid (∀ q, A.has q = true → q < sn) := fun q hq => by
    obtain ⟨_, m, hm, _⟩ := (HA.out q).1 hq
    have := (List.getElem?_eq_some_iff.1 hm).1
    have := HNN.out
    omega
  have R5 : Hid (RSt w (((((((((w4.setCell ⟨p6 + 1, 0, none⟩ (.int .u64 (u A.a))).setCell ⟨p6 + 1, 1, none⟩ (.int .u64 (u A.b))).setCell ⟨p6 + 1, 2, none⟩ (.int .u64 (u A.c))).setCell ⟨p6 + 1, 3, none⟩ (.int .u64 (u A.d))).setCell ⟨p6, 0, none⟩ (.int .u64 0)).setCell ⟨p6, 1, none⟩ (.int .u64 0)).setCell ⟨p6, 2, none⟩ (.int .u64 0)).setCell ⟨p6, 3, none⟩ (.int .u64 0)).alloc (.cells (plc A) 67)) p5 p6 qb (pvc ⟨sa, sn, sc⟩ ⟨fa, fn, fc⟩ ⟨ia, in', ic⟩ ⟨la, ln, lc⟩ E) sn qs .zero A) := ((R4.out.put7 A.a A.b A.c A.d).put6 0 0 0 0).grow ((Gr.refl _).alloc _)
  have O5 : Hid (Open_ (p6 + 2) (((((((((w4.setCell ⟨p6 + 1, 0, none⟩ (.int .u64 (u A.a))).setCell ⟨p6 + 1, 1, none⟩ (.int .u64 (u A.b))).setCell ⟨p6 + 1, 2, none⟩ (.int .u64 (u A.c))).setCell ⟨p6 + 1, 3, none⟩ (.int .u64 (u A.d))).setCell ⟨p6, 0, none⟩ (.int .u64 0)).setCell ⟨p6, 1, none⟩ (.int .u64 0)).setCell ⟨p6, 2, none⟩ (.int .u64 0)).setCell ⟨p6, 3, none⟩ (.int .u64 0)).alloc (.cells (plc A) 67)) Ds) := ((O4.out.put4 (p := p6 + 1) (by omega) 0 1 2 3 (.int .u64 (u A.a)) (.int .u64 (u A.b)) (.int .u64 (u A.c)) (.int .u64 (u A.d))).put4 (p := p6) (by omega) 0 1 2 3 (.int .u64 0) (.int .u64 0) (.int .u64 0) (.int .u64 0)).grow ((Gr.refl _).alloc _)
  have hB5 : Blk (((((((((w4.setCell ⟨p6 + 1, 0, none⟩ (.int .u64 (u A.a))).setCell ⟨p6 + 1, 1, none⟩ (.int .u64 (u A.b))).setCell ⟨p6 + 1, 2, none⟩ (.int .u64 (u A.c))).setCell ⟨p6 + 1, 3, none⟩ (.int .u64 (u A.d))).setCell ⟨p6, 0, none⟩ (.int .u64 0)).setCell ⟨p6, 1, none⟩ (.int .u64 0)).setCell ⟨p6, 2, none⟩ (.int .u64 0)).setCell ⟨p6, 3, none⟩ (.int .u64 0)).alloc (.cells (plc A) 67)) w4.heap.size (plc A) 67 := Blk.new' _ _ _ _ (by simp)
  have hs5 : (((((((((w4.setCell ⟨p6 + 1, 0, none⟩ (.int .u64 (u A.a))).setCell ⟨p6 + 1, 1, none⟩ (.int .u64 (u A.b))).setCell ⟨p6 + 1, 2, none⟩ (.int .u64 (u A.c))).setCell ⟨p6 + 1, 3, none⟩ (.int .u64 (u A.d))).setCell ⟨p6, 0, none⟩ (.int .u64 0)).setCell ⟨p6, 1, none⟩ (.int .u64 0)).setCell ⟨p6, 2, none⟩ (.int .u64 0)).setCell ⟨p6, 3, none⟩ (.int .u64 0)).alloc (.cells (plc A) 67)).heap.size = w4.heap.size + 1 := by simp
  have hp6 := R4.out.cur.lt
  have HDs : Hid (∀ D ∈ Ds, D < w4.heap.size) := fun D hD => O4.out.lt hD
  generalize hW5 : World.alloc _ _ = W5 at R5 O5 hB5 hs5 ⊢
  generalize w4.heap.size = p8 at hB5 hs5 hp6 HDs ⊢
  clear hW5 R4 O4 e0 e1 e2 e3 g0 g1 g2 g3 f6 f7 d0 d1 d2 d3 kh1 HMay HCur HR HO HA bl c1
  clear w4
  refine range_bits A hB5 rfl rfl (fun pre W => ∃ o : Pl, Hid (RSt w W p5 p6 qb (pvc ⟨sa, sn, sc⟩ ⟨fa, fn, fc⟩ ⟨ia, in', ic⟩ ⟨la, ln, lc⟩ E) sn qs o A) ∧ Hid (Open_ (p6 + 2) W Ds) ∧ Hid (∀ q, o.has q = true ↔ ∃ p, p ∈ pre ∧ Fol t 0 p q)) ?hT ?hIa ?hIp ⟨.zero, R5, O5, fun q => by rw [Pl.has_zero]; simp⟩
    (fun i => { tmps := #[.agg #[.slice sa sn sc, .bool E, .slice ia in' ic, .slice la ln lc, .slice fa fn fc], .slice (some ⟨pb, off, none⟩) M pc, .pointer (some ⟨w.heap.size, 0, none⟩), undef, .bool false, .pointer (some ⟨p5, 0, none⟩), .pointer (some ⟨p6, 0, none⟩), .pointer (some ⟨p6 + 1, 0, none⟩), undef, .int .u32 x, .int .i64 i, .slice (some ⟨pb, off, none⟩) M pc, .int .i64 M, .bool false, undef, undef, .pointer (some ⟨w.heap.size, 0, none⟩), .slice sa sn sc, .int .i64 sn, .bool (decide ((200 : Int) < sn)), .slice (some ⟨qb, 0, none⟩) sn sn, .pointer (some ⟨w.heap.size, 2, none⟩), .slice ia in' ic, plv S, .agg #[.int .u64 0, .int .u64 0, .int .u64 0, .int .u64 0], .slice (some ⟨pb, off, none⟩) M pc, .int .i64 M, .int .i64 k, .bool true, .pointer (some ⟨pb, off + k, none⟩), .int .u32 x, plv may, .int .u32 x, plv A, .agg #[.int .u64 0, .int .u64 0, .int .u64 0, .int .u64 0], plv A, .func (.func 82) #[] #[.pointer (some ⟨p8, 0, none⟩)], .int .i64 i, undef, undef, undef, undef, undef, undef, u44, undef, undef, undef, undef, undef, undef, undef], defers := [] }) ?assign ?body ?done
  case hT => rintro pre W ⟨o, hr, _, _⟩; exact HTb.out.gr hr.out.gr
  case hIa => rintro pre W q ⟨o, hr, ho, hm⟩; exact ⟨o, hr.out.grow ((Gr.refl _).alloc q), ho.out.grow ((Gr.refl _).alloc q), hm⟩
  case hIp => rintro pre W j q hj ⟨o, hr, ho, hm⟩; exact ⟨o, hr.out.putObj (by omega) q, ho.out.putObj (fun D hD => by have := HDs.out D hD; omega) q, hm⟩
  case assign =>
    intro l' i W K hK
    gi_wp2
    exact hK
  case body =>
    rintro l' pre i W ⟨o, hr, ho, hm⟩ hi
    have hin := HA3.out i hi
    obtain ⟨q, hq, hqf⟩ := HQM.out i hin
    have HR6 : Hid (RSt w W p5 p6 qb (pvc ⟨sa, sn, sc⟩ ⟨fa, fn, fc⟩ ⟨ia, in', ic⟩ ⟨la, ln, lc⟩ E) sn qs o A) := hr
    have HO6 : Hid (Open_ (p6 + 2) W Ds) := ho
    have HM6 : Hid (∀ q, o.has q = true ↔ ∃ p, p ∈ pre ∧ Fol t 0 p q) := hm
    have HQI : Hid (qs[i]? = some q) := hq
    have HQF : Hid (∀ j, q.has j = true ↔ Fol t 0 i j) := hqf
    clear hr ho hm hq hqf
    obtain ⟨c0, c1, c2, c3⟩ := BlkL.cs HR6.out.may
    have m0 := HR6.out.beh.c 0
    obtain ⟨r0, r1, r2, r3⟩ := step_cs HR6.out.row HQI.out
    have ix : (i : Int) < sn := by omega
    have kw := fun o q W => with_any o q W
    have mixed : Tryd.prog.follows .mixedOrders = true := by kernel_rfl
    gi_wp2
    gi_region_with_o (refine ⟨trivial, ?_⟩; gi_at_call 62; refine (CallsIn.inRound l' (callsIn_wide.2 (kw _ _ _))).mono ?_; rintro _ w6 ⟨rfl, gw⟩; have G6 : Hid (Gr W w6) := ((Gr.refl _).drewN 1).trans gw; have R6 : Hid (RSt w w6 p5 p6 qb (pvc ⟨sa, sn, sc⟩ ⟨fa, fn, fc⟩ ⟨ia, in', ic⟩ ⟨la, ln, lc⟩ E) sn qs o A) := HR6.out.grow G6.out; clear gw; obtain ⟨g0, g1, g2, g3⟩ := BlkL.cs R6.out.may; have gf := R6.out.may.frozen)
    all_goals
      have R7 := R6.out.put6 (o.or q).a (o.or q).b (o.or q).c (o.or q).d
      gi_wp2
      have O7 := (HO6.out.grow G6.out).put4 (p := p6) (by omega) 0 1 2 3 (.int .u64 (u (o.or q).a)) (.int .u64 (u (o.or q).b)) (.int .u64 (u (o.or q).c)) (.int .u64 (u (o.or q).d))
      refine ⟨⟨?_, fun j q' hj hq' _ => ?_⟩, o.or q, R7, O7, fun j => ?_⟩
      · simp; exact G6.out.below.size
      · rw [Below.heap_setCell _ _ _ _ (by show j ≠ p6; omega), Below.heap_setCell _ _ _ _ (by show j ≠ p6; omega), Below.heap_setCell _ _ _ _ (by show j ≠ p6; omega), Below.heap_setCell _ _ _ _ (by show j ≠ p6; omega)]
        exact (G6.out.below.block j (Array.getElem?_eq_some_iff.1 hq').1).trans hq'
      · rw [Pl.has_or, Bool.or_eq_true, HM6.out j, HQF.out j]
  case done =>
    rintro D xs W hD hx hn ⟨o, hr, ho, hm⟩ hK
    have HK : Hid (W.heap[D]? = some (.deferred (some []))) := hK
    have HX2 : Hid (∀ n, n ∈ xs ↔ A.has n = true) := hx
    have HR6 : Hid (RSt w W p5 p6 qb (pvc ⟨sa, sn, sc⟩ ⟨fa, fn, fc⟩ ⟨ia, in', ic⟩ ⟨la, ln, lc⟩ E) sn qs o A) := hr
    have HO6 : Hid (Open_ (p6 + 2) W Ds) := ho
    have HM6 : Hid (∀ q, o.has q = true ↔ ∃ p, p ∈ xs ∧ Fol t 0 p q) := hm
    clear hr ho hm hK hx hn
    gi_wp2
    refine ⟨?_, ?_⟩
    · rw [HII.out]
      refine ⟨k + 1, _, _, _, _, _, _, _, _, _, _, _, o, A, D :: Ds, by omega, HR6, ?_, ?_, HA2, rfl⟩
      · refine ⟨List.nodup_cons.2 ⟨fun h => by have := HDs.out D h; omega, HO6.out.nd⟩, fun D' h => ?_⟩
        rcases List.mem_cons.1 h with rfl | h
        · exact ⟨by omega, HK.out⟩
        · exact HO6.out.at_ D' h
      · refine fun q => (HM6.out q).trans ⟨?_, ?_⟩
        · rintro ⟨p, h1, h2⟩; exact Or.inr ⟨p, (HA2.out p).1 ((HX2.out p).1 h1), h2⟩
        · rintro (⟨h, _⟩ | ⟨p, h1, h2⟩)
          · omega
          · exact ⟨p, (HX2.out p).2 ((HA2.out p).2 h1), h2⟩
    · simp [intOf]; omega

end Go.Proofs.YtjjlkjfhhpogaaaDoor
