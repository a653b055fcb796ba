/-
  The walk of cat: the positions of a Cat's parts.
-/
import Derived.Test.YtjjlkjfhhpogaaaDoorXa
namespace Go.Proofs.YtjjlkjfhhpogaaaDoor
open Go.RowKit

theorem JI.blk {w : World} {b B : Nat} {sv fv : Sl} {ss rs : List Sl} {sets : List (List (Int × Int))} {rows : List (List Nat)} {va vc : Value} {A C : List Nat} {i j : Nat} {rs' : List Sl} {rows' : List (List Nat)} {wr : World}
    (h : JI w b B sv fv ss rs sets rows va vc A C i j rs' rows' wr) (hX : XS w b B sv fv ss rs sets rows) {p : Nat} {cs : Array Value} {t : TypeId} (hp : Blk w p cs t) (h1 : t ≠ 50) (h2 : t ≠ 3) : Blk wr p cs t :=
  (h.fx.block p hp.lt fun e => by
    rcases e with e | ⟨a, r, _, hr, e⟩
    · obtain ⟨cs', hc⟩ := hX.fo.blk e
      exact h1 (hp.same hc).2
    · obtain ⟨L, hL⟩ : ∃ L, rows[a]? = some L := ⟨_, List.getElem?_eq_getElem (by have := (List.getElem?_eq_some_iff.1 hr).1; have := hX.rl; omega)⟩
      obtain ⟨cs', hc⟩ := (hX.re a r L hr hL).blk e
      exact h2 (hp.same hc).2).trans hp

set_option maxRecDepth 100000 in
set_option maxHeartbeats 8000000 in
theorem cat_any (w0 w : World) (b B : Nat) (sv fv : Sl) (ss rs : List Sl) (sets : List (List (Int × Int))) (rows : List (List Nat)) (ba : Option Addr) (bc : Nat) (ts : List Tree) (xs : List PC)
    (hE : ∀ (i : Nat) s, ts[i]? = some s → CP w0 s) (hX : XS w b B sv fv ss rs sets rows) (hB : B ≤ w.heap.size) (hw : w0.heap.size ≤ B) (h0 : Below w0.heap.size w0 w) (hrow : RowT w0 (.slice ba ts.length bc) xs) (hts : HTs w0 ts xs) (hk : kindsL ts = true) (hsz : sizeL ts ≤ 200) (hg : goodL ts)
    (hlr : sets.length = rows.length) (hl : sets.length + onesL ts ≤ 200) :
    Calls Tryd.prog 76 #[.pointer (some ⟨b, 0, none⟩), .slice ba ts.length bc] w fun e w' => PostX w b B sv fv ss rs sets rows (empC ts) (setsL ts) (FolC ts sets.length) (FirC ts sets.length) (LasC ts sets.length) e w' := by
  obtain ⟨N, hN⟩ : ∃ N : Nat, N = ts.length := ⟨_, rfl⟩
  have HN : Hid (N = ts.length) := hN
  have HX : Hid (XS w b B sv fv ss rs sets rows) := hX
  have HE : Hid (∀ (i : Nat) s, ts[i]? = some s → CP w0 s) := hE
  have HB0 : Hid (B ≤ w.heap.size) := hB
  have HW0 : Hid (w0.heap.size ≤ B) := hw
  have H0 : Hid (Below w0.heap.size w0 w) := h0
  have HROW : Hid (RowT w0 (.slice ba N bc) xs) := by rw [hN]; exact hrow
  have HTS : Hid (HTs w0 ts xs) := hts
  have HK : Hid (kindsL ts = true) := hk
  have HGD : Hid (goodL ts) := hg
  have HLR : Hid (sets.length = rows.length) := hlr
  have HL : Hid (sets.length + onesL ts ≤ 200) := hl
  have HSZ : Hid (sizeL ts ≤ 200) := hsz
  have hNl : N ≤ 200 := by have := length_le_sizeL ts; omega
  have hsb : b < w.heap.size := hX.blk.lt
  rw [← hN]
  clear hX hE hB hw h0 hrow hts hk hg hlr hl hsz hN
  go_enter Tryd.func76, Tryd.ntmps76
  go_wp2_with fail
  have I0 : Hid (TI w b B sv fv ss rs sets rows (empC (ts.take 0)) (setsL (ts.take 0)) (FirC (ts.take 0) sets.length) (LasC (ts.take 0) sets.length) (FolC (ts.take 0) sets.length) sv fv ⟨none, 0, 0⟩ ⟨none, 0, 0⟩ [] [] [] [] [] [] ((w.alloc (.cells #[.bool false, .slice none 0 0, .slice none 0 0] 89)).alloc (.cells #[.bool true, .slice none 0 0, .slice none 0 0] 89))) := by
    have hb2 : Below w.heap.size w ((w.alloc (.cells #[.bool false, .slice none 0 0, .slice none 0 0] 89)).alloc (.cells #[.bool true, .slice none 0 0, .slice none 0 0] 89)) := ((Below.refl _ _).alloc (Nat.le_refl _) _).alloc (by simp) _
    rw [List.take_zero]
    refine ⟨⟨?_, Fx.bel hb2, fun g e => Or.inl e, ⟨OwnX.nil _ _ _ _ _, OwnX.nil _ _ _ _ _, OwnX.nil _ _ _ _ _, OwnX.nil _ _ _ _ _, fun k r g _ _ => ⟨own_nil g, own_nil g, own_nil g, own_nil g⟩, fun g e => absurd e (own_nil g), fun g e => absurd e (own_nil g), fun g e => absurd e (own_nil g), fun g e => absurd e (own_nil g), fun g e => absurd e (own_nil g), fun g e => absurd e (own_nil g)⟩, fun k r g hr => by simp at hr⟩,
      ListOf.nil fun i e => by rw [FirC_nil] at e; exact e, ListOf.nil fun i e => by rw [LasC_nil] at e; exact e, ⟨by simp [setsL_nil], fun k s hs => by rw [setsL_nil] at hs; simp at hs⟩, ⟨by simp [setsL_nil], fun k L hL => by simp at hL⟩, ?_, ?_⟩
    · simp only [List.append_nil]; exact HX.out.bel hb2
    · rw [empC_nil]; exact Blk.new' _ _ _ _ (by simp)
    · exact (Blk.new _ _ _).alloc _
  go_loopw [12] (fun vi wr => ∃ (i : Nat) (sv' fv' f1 l1 : Sl) (ss' rs' : List Sl) (sets' : List (List (Int × Int))) (rows' : List (List Nat)) (F1 L1 : List Nat), i ≤ N ∧ vi = .int .i64 i ∧ Hid (TI w b B sv fv ss rs sets rows (empC (ts.take i)) (setsL (ts.take i)) (FirC (ts.take i) sets.length) (LasC (ts.take i) sets.length) (FolC (ts.take i) sets.length) sv' fv' f1 l1 ss' rs' sets' rows' F1 L1 wr)) (fun vi _ => N - (intOf vi).toNat)
  case atStart => exact ⟨0, _, _, _, _, _, _, _, _, _, _, Nat.zero_le _, rfl, I0⟩
  case round =>
    clear I0
    obtain ⟨i, sv1, fv1, f1, l1, ss1, rs1, sets1, rows1, F1, L1, hi, rfl, HI⟩ := hrel
    by_cases hlt : i < N
    case neg =>
      have e : i = N := by omega
      subst e
      have he : ts.take i = ts := by rw [HN.out, List.take_length]
      rw [he] at HI
      have o0 := HI.out.out.c 0
      have o1 := HI.out.out.c 1
      have o2 := HI.out.out.c 2
      have q0 := HI.out.res.c 0
      have q1 := HI.out.res.c 1
      have q2 := HI.out.res.c 2
      have qf := HI.out.res.frozen
      obtain ⟨fa, fn, fc⟩ := f1
      obtain ⟨la, ln, lc⟩ := l1
      simp only [List.getElem?_toArray, List.getElem?_cons_zero, List.getElem?_cons_succ] at o0 o1 o2 q0 q1 q2
      go_wp2_with fail
      obtain ⟨P, T⟩ := HI.out.px
      refine bodyPost_ret (v := .agg #[.bool (empC ts), .slice fa fn fc, .slice la ln lc]) ?_ rfl ⟨_, _, ⟨fa, fn, fc⟩, ⟨la, ln, lc⟩, _, _, _, _, _, _, rfl, P⟩
      simp [results, Tryd.results76]
      exact run_told (x := ⟨fa, fn, fc⟩) (y := ⟨la, ln, lc⟩) T
    obtain ⟨s, hs⟩ : ∃ s, ts[i]? = some s := ⟨_, List.getElem?_eq_getElem (by have := HN.out; omega)⟩
    obtain ⟨x, hx, hT⟩ := HTS.out.at hs
    obtain ⟨b9, off, rfl, hb9, c0, c1, c2⟩ := HROW.out.cs3 hx
    have hbr := bel0 HX.out HW0.out HB0.out H0.out HI.out.mx.fx
    have r0 := (hbr.cell (p := ⟨b9, off + i * 3, none⟩) hb9).trans c0
    have r1 := (hbr.cell (p := ⟨b9, off + i * 3 + 1, none⟩) hb9).trans c1
    have r2 := (hbr.cell (p := ⟨b9, off + i * 3 + 2, none⟩) hb9).trans c2
    have HS : Hid (ts[i]? = some s) := hs
    have hon : onesL (ts.take i) + ones s ≤ onesL ts := by
      have h1 := onesL_append (ts.take i) (ts.drop i)
      rw [List.take_append_drop, drop_of hs, onesL_cons] at h1
      omega
    have HON : Hid (onesL (ts.take i) + ones s ≤ onesL ts) := hon
    have hl1 : sets1.length = onesL (ts.take i) := by have := HI.out.sts.1; rw [setsL_len] at this; exact this
    have HL1 : Hid (sets1.length = onesL (ts.take i)) := hl1
    obtain ⟨xk, ⟨x1, x2, x3⟩, x4, x5, x6⟩ := x
    simp only at r0 r1 r2
    have KE : Hid (Calls Tryd.prog 54 #[.pointer (some ⟨b, 0, none⟩), .agg #[.int .i64 xk, .slice x1 x2 x3, .slice x4 x5 x6]] (wr.alloc (.cells #[.int .i64 xk, .slice x1 x2 x3, .slice x4 x5 x6] 25)) fun e w' => PostX (wr.alloc (.cells #[.int .i64 xk, .slice x1 x2 x3, .slice x4 x5 x6] 25)) b B sv1 fv1 (ss ++ ss1) (rs ++ rs1) (sets ++ sets1) (rows ++ rows1) (emp s) (setsT s) (Fol s (sets ++ sets1).length) (Fir s (sets ++ sets1).length) (Las s (sets ++ sets1).length) e w') :=
      HE.out i s hs _ b B sv1 fv1 _ _ _ _ ⟨xk, ⟨x1, x2, x3⟩, x4, x5, x6⟩ (HI.out.mx.xs.bel ((Below.refl _ _).alloc (Nat.le_refl _) _)) (by have := HI.out.mx.fx.size; have := HB0.out; simp; omega) HW0.out (hbr.alloc (by have := hbr.size; omega) _) hT (kindsT_of_at HK.out hs) (Nat.le_trans (size_le_of_at hs) HSZ.out) (goodL.at HGD.out hs) (HI.out.len HLR.out) (by rw [List.length_append, hl1]; have := HL.out; omega)
    clear c0 c1 c2 hbr hs hx hT hon hl1 hb9
    go_upto_region 6 with (go_at_call 54; refine KE.out.mono ?_; rintro _ w3 ⟨sv2, fv2, ⟨ga, gn, gc⟩, ⟨ha, hn, hc⟩, ss2, rs2, sets2, rows2, Lf2, Ll2, rfl, px⟩; have P2 : Hid _ := px; clear px)
    have M2 := (HI.out.mx.bel ((Below.refl _ _).alloc (Nat.le_refl _) (.cells #[.int .i64 xk, .slice x1 x2 x3, .slice x4 x5 x6] 25))).part P2.out
    have HM2 : Hid (MX w b B sv fv ss rs sets rows sv2 fv2 (ss1 ++ ss2) (rs1 ++ rs2) (sets1 ++ sets2) (rows1 ++ rows2) f1 l1 ⟨ga, gn, gc⟩ ⟨ha, hn, hc⟩ F1 L1 Lf2 Ll2 w3) := M2
    have o3 : Blk w3 (w.heap.size + 1) _ 89 := (P2.out.fx.block _ (HI.out.out.alloc _).lt ((HI.out.mx.xs.bel ((Below.refl _ _).alloc (Nat.le_refl _) (.cells #[.int .i64 xk, .slice x1 x2 x3, .slice x4 x5 x6] 25))).notMv (HI.out.out.alloc _) (by decide) (by decide) (by decide))).trans (HI.out.out.alloc _)
    have q3 : Blk w3 w.heap.size _ 89 := (P2.out.fx.block _ (HI.out.res.alloc _).lt ((HI.out.mx.xs.bel ((Below.refl _ _).alloc (Nat.le_refl _) (.cells #[.int .i64 xk, .slice x1 x2 x3, .slice x4 x5 x6] 25))).notMv (HI.out.res.alloc _) (by decide) (by decide) (by decide))).trans (HI.out.res.alloc _)
    have HO3 : Hid (Blk (w3.alloc (.cells #[.bool (emp s), .slice ga gn gc, .slice ha hn hc] 89)) (w.heap.size + 1) #[.bool (empC (ts.take i)), .slice f1.a f1.n f1.c, .slice l1.a l1.n l1.c] 89) := Blk.alloc o3 _
    have HQ3 : Hid (Blk (w3.alloc (.cells #[.bool (emp s), .slice ga gn gc, .slice ha hn hc] 89)) w.heap.size #[.bool false, .slice none 0 0, .slice none 0 0] 89) := Blk.alloc q3 _
    have HP3 : Hid (Blk (w3.alloc (.cells #[.bool (emp s), .slice ga gn gc, .slice ha hn hc] 89)) w3.heap.size #[.bool (emp s), .slice ga gn gc, .slice ha hn hc] 89) := Blk.new _ _ _
    have HM3 : Hid (MX w b B sv fv ss rs sets rows sv2 fv2 (ss1 ++ ss2) (rs1 ++ rs2) (sets1 ++ sets2) (rows1 ++ rows2) f1 l1 ⟨ga, gn, gc⟩ ⟨ha, hn, hc⟩ F1 L1 Lf2 Ll2 (w3.alloc (.cells #[.bool (emp s), .slice ga gn gc, .slice ha hn hc] 89))) := HM2.out.bel ((Below.refl _ _).alloc (Nat.le_refl _) _)
    have hlt3 := o3.lt
    have HS3 : Hid (w.heap.size + 1 < w3.heap.size) := hlt3
    have HLF : Hid (ListOf (FirC (ts.take i) sets.length) F1 ∧ ListOf (LasC (ts.take i) sets.length) L1 ∧ SetsOf (setsL (ts.take i)) sets1 ∧ RowsOf (setsL (ts.take i)).length sets.length (FolC (ts.take i) sets.length) rows1) := ⟨HI.out.lf, HI.out.ll, HI.out.sts, HI.out.rws⟩
    have HL2 : Hid (ListOf (Fir s (sets ++ sets1).length) Lf2 ∧ ListOf (Las s (sets ++ sets1).length) Ll2 ∧ SetsOf (setsT s) sets2 ∧ RowsOf (setsT s).length (sets ++ sets1).length (Fol s (sets ++ sets1).length) rows2) := ⟨P2.out.lf, P2.out.ll, P2.out.sts, P2.out.rws⟩
    clear o3 q3 M2 HM2 HI KE P2 r0 r1 r2 hlt3
    generalize hW3 : w3.alloc _ = W3 at HO3 HQ3 HP3 HM3 ⊢
    clear hW3
    generalize w3.heap.size = p8 at HP3 HS3 ⊢
    clear w3
    have F200 : Hid (F1.length ≤ 200 ∧ L1.length ≤ 200 ∧ Lf2.length ≤ 200 ∧ Ll2.length ≤ 200) := by
      have h1 := HON.out
      have h2 := HL.out
      have h3 := HL1.out
      refine ⟨rises_len HLF.out.1.1 fun j hj => ?_, rises_len HLF.out.2.1.1 fun j hj => ?_, rises_len HL2.out.1.1 fun j hj => ?_, rises_len HL2.out.2.1.1 fun j hj => ?_⟩
      · have := FirC.in_ ((HLF.out.1.2 j).1 hj); omega
      · have := LasC.in_ ((HLF.out.2.1.2 j).1 hj); omega
      · have := Fir.in_ ((HL2.out.1.2 j).1 hj); rw [List.length_append] at this; omega
      · have := Las.in_ ((HL2.out.2.1.2 j).1 hj); rw [List.length_append] at this; omega
    obtain ⟨fa, fn, fc⟩ := f1
    obtain ⟨la, ln, lc⟩ := l1
    have n15 : w.heap.size + 1 ≠ p8 := by have := HS3.out; omega
    have HON2 : Hid (∀ a ∈ L1, sets.length ≤ a ∧ a < sets.length + onesL (ts.take i)) := fun a ha => LasC.in_ ((HLF.out.2.1.2 a).1 ha)
    have KJ := join_any W3 b B sv2 fv2 _ _ _ _ (.slice la ln lc) (.slice ga gn gc) L1 Lf2 HM3.out.xs (by have := HM3.out.fx.size; have := HB0.out; omega) (HM3.out.l4.ol1.lower (Nat.zero_le _)) (HM3.out.l4.of2.lower (Nat.zero_le _)) (fun k r g h1 h2 => ⟨fun e => (HM3.out.l4.rows k r g h1 h2).2.1 e, fun e => (HM3.out.l4.rows k r g h1 h2).2.2.1 e⟩)
      (fun a ha => by
        have h1 := HON2.out a ha
        have h2 := HLF.out.2.2.2.1
        rw [setsL_len] at h2
        rw [List.length_append, List.length_append, h2, ← HLR.out]
        omega)
      (fun x hx => by
        have h1 := Fir.in_ ((HL2.out.1.2 x).1 hx)
        have h2 := HON.out
        have h3 := HL.out
        have h4 := HL1.out
        rw [List.length_append] at h1
        omega) (by have := F200.out; omega) (by have := F200.out; omega)
    have d1 := HO3.out.c 2
    have e1 := HP3.out.c 1
    simp only [List.getElem?_toArray, List.getElem?_cons_zero, List.getElem?_cons_succ] at d1 e1
    go_upto_region 7 with (go_at_call 91; refine KJ.mono ?_; rintro _ w4 ⟨⟨v4, rfl⟩, rs3, rows3, ji⟩; have J4 : Hid _ := ji; clear ji)
    obtain ⟨rs4, rows4, M4, hrl4, hrow4⟩ := HM3.out.join J4.out (fun a ha => by have := HON2.out a ha; have := HLR.out; omega) (by have := HX.out.rl; have := HLR.out; omega)
    have HO4 : Hid (Blk w4 (w.heap.size + 1) #[.bool (empC (ts.take i)), .slice fa fn fc, .slice la ln lc] 89) := J4.out.blk HM3.out.xs HO3.out (by decide) (by decide)
    have HQ4 : Hid (Blk w4 w.heap.size #[.bool false, .slice none 0 0, .slice none 0 0] 89) := J4.out.blk HM3.out.xs HQ3.out (by decide) (by decide)
    have HP4 : Hid (Blk w4 p8 #[.bool (emp s), .slice ga gn gc, .slice ha hn hc] 89) := J4.out.blk HM3.out.xs HP3.out (by decide) (by decide)
    have HM4 : Hid _ := M4
    have HRW4 : Hid (rows4.length = (rows1 ++ rows2).length ∧ ∀ (k : Nat) L, (rows1 ++ rows2)[k]? = some L → ∃ L', rows4[k]? = some L' ∧ ∀ x, x ∈ L' ↔ x ∈ L ∨ (rows.length + k ∈ L1 ∧ x ∈ Lf2)) := ⟨hrl4, hrow4⟩
    clear HO3 HQ3 HP3 HM3 KJ J4 M4 hrl4 hrow4 d1 e1
    have et := take_succ_of HS.out
    have hlen : (sets ++ sets1).length = sets.length + onesL (ts.take i) := by rw [List.length_append, HL1.out]
    have hl2 := HL2.out
    rw [hlen] at hl2
    obtain ⟨p1, p2, p3, p4⟩ := HLF.out
    obtain ⟨t1, t2, t3, t4⟩ := hl2
    have HP1 : Hid (ListOf (FirC (ts.take i) sets.length) F1) := p1
    have HP2 : Hid (ListOf (LasC (ts.take i) sets.length) L1) := p2
    have HT1 : Hid (ListOf (Fir s (sets.length + onesL (ts.take i))) Lf2) := t1
    have HT2 : Hid (ListOf (Las s (sets.length + onesL (ts.take i))) Ll2) := t2
    have HET : Hid (ts.take (i + 1) = ts.take i ++ [s]) := et
    have HSTS : Hid (SetsOf (setsL (ts.take (i + 1))) (sets1 ++ sets2)) := by
      show SetsOf _ _
      rw [et, setsL_append, setsL_cons, setsL_nil, List.append_nil]
      exact p3.append t3
    have HRWS : Hid (RowsOf (setsL (ts.take (i + 1))).length sets.length (FolC (ts.take (i + 1)) sets.length) rows4) := by
      rw [setsL_len] at p4
      rw [setsT_len] at t4
      have p5 := p4.append t4
      refine ⟨by rw [HRW4.out.1, p5.1, setsL_len, et, onesL_append, onesL_cons, onesL_nil, Nat.add_zero], fun k L hL j => ?_⟩
      obtain ⟨L0, hL0⟩ : ∃ L0, (rows1 ++ rows2)[k]? = some L0 := ⟨_, List.getElem?_eq_getElem (by have := (List.getElem?_eq_some_iff.1 hL).1; have := HRW4.out.1; omega)⟩
      obtain ⟨L', h1, h2⟩ := HRW4.out.2 k L0 hL0
      rw [hL] at h1
      injection h1 with h1
      subst h1
      rw [h2 j, p5.2 k L0 hL0 j, et, FolC_snoc, ← HLR.out, p2.2, t1.2]
      constructor
      · rintro ((⟨_, h⟩ | ⟨_, h⟩) | h)
        · exact Or.inl h
        · exact Or.inr (Or.inl h)
        · exact Or.inr (Or.inr h)
      · rintro (h | h | h)
        · exact Or.inl (Or.inl ⟨(FolC.in_ h).1.2, h⟩)
        · exact Or.inl (Or.inr ⟨(Fol.in_ h).1.1, h⟩)
        · exact Or.inr h
    have HEE : Hid (empC (ts.take (i + 1)) = (empC (ts.take i) && emp s)) := by show _ = _; rw [et, empC_append, empC_cons, empC_nil, Bool.and_true]
    obtain ⟨q1, hq1⟩ : ∃ q1, q1 = empC (ts.take i) := ⟨_, rfl⟩
    obtain ⟨q2, hq2⟩ : ∃ q2, q2 = emp s := ⟨_, rfl⟩
    rw [← hq1] at HO4 HEE
    rw [← hq2] at HP4 HEE
    have HQ1E : Hid (q1 = empC (ts.take i)) := hq1
    have HQ2E : Hid (q2 = emp s) := hq2
    clear et hlen p1 p2 p3 p4 t1 t2 t3 t4 HLF HL2 HRW4 hq1 hq2
    have d0 := HO4.out.c 0
    have d1 := HO4.out.c 1
    have e1 := HP4.out.c 1
    have df := HO4.out.frozen
    simp only [List.getElem?_toArray, List.getElem?_cons_zero, List.getElem?_cons_succ] at d0 d1 e1
    cases q1
    case' false =>
      go_upto_region 9 with fail
      have A9 : ∃ (f9 : Sl) (F9 : List Nat), Hid (MX w b B sv fv ss rs sets rows sv2 fv2 (ss1 ++ ss2) rs4 (sets1 ++ sets2) rows4 f9 ⟨la, ln, lc⟩ ⟨ga, gn, gc⟩ ⟨ha, hn, hc⟩ F9 L1 Lf2 Ll2 w4) ∧ Hid (ListOf (FirC (ts.take (i + 1)) sets.length) F9) ∧ Hid (Blk w4 (w.heap.size + 1) #[.bool false, .slice f9.a f9.n f9.c, .slice la ln lc] 89) ∧ Hid (Blk w4 w.heap.size #[.bool false, .slice none 0 0, .slice none 0 0] 89) ∧ Hid (Blk w4 p8 #[.bool q2, .slice ga gn gc, .slice ha hn hc] 89) :=
        ⟨⟨fa, fn, fc⟩, F1, HM4.out, HP1.out.iff fun j => (by
          rw [HET.out, FirC_snoc, ← HQ1E.out]
          simp), HO4, HQ4, HP4⟩
      clear HM4 HO4 HQ4 HP4 d0 d1 e1 df
    case' true =>
      go_upto_region 9 with (refine wp_appI (by rfl) _ _ (by rfl) w.heap.size (.slice fa fn fc) F1 (by rfl) HM4.out.l4.of1 (.slice ga gn gc) Lf2 (by rfl) (HM4.out.l4.of2.row encI_len) (by have := F200.out; omega) HM4.out.fx.size ?_; intro a5 c5 w5 o5 g5 b5; have G5 : Hid (w4.grownBy w5 (Value.slice fa fn fc).ownBlock) := g5; have M5 : Hid (MX w b B sv fv ss rs sets rows sv2 fv2 (ss1 ++ ss2) rs4 (sets1 ++ sets2) rows4 ⟨a5, F1.length + Lf2.length, c5⟩ ⟨la, ln, lc⟩ ⟨ga, gn, gc⟩ ⟨ha, hn, hc⟩ (F1 ++ Lf2) L1 Lf2 Ll2 w5) := HM4.out.appF (f' := ⟨a5, F1.length + Lf2.length, c5⟩) o5 g5 b5; have hd5 := grown_blk HM4.out.l4.of1 HO4.out (by decide) g5; have d51 := hd5.c 1; have df5 := hd5.frozen 1; have hp5 := grown_blk HM4.out.l4.of1 HP4.out (by decide) g5; have p50 := hp5.c 0; simp only [List.getElem?_toArray, List.getElem?_cons_zero, List.getElem?_cons_succ] at d51 p50; clear o5 g5 b5 hd5 hp5)
      have M9 := M5.out.other (grown_blk HM4.out.l4.of1 HO4.out (by decide) G5.out) (by omega) 1 (.slice a5 (F1.length + Lf2.length) c5)
      have O9 := (grown_blk HM4.out.l4.of1 HO4.out (by decide) G5.out).set 1 (.slice a5 (F1.length + Lf2.length) c5)
      have Q9 := (grown_blk HM4.out.l4.of1 HQ4.out (by decide) G5.out).other (p := ⟨w.heap.size + 1, 1, none⟩) (by simp) (.slice a5 (F1.length + Lf2.length) c5)
      have P9 := (grown_blk HM4.out.l4.of1 HP4.out (by decide) G5.out).other (p := ⟨w.heap.size + 1, 1, none⟩) (by show p8 ≠ w.heap.size + 1; omega) (.slice a5 (F1.length + Lf2.length) c5)
      generalize hW9 : World.setCell _ _ _ = w9 at M9 O9 Q9 P9 ⊢
      have A9 : ∃ (f9 : Sl) (F9 : List Nat), Hid (MX w b B sv fv ss rs sets rows sv2 fv2 (ss1 ++ ss2) rs4 (sets1 ++ sets2) rows4 f9 ⟨la, ln, lc⟩ ⟨ga, gn, gc⟩ ⟨ha, hn, hc⟩ F9 L1 Lf2 Ll2 w9) ∧ Hid (ListOf (FirC (ts.take (i + 1)) sets.length) F9) ∧ Hid (Blk w9 (w.heap.size + 1) #[.bool true, .slice f9.a f9.n f9.c, .slice la ln lc] 89) ∧ Hid (Blk w9 w.heap.size #[.bool false, .slice none 0 0, .slice none 0 0] 89) ∧ Hid (Blk w9 p8 #[.bool q2, .slice ga gn gc, .slice ha hn hc] 89) :=
        ⟨⟨a5, F1.length + Lf2.length, c5⟩, F1 ++ Lf2, M9, (HP1.out.append HT1.out (m := sets.length + onesL (ts.take i)) (fun j hj => (FirC.in_ hj).2) (fun j hj => (Fir.in_ hj).1)).iff fun j => (by
          rw [HET.out, FirC_snoc, ← HQ1E.out]
          simp), O9, Q9, P9⟩
      clear hW9 M9 O9 Q9 P9 M5 G5 d51 df5 p50 HM4 HO4 HQ4 HP4 d0 d1 e1 df
    all_goals
      obtain ⟨⟨fa9, fn9, fc9⟩, F9, HM9, HF9, HO9, HQ9, HP9⟩ := A9
      have d2 := HO9.out.c 2
      have e0 := HP9.out.c 0
      have df := HO9.out.frozen
      simp only [List.getElem?_toArray, List.getElem?_cons_zero, List.getElem?_cons_succ] at d2 e0
      cases q2
      case' false =>
        go_upto_region 11 with fail
        have M11 := (HM9.out.other HO9.out (by omega) 2 (.slice none 0 0)).nilL
        have O11 := HO9.out.set 2 (.slice none 0 0)
        have Q11 := HQ9.out.other (p := ⟨w.heap.size + 1, 2, none⟩) (by simp) (.slice none 0 0)
        have P11 := HP9.out.other (p := ⟨w.heap.size + 1, 2, none⟩) (by show p8 ≠ w.heap.size + 1; omega) (.slice none 0 0)
        have N11 : ListOf (fun j => emp s = true ∧ LasC (ts.take i) sets.length j) [] := ListOf.nil fun j h => by rw [← HQ2E.out] at h; exact absurd h.1 (by decide)
        have HM11 : Hid (MX w b B sv fv ss rs sets rows sv2 fv2 (ss1 ++ ss2) rs4 (sets1 ++ sets2) rows4 ⟨fa9, fn9, fc9⟩ ⟨none, 0, 0⟩ ⟨ga, gn, gc⟩ ⟨ha, hn, hc⟩ F9 ([] : List Nat) Lf2 Ll2 _) := M11
        have HO11 : Hid (Blk _ (w.heap.size + 1) #[.bool _, .slice fa9 fn9 fc9, .slice none 0 0] 89) := O11
        have HQ11 : Hid (Blk _ w.heap.size #[.bool false, .slice none 0 0, .slice none 0 0] 89) := Q11
        have HP11 : Hid (Blk _ p8 #[.bool _, .slice ga gn gc, .slice ha hn hc] 89) := P11
        have HN11 : Hid (ListOf (fun j => emp s = true ∧ LasC (ts.take i) sets.length j) ([] : List Nat)) := N11
        clear M11 O11 Q11 P11 N11 d2 e0 df HM9 HO9 HQ9 HP9
        generalize hW : World.setCell _ _ _ = W11 at HM11 HO11 HQ11 HP11 ⊢
        clear hW
        have k2 := HO11.out.c 2
        have k0 := HP11.out.c 2
        have kf := HO11.out.frozen
        simp only [List.getElem?_toArray, List.getElem?_cons_zero, List.getElem?_cons_succ] at k2 k0
        go_upto_region 12 with (refine wp_appI (by rfl) _ _ (by rfl) w.heap.size (.slice none 0 0) ([] : List Nat) (by rfl) HM11.out.l4.ol1 (.slice ha hn hc) Ll2 (by rfl) (HM11.out.l4.ol2.row encI_len) (by have := F200.out; simp; omega) HM11.out.fx.size ?_; intro a7 c7 w7 o7 g7 b7; simp only [List.length_nil, Nat.zero_add] at o7 b7; have G7 : Hid (World.grownBy _ w7 (Value.slice none 0 0).ownBlock) := g7; have M7 : Hid (MX w b B sv fv ss rs sets rows sv2 fv2 (ss1 ++ ss2) rs4 (sets1 ++ sets2) rows4 ⟨fa9, fn9, fc9⟩ ⟨a7, Ll2.length, c7⟩ ⟨ga, gn, gc⟩ ⟨ha, hn, hc⟩ F9 (([] : List Nat) ++ Ll2) Lf2 Ll2 w7) := HM11.out.appL (l' := ⟨a7, Ll2.length, c7⟩) o7 g7 b7; have hd7 := grown_blk HM11.out.l4.ol1 HO11.out (by decide) g7; have d70 := hd7.c 0; have d72 := hd7.c 2; have df7 := hd7.frozen; have hp7 := grown_blk HM11.out.l4.ol1 HP11.out (by decide) g7; have p70 := hp7.c 0; simp only [List.getElem?_toArray, List.getElem?_cons_zero, List.getElem?_cons_succ] at d70 d72 p70; clear o7 g7 b7 hd7 hp7)
        have M12 := M7.out.other (grown_blk HM11.out.l4.ol1 HO11.out (by decide) G7.out) (by omega) 2 (.slice a7 (Ll2.length) c7)
        have O12 := (grown_blk HM11.out.l4.ol1 HO11.out (by decide) G7.out).set 2 (.slice a7 (Ll2.length) c7)
        have Q12 := (grown_blk HM11.out.l4.ol1 HQ11.out (by decide) G7.out).other (p := ⟨w.heap.size + 1, 2, none⟩) (by simp) (.slice a7 (Ll2.length) c7)
        have P12 := (grown_blk HM11.out.l4.ol1 HP11.out (by decide) G7.out).other (p := ⟨w.heap.size + 1, 2, none⟩) (by show p8 ≠ w.heap.size + 1; omega) (.slice a7 (Ll2.length) c7)
        have HM12 : Hid (MX w b B sv fv ss rs sets rows sv2 fv2 (ss1 ++ ss2) rs4 (sets1 ++ sets2) rows4 ⟨fa9, fn9, fc9⟩ ⟨a7, Ll2.length, c7⟩ ⟨ga, gn, gc⟩ ⟨ha, hn, hc⟩ F9 (([] : List Nat) ++ Ll2) Lf2 Ll2 _) := M12
        have HO12 : Hid (Blk _ (w.heap.size + 1) #[.bool _, .slice fa9 fn9 fc9, .slice a7 (Ll2.length) c7] 89) := O12
        have HQ12 : Hid (Blk _ w.heap.size #[.bool false, .slice none 0 0, .slice none 0 0] 89) := Q12
        have HP12 : Hid (Blk _ p8 #[.bool _, .slice ga gn gc, .slice ha hn hc] 89) := P12
        clear M12 O12 Q12 P12 HM11 HO11 HQ11 HP11 M7 G7 k2 k0 kf d70 d72 df7 p70
        generalize hW : World.setCell _ _ _ = W12 at HM12 HO12 HQ12 HP12 ⊢
        clear hW
        have d0 := HO12.out.c 0
        have e0 := HP12.out.c 0
        have df := HO12.out.frozen
        simp only [List.getElem?_toArray, List.getElem?_cons_zero] at d0 e0
        go_wp2_with fail
        go_roundw
        case rel =>
          refine ⟨i + 1, _, _, _, _, _, _, _, _, _, _, by omega, by go_num, (⟨(HM12.out.other HO12.out (by omega) 0 _).end_, HF9.out, (HN11.out.append HT2.out (m := sets.length + onesL (ts.take i)) (fun j hj => (LasC.in_ hj.2).2) (fun j hj => (Las.in_ hj).1)).iff fun j => (by rw [HET.out, LasC_snoc]), HSTS.out, HRWS.out, ?_, HQ12.out.other (p := ⟨w.heap.size + 1, 0, none⟩) (by simp) _⟩ : TI _ _ _ _ _ _ _ _ _ _ _ _ _ _ _ _ _ _ _ _ _ _ _ _ _)⟩
          rw [HEE.out]
          exact HO12.out.set 0 _
        case measure => simp [intOf]; omega
      case' true =>
        go_upto_region 11 with fail
        have M11 := HM9.out
        have O11 := HO9.out
        have Q11 := HQ9.out
        have P11 := HP9.out
        have N11 : ListOf (fun j => emp s = true ∧ LasC (ts.take i) sets.length j) L1 := HP2.out.iff fun j => by rw [← HQ2E.out]; simp
        have HM11 : Hid (MX w b B sv fv ss rs sets rows sv2 fv2 (ss1 ++ ss2) rs4 (sets1 ++ sets2) rows4 ⟨fa9, fn9, fc9⟩ ⟨la, ln, lc⟩ ⟨ga, gn, gc⟩ ⟨ha, hn, hc⟩ F9 L1 Lf2 Ll2 _) := M11
        have HO11 : Hid (Blk _ (w.heap.size + 1) #[.bool _, .slice fa9 fn9 fc9, .slice la ln lc] 89) := O11
        have HQ11 : Hid (Blk _ w.heap.size #[.bool false, .slice none 0 0, .slice none 0 0] 89) := Q11
        have HP11 : Hid (Blk _ p8 #[.bool _, .slice ga gn gc, .slice ha hn hc] 89) := P11
        have HN11 : Hid (ListOf (fun j => emp s = true ∧ LasC (ts.take i) sets.length j) L1) := N11
        clear M11 O11 Q11 P11 N11 d2 e0 df HM9 HO9 HQ9 HP9
        have k2 := HO11.out.c 2
        have k0 := HP11.out.c 2
        have kf := HO11.out.frozen
        simp only [List.getElem?_toArray, List.getElem?_cons_zero, List.getElem?_cons_succ] at k2 k0
        go_upto_region 12 with (refine wp_appI (by rfl) _ _ (by rfl) w.heap.size (.slice la ln lc) L1 (by rfl) HM11.out.l4.ol1 (.slice ha hn hc) Ll2 (by rfl) (HM11.out.l4.ol2.row encI_len) (by have := F200.out; omega) HM11.out.fx.size ?_; intro a7 c7 w7 o7 g7 b7; have G7 : Hid (World.grownBy _ w7 (Value.slice la ln lc).ownBlock) := g7; have M7 : Hid (MX w b B sv fv ss rs sets rows sv2 fv2 (ss1 ++ ss2) rs4 (sets1 ++ sets2) rows4 ⟨fa9, fn9, fc9⟩ ⟨a7, L1.length + Ll2.length, c7⟩ ⟨ga, gn, gc⟩ ⟨ha, hn, hc⟩ F9 (L1 ++ Ll2) Lf2 Ll2 w7) := HM11.out.appL (l' := ⟨a7, L1.length + Ll2.length, c7⟩) o7 g7 b7; have hd7 := grown_blk HM11.out.l4.ol1 HO11.out (by decide) g7; have d70 := hd7.c 0; have d72 := hd7.c 2; have df7 := hd7.frozen; have hp7 := grown_blk HM11.out.l4.ol1 HP11.out (by decide) g7; have p70 := hp7.c 0; simp only [List.getElem?_toArray, List.getElem?_cons_zero, List.getElem?_cons_succ] at d70 d72 p70; clear o7 g7 b7 hd7 hp7)
        have M12 := M7.out.other (grown_blk HM11.out.l4.ol1 HO11.out (by decide) G7.out) (by omega) 2 (.slice a7 (L1.length + Ll2.length) c7)
        have O12 := (grown_blk HM11.out.l4.ol1 HO11.out (by decide) G7.out).set 2 (.slice a7 (L1.length + Ll2.length) c7)
        have Q12 := (grown_blk HM11.out.l4.ol1 HQ11.out (by decide) G7.out).other (p := ⟨w.heap.size + 1, 2, none⟩) (by simp) (.slice a7 (L1.length + Ll2.length) c7)
        have P12 := (grown_blk HM11.out.l4.ol1 HP11.out (by decide) G7.out).other (p := ⟨w.heap.size + 1, 2, none⟩) (by show p8 ≠ w.heap.size + 1; omega) (.slice a7 (L1.length + Ll2.length) c7)
        have HM12 : Hid (MX w b B sv fv ss rs sets rows sv2 fv2 (ss1 ++ ss2) rs4 (sets1 ++ sets2) rows4 ⟨fa9, fn9, fc9⟩ ⟨a7, L1.length + Ll2.length, c7⟩ ⟨ga, gn, gc⟩ ⟨ha, hn, hc⟩ F9 (L1 ++ Ll2) Lf2 Ll2 _) := M12
        have HO12 : Hid (Blk _ (w.heap.size + 1) #[.bool _, .slice fa9 fn9 fc9, .slice a7 (L1.length + Ll2.length) c7] 89) := O12
        have HQ12 : Hid (Blk _ w.heap.size #[.bool false, .slice none 0 0, .slice none 0 0] 89) := Q12
        have HP12 : Hid (Blk _ p8 #[.bool _, .slice ga gn gc, .slice ha hn hc] 89) := P12
        clear M12 O12 Q12 P12 HM11 HO11 HQ11 HP11 M7 G7 k2 k0 kf d70 d72 df7 p70
        generalize hW : World.setCell _ _ _ = W12 at HM12 HO12 HQ12 HP12 ⊢
        clear hW
        have d0 := HO12.out.c 0
        have e0 := HP12.out.c 0
        have df := HO12.out.frozen
        simp only [List.getElem?_toArray, List.getElem?_cons_zero] at d0 e0
        go_wp2_with fail
        go_roundw
        case rel =>
          refine ⟨i + 1, _, _, _, _, _, _, _, _, _, _, by omega, by go_num, (⟨(HM12.out.other HO12.out (by omega) 0 _).end_, HF9.out, (HN11.out.append HT2.out (m := sets.length + onesL (ts.take i)) (fun j hj => (LasC.in_ hj.2).2) (fun j hj => (Las.in_ hj).1)).iff fun j => (by rw [HET.out, LasC_snoc]), HSTS.out, HRWS.out, ?_, HQ12.out.other (p := ⟨w.heap.size + 1, 0, none⟩) (by simp) _⟩ : TI _ _ _ _ _ _ _ _ _ _ _ _ _ _ _ _ _ _ _ _ _ _ _ _ _)⟩
          rw [HEE.out]
          exact HO12.out.set 0 _
        case measure => simp [intOf]; omega
end Go.Proofs.YtjjlkjfhhpogaaaDoor
