/-
  The walk of alt: the positions of an Alt's parts.
-/
import Derived.Test.YtjjlkjfhhpogaaaDoorXm
namespace Go.Proofs.YtjjlkjfhhpogaaaDoor
open Go.RowKit

/-- Between two rounds. -/
structure TI (w : World) (b B : Nat) (sv fv : Sl) (ss rs : List Sl) (sets : List (List (Int × Int))) (rows : List (List Nat)) (E : Bool) (S : List (List (Int × Int))) (Fi La : Nat → Prop) (Fo : Nat → Nat → Prop)
    (sv' fv' f1 l1 : Sl) (ss' rs' : List Sl) (sets' : List (List (Int × Int))) (rows' : List (List Nat)) (F1 L1 : List Nat) (wr : World) : Prop where
  mx : MX w b B sv fv ss rs sets rows sv' fv' ss' rs' sets' rows' f1 l1 ⟨none, 0, 0⟩ ⟨none, 0, 0⟩ F1 L1 [] [] wr
  lf : ListOf Fi F1
  ll : ListOf La L1
  sts : SetsOf S sets'
  rws : RowsOf S.length sets.length Fo rows'
  out : Blk wr (w.heap.size + 1) #[.bool E, .slice f1.a f1.n f1.c, .slice l1.a l1.n l1.c] 89
  res : Blk wr w.heap.size #[.bool false, .slice none 0 0, .slice none 0 0] 89

theorem TI.px {w : World} {b B : Nat} {sv fv : Sl} {ss rs : List Sl} {sets : List (List (Int × Int))} {rows : List (List Nat)} {E : Bool} {S : List (List (Int × Int))} {Fi La : Nat → Prop} {Fo : Nat → Nat → Prop}
    {sv' fv' f1 l1 : Sl} {ss' rs' : List Sl} {sets' : List (List (Int × Int))} {rows' : List (List Nat)} {F1 L1 : List Nat} {wr : World} (h : TI w b B sv fv ss rs sets rows E S Fi La Fo sv' fv' f1 l1 ss' rs' sets' rows' F1 L1 wr) :
    PX w b B sv fv ss rs sets rows S Fo Fi La sv' fv' f1 l1 ss' rs' sets' rows' F1 L1 (((wr.setCell ⟨w.heap.size, 0, none⟩ (.bool E)).setCell ⟨w.heap.size, 1, none⟩ (.slice f1.a f1.n f1.c)).setCell ⟨w.heap.size, 2, none⟩ (.slice l1.a l1.n l1.c)) ∧
    Blk (((wr.setCell ⟨w.heap.size, 0, none⟩ (.bool E)).setCell ⟨w.heap.size, 1, none⟩ (.slice f1.a f1.n f1.c)).setCell ⟨w.heap.size, 2, none⟩ (.slice l1.a l1.n l1.c)) w.heap.size #[.bool E, .slice f1.a f1.n f1.c, .slice l1.a l1.n l1.c] 89 :=
  ⟨(((h.mx.other h.res (Nat.le_refl _) 0 _).other (h.res.set 0 _) (Nat.le_refl _) 1 _).other ((h.res.set 0 _).set 1 _) (Nat.le_refl _) 2 _).px h.lf h.ll h.sts h.rws, told_put h.res E f1 l1⟩

theorem TI.len {w : World} {b B : Nat} {sv fv : Sl} {ss rs : List Sl} {sets : List (List (Int × Int))} {rows : List (List Nat)} {E : Bool} {S : List (List (Int × Int))} {Fi La : Nat → Prop} {Fo : Nat → Nat → Prop}
    {sv' fv' f1 l1 : Sl} {ss' rs' : List Sl} {sets' : List (List (Int × Int))} {rows' : List (List Nat)} {F1 L1 : List Nat} {wr : World} (h : TI w b B sv fv ss rs sets rows E S Fi La Fo sv' fv' f1 l1 ss' rs' sets' rows' F1 L1 wr) (hlr : sets.length = rows.length) : (sets ++ sets').length = (rows ++ rows').length := by
  rw [List.length_append, List.length_append, h.sts.1, h.rws.1, hlr]

/-- A block of another kind stays where a row of numbers grows. -/
theorem grown_blk {base : Nat} {w w5 : World} {s : Sl} {L : List Nat} (h : OwnI base w (Sl.v s) L) {p : Nat} {cs : Array Value} {t : TypeId} (hp : Blk w p cs t) (ht : t ≠ 3) (g5 : w.grownBy w5 (Sl.v s).ownBlock) : Blk w5 p cs t :=
  (g5.block p hp.lt fun e => own3 h hp ht e.symm).trans hp

/-- The memory a part is asked in. -/
theorem bel0 {w0 w wr : World} {b B : Nat} {sv fv : Sl} {ss rs : List Sl} {sets : List (List (Int × Int))} {rows : List (List Nat)} (hX : XS w b B sv fv ss rs sets rows) (hw : w0.heap.size ≤ B) (hB : B ≤ w.heap.size) (h0 : Below w0.heap.size w0 w) (hf : Fx (Mv b sv fv) w wr) : Below w0.heap.size w0 wr :=
  h0.trans (hf.below (fun g e => Nat.le_trans hw (hX.mb g e).1) (Nat.le_trans hw hB))

set_option maxRecDepth 100000 in
set_option maxHeartbeats 8000000 in
theorem alt_any (w0 w : World) (b B : Nat) (sv fv : Sl) (ss rs : List Sl) (sets : List (List (Int × Int))) (rows : List (List Nat)) (ba : Option Addr) (bc : Nat) (ts : List Tree) (xs : List PC)
    (hE : ∀ (i : Nat) s, ts[i]? = some s → CP w0 s) (hX : XS w b B sv fv ss rs sets rows) (hB : B ≤ w.heap.size) (hw : w0.heap.size ≤ B) (h0 : Below w0.heap.size w0 w) (hrow : RowT w0 (.slice ba ts.length bc) xs) (hts : HTs w0 ts xs) (hk : kindsL ts = true) (hsz : sizeL ts ≤ 200) (hg : goodL ts)
    (hlr : sets.length = rows.length) (hl : sets.length + onesL ts ≤ 200) :
    Calls Tryd.prog 77 #[.pointer (some ⟨b, 0, none⟩), .slice ba ts.length bc] w fun e w' => PostX w b B sv fv ss rs sets rows (empA ts) (setsL ts) (FolA ts sets.length) (FirA ts sets.length) (LasA ts sets.length) e w' := by
  obtain ⟨N, hN⟩ : ∃ N : Nat, N = ts.length := ⟨_, rfl⟩
  have HN : Hid (N = ts.length) := hN
  have HX : Hid (XS w b B sv fv ss rs sets rows) := hX
  have HE : Hid (∀ (i : Nat) s, ts[i]? = some s → CP w0 s) := hE
  have HB0 : Hid (B ≤ w.heap.size) := hB
  have HW0 : Hid (w0.heap.size ≤ B) := hw
  have H0 : Hid (Below w0.heap.size w0 w) := h0
  have HROW : Hid (RowT w0 (.slice ba N bc) xs) := by rw [hN]; exact hrow
  have HTS : Hid (HTs w0 ts xs) := hts
  have HK : Hid (kindsL ts = true) := hk
  have HGD : Hid (goodL ts) := hg
  have HLR : Hid (sets.length = rows.length) := hlr
  have HL : Hid (sets.length + onesL ts ≤ 200) := hl
  have HSZ : Hid (sizeL ts ≤ 200) := hsz
  have hNl : N ≤ 200 := by have := length_le_sizeL ts; omega
  have hsb : b < w.heap.size := hX.blk.lt
  rw [← hN]
  clear hX hE hB hw h0 hrow hts hk hg hlr hl hsz hN
  go_enter Tryd.func77, Tryd.ntmps77
  go_wp2_with fail
  have I0 : Hid (TI w b B sv fv ss rs sets rows (empA (ts.take 0)) (setsL (ts.take 0)) (FirA (ts.take 0) sets.length) (LasA (ts.take 0) sets.length) (FolA (ts.take 0) sets.length) sv fv ⟨none, 0, 0⟩ ⟨none, 0, 0⟩ [] [] [] [] [] [] ((w.alloc (.cells #[.bool false, .slice none 0 0, .slice none 0 0] 89)).alloc (.cells #[.bool false, .slice none 0 0, .slice none 0 0] 89))) := by
    have hb2 : Below w.heap.size w ((w.alloc (.cells #[.bool false, .slice none 0 0, .slice none 0 0] 89)).alloc (.cells #[.bool false, .slice none 0 0, .slice none 0 0] 89)) := ((Below.refl _ _).alloc (Nat.le_refl _) _).alloc (by simp) _
    rw [List.take_zero]
    refine ⟨⟨?_, Fx.bel hb2, fun g e => Or.inl e, ⟨OwnX.nil _ _ _ _ _, OwnX.nil _ _ _ _ _, OwnX.nil _ _ _ _ _, OwnX.nil _ _ _ _ _, fun k r g _ _ => ⟨own_nil g, own_nil g, own_nil g, own_nil g⟩, fun g e => absurd e (own_nil g), fun g e => absurd e (own_nil g), fun g e => absurd e (own_nil g), fun g e => absurd e (own_nil g), fun g e => absurd e (own_nil g), fun g e => absurd e (own_nil g)⟩, fun k r g hr => by simp at hr⟩,
      ListOf.nil fun i e => by rw [FirA_nil] at e; exact e, ListOf.nil fun i e => by rw [LasA_nil] at e; exact e, ⟨by simp [setsL_nil], fun k s hs => by rw [setsL_nil] at hs; simp at hs⟩, ⟨by simp [setsL_nil], fun k L hL => by simp at hL⟩, ?_, ?_⟩
    · simp only [List.append_nil]; exact HX.out.bel hb2
    · rw [empA_nil]; exact Blk.new' _ _ _ _ (by simp)
    · exact (Blk.new _ _ _).alloc _
  go_loopw [11] (fun vi wr => ∃ (i : Nat) (sv' fv' f1 l1 : Sl) (ss' rs' : List Sl) (sets' : List (List (Int × Int))) (rows' : List (List Nat)) (F1 L1 : List Nat), i ≤ N ∧ vi = .int .i64 i ∧ Hid (TI w b B sv fv ss rs sets rows (empA (ts.take i)) (setsL (ts.take i)) (FirA (ts.take i) sets.length) (LasA (ts.take i) sets.length) (FolA (ts.take i) sets.length) sv' fv' f1 l1 ss' rs' sets' rows' F1 L1 wr)) (fun vi _ => N - (intOf vi).toNat)
  case atStart => exact ⟨0, _, _, _, _, _, _, _, _, _, _, Nat.zero_le _, rfl, I0⟩
  case round =>
    clear I0
    obtain ⟨i, sv1, fv1, f1, l1, ss1, rs1, sets1, rows1, F1, L1, hi, rfl, HI⟩ := hrel
    by_cases hlt : i < N
    case neg =>
      have e : i = N := by omega
      subst e
      have he : ts.take i = ts := by rw [HN.out, List.take_length]
      rw [he] at HI
      have o0 := HI.out.out.c 0
      have o1 := HI.out.out.c 1
      have o2 := HI.out.out.c 2
      have q0 := HI.out.res.c 0
      have q1 := HI.out.res.c 1
      have q2 := HI.out.res.c 2
      have qf := HI.out.res.frozen
      obtain ⟨fa, fn, fc⟩ := f1
      obtain ⟨la, ln, lc⟩ := l1
      simp only [List.getElem?_toArray, List.getElem?_cons_zero, List.getElem?_cons_succ] at o0 o1 o2 q0 q1 q2
      go_wp2_with fail
      obtain ⟨P, T⟩ := HI.out.px
      refine bodyPost_ret (v := .agg #[.bool (empA ts), .slice fa fn fc, .slice la ln lc]) ?_ rfl ⟨_, _, ⟨fa, fn, fc⟩, ⟨la, ln, lc⟩, _, _, _, _, _, _, rfl, P⟩
      simp [results, Tryd.results77]
      exact run_told (x := ⟨fa, fn, fc⟩) (y := ⟨la, ln, lc⟩) T
    obtain ⟨s, hs⟩ : ∃ s, ts[i]? = some s := ⟨_, List.getElem?_eq_getElem (by have := HN.out; omega)⟩
    obtain ⟨x, hx, hT⟩ := HTS.out.at hs
    obtain ⟨b9, off, rfl, hb9, c0, c1, c2⟩ := HROW.out.cs3 hx
    have hbr := bel0 HX.out HW0.out HB0.out H0.out HI.out.mx.fx
    have r0 := (hbr.cell (p := ⟨b9, off + i * 3, none⟩) hb9).trans c0
    have r1 := (hbr.cell (p := ⟨b9, off + i * 3 + 1, none⟩) hb9).trans c1
    have r2 := (hbr.cell (p := ⟨b9, off + i * 3 + 2, none⟩) hb9).trans c2
    have HS : Hid (ts[i]? = some s) := hs
    have hon : onesL (ts.take i) + ones s ≤ onesL ts := by
      have h1 := onesL_append (ts.take i) (ts.drop i)
      rw [List.take_append_drop, drop_of hs, onesL_cons] at h1
      omega
    have HON : Hid (onesL (ts.take i) + ones s ≤ onesL ts) := hon
    have hl1 : sets1.length = onesL (ts.take i) := by have := HI.out.sts.1; rw [setsL_len] at this; exact this
    have HL1 : Hid (sets1.length = onesL (ts.take i)) := hl1
    obtain ⟨xk, ⟨x1, x2, x3⟩, x4, x5, x6⟩ := x
    simp only at r0 r1 r2
    have KE : Hid (Calls Tryd.prog 54 #[.pointer (some ⟨b, 0, none⟩), .agg #[.int .i64 xk, .slice x1 x2 x3, .slice x4 x5 x6]] (wr.alloc (.cells #[.int .i64 xk, .slice x1 x2 x3, .slice x4 x5 x6] 25)) fun e w' => PostX (wr.alloc (.cells #[.int .i64 xk, .slice x1 x2 x3, .slice x4 x5 x6] 25)) b B sv1 fv1 (ss ++ ss1) (rs ++ rs1) (sets ++ sets1) (rows ++ rows1) (emp s) (setsT s) (Fol s (sets ++ sets1).length) (Fir s (sets ++ sets1).length) (Las s (sets ++ sets1).length) e w') :=
      HE.out i s hs _ b B sv1 fv1 _ _ _ _ ⟨xk, ⟨x1, x2, x3⟩, x4, x5, x6⟩ (HI.out.mx.xs.bel ((Below.refl _ _).alloc (Nat.le_refl _) _)) (by have := HI.out.mx.fx.size; have := HB0.out; simp; omega) HW0.out (hbr.alloc (by have := hbr.size; omega) _) hT (kindsT_of_at HK.out hs) (Nat.le_trans (size_le_of_at hs) HSZ.out) (goodL.at HGD.out hs) (HI.out.len HLR.out) (by rw [List.length_append, hl1]; have := HL.out; omega)
    clear c0 c1 c2 hbr hs hx hT hon hl1 hb9
    go_upto_region 6 with (go_at_call 54; refine KE.out.mono ?_; rintro _ w3 ⟨sv2, fv2, ⟨ga, gn, gc⟩, ⟨ha, hn, hc⟩, ss2, rs2, sets2, rows2, Lf2, Ll2, rfl, px⟩; have P2 : Hid _ := px; clear px)
    have M2 := (HI.out.mx.bel ((Below.refl _ _).alloc (Nat.le_refl _) (.cells #[.int .i64 xk, .slice x1 x2 x3, .slice x4 x5 x6] 25))).part P2.out
    have HM2 : Hid (MX w b B sv fv ss rs sets rows sv2 fv2 (ss1 ++ ss2) (rs1 ++ rs2) (sets1 ++ sets2) (rows1 ++ rows2) f1 l1 ⟨ga, gn, gc⟩ ⟨ha, hn, hc⟩ F1 L1 Lf2 Ll2 w3) := M2
    have o3 : Blk w3 (w.heap.size + 1) _ 89 := (P2.out.fx.block _ (HI.out.out.alloc _).lt ((HI.out.mx.xs.bel ((Below.refl _ _).alloc (Nat.le_refl _) (.cells #[.int .i64 xk, .slice x1 x2 x3, .slice x4 x5 x6] 25))).notMv (HI.out.out.alloc _) (by decide) (by decide) (by decide))).trans (HI.out.out.alloc _)
    have q3 : Blk w3 w.heap.size _ 89 := (P2.out.fx.block _ (HI.out.res.alloc _).lt ((HI.out.mx.xs.bel ((Below.refl _ _).alloc (Nat.le_refl _) (.cells #[.int .i64 xk, .slice x1 x2 x3, .slice x4 x5 x6] 25))).notMv (HI.out.res.alloc _) (by decide) (by decide) (by decide))).trans (HI.out.res.alloc _)
    have HO3 : Hid (Blk (w3.alloc (.cells #[.bool (emp s), .slice ga gn gc, .slice ha hn hc] 89)) (w.heap.size + 1) #[.bool (empA (ts.take i)), .slice f1.a f1.n f1.c, .slice l1.a l1.n l1.c] 89) := Blk.alloc o3 _
    have HQ3 : Hid (Blk (w3.alloc (.cells #[.bool (emp s), .slice ga gn gc, .slice ha hn hc] 89)) w.heap.size #[.bool false, .slice none 0 0, .slice none 0 0] 89) := Blk.alloc q3 _
    have HP3 : Hid (Blk (w3.alloc (.cells #[.bool (emp s), .slice ga gn gc, .slice ha hn hc] 89)) w3.heap.size #[.bool (emp s), .slice ga gn gc, .slice ha hn hc] 89) := Blk.new _ _ _
    have HM3 : Hid (MX w b B sv fv ss rs sets rows sv2 fv2 (ss1 ++ ss2) (rs1 ++ rs2) (sets1 ++ sets2) (rows1 ++ rows2) f1 l1 ⟨ga, gn, gc⟩ ⟨ha, hn, hc⟩ F1 L1 Lf2 Ll2 (w3.alloc (.cells #[.bool (emp s), .slice ga gn gc, .slice ha hn hc] 89))) := HM2.out.bel ((Below.refl _ _).alloc (Nat.le_refl _) _)
    have hlt3 := o3.lt
    have HS3 : Hid (w.heap.size + 1 < w3.heap.size) := hlt3
    have HLF : Hid (ListOf (FirA (ts.take i) sets.length) F1 ∧ ListOf (LasA (ts.take i) sets.length) L1 ∧ SetsOf (setsL (ts.take i)) sets1 ∧ RowsOf (setsL (ts.take i)).length sets.length (FolA (ts.take i) sets.length) rows1) := ⟨HI.out.lf, HI.out.ll, HI.out.sts, HI.out.rws⟩
    have HL2 : Hid (ListOf (Fir s (sets ++ sets1).length) Lf2 ∧ ListOf (Las s (sets ++ sets1).length) Ll2 ∧ SetsOf (setsT s) sets2 ∧ RowsOf (setsT s).length (sets ++ sets1).length (Fol s (sets ++ sets1).length) rows2) := ⟨P2.out.lf, P2.out.ll, P2.out.sts, P2.out.rws⟩
    clear o3 q3 M2 HM2 HI KE P2 r0 r1 r2 hlt3
    generalize hW3 : w3.alloc _ = W3 at HO3 HQ3 HP3 HM3 ⊢
    clear hW3
    generalize w3.heap.size = p8 at HP3 HS3 ⊢
    clear w3
    have F200 : Hid (F1.length ≤ 200 ∧ L1.length ≤ 200 ∧ Lf2.length ≤ 200 ∧ Ll2.length ≤ 200) := by
      have h1 := HON.out
      have h2 := HL.out
      have h3 := HL1.out
      refine ⟨rises_len HLF.out.1.1 fun j hj => ?_, rises_len HLF.out.2.1.1 fun j hj => ?_, rises_len HL2.out.1.1 fun j hj => ?_, rises_len HL2.out.2.1.1 fun j hj => ?_⟩
      · have := FirA.in_ ((HLF.out.1.2 j).1 hj); omega
      · have := LasA.in_ ((HLF.out.2.1.2 j).1 hj); omega
      · have := Fir.in_ ((HL2.out.1.2 j).1 hj); rw [List.length_append] at this; omega
      · have := Las.in_ ((HL2.out.2.1.2 j).1 hj); rw [List.length_append] at this; omega
    obtain ⟨fa, fn, fc⟩ := f1
    obtain ⟨la, ln, lc⟩ := l1
    have n15 : w.heap.size + 1 ≠ p8 := by have := HS3.out; omega
    have d1 := HO3.out.c 1
    have e1 := HP3.out.c 1
    have df := HO3.out.frozen
    simp only [List.getElem?_toArray, List.getElem?_cons_zero, List.getElem?_cons_succ] at d1 e1
    go_upto_region 7 with (refine wp_appI (by rfl) _ _ (by rfl) w.heap.size (.slice fa fn fc) F1 (by rfl) HM3.out.l4.of1 (.slice ga gn gc) Lf2 (by rfl) (HM3.out.l4.of2.row encI_len) (by have := F200.out; omega) HM3.out.fx.size ?_; intro a5 c5 w5 o5 g5 b5; have G5 : Hid (W3.grownBy w5 (Value.slice fa fn fc).ownBlock) := g5; have M5 : Hid (MX w b B sv fv ss rs sets rows sv2 fv2 (ss1 ++ ss2) (rs1 ++ rs2) (sets1 ++ sets2) (rows1 ++ rows2) ⟨a5, F1.length + Lf2.length, c5⟩ ⟨la, ln, lc⟩ ⟨ga, gn, gc⟩ ⟨ha, hn, hc⟩ (F1 ++ Lf2) L1 Lf2 Ll2 w5) := HM3.out.appF (f' := ⟨a5, F1.length + Lf2.length, c5⟩) o5 g5 b5; have hd5 := grown_blk HM3.out.l4.of1 HO3.out (by decide) g5; have d51 := hd5.c 1; have df5 := hd5.frozen 1; simp only [List.getElem?_toArray, List.getElem?_cons_zero, List.getElem?_cons_succ] at d51; clear o5 g5 b5 hd5)
    have HO6 : Hid (Blk (w5.setCell ⟨w.heap.size + 1, 1, none⟩ (.slice a5 (F1.length + Lf2.length) c5)) (w.heap.size + 1) #[.bool (empA (ts.take i)), .slice a5 (F1.length + Lf2.length) c5, .slice la ln lc] 89) := (grown_blk HM3.out.l4.of1 HO3.out (by decide) G5.out).set 1 _
    have HQ6 : Hid (Blk (w5.setCell ⟨w.heap.size + 1, 1, none⟩ (.slice a5 (F1.length + Lf2.length) c5)) w.heap.size #[.bool false, .slice none 0 0, .slice none 0 0] 89) := (grown_blk HM3.out.l4.of1 HQ3.out (by decide) G5.out).other (p := ⟨w.heap.size + 1, 1, none⟩) (by simp) _
    have HP6 : Hid (Blk (w5.setCell ⟨w.heap.size + 1, 1, none⟩ (.slice a5 (F1.length + Lf2.length) c5)) p8 #[.bool (emp s), .slice ga gn gc, .slice ha hn hc] 89) := (grown_blk HM3.out.l4.of1 HP3.out (by decide) G5.out).other (p := ⟨w.heap.size + 1, 1, none⟩) (by show p8 ≠ w.heap.size + 1; omega) _
    have HM6 : Hid (MX w b B sv fv ss rs sets rows sv2 fv2 (ss1 ++ ss2) (rs1 ++ rs2) (sets1 ++ sets2) (rows1 ++ rows2) ⟨a5, F1.length + Lf2.length, c5⟩ ⟨la, ln, lc⟩ ⟨ga, gn, gc⟩ ⟨ha, hn, hc⟩ (F1 ++ Lf2) L1 Lf2 Ll2 (w5.setCell ⟨w.heap.size + 1, 1, none⟩ (.slice a5 (F1.length + Lf2.length) c5))) := M5.out.other (grown_blk HM3.out.l4.of1 HO3.out (by decide) G5.out) (by omega) 1 _
    clear HO3 HQ3 HP3 HM3 M5 d1 e1 df d51 df5 G5
    generalize hW6 : World.setCell _ _ _ = W6 at HO6 HQ6 HP6 HM6 ⊢
    clear hW6 w5
    have d2 := HO6.out.c 2
    have e2 := HP6.out.c 2
    have df := HO6.out.frozen
    simp only [List.getElem?_toArray, List.getElem?_cons_zero, List.getElem?_cons_succ] at d2 e2
    go_upto_region 8 with (refine wp_appI (by rfl) _ _ (by rfl) w.heap.size (.slice la ln lc) L1 (by rfl) HM6.out.l4.ol1 (.slice ha hn hc) Ll2 (by rfl) (HM6.out.l4.ol2.row encI_len) (by have := F200.out; omega) HM6.out.fx.size ?_; intro a7 c7 w7 o7 g7 b7; have G7 : Hid (W6.grownBy w7 (Value.slice la ln lc).ownBlock) := g7; have M7 : Hid (MX w b B sv fv ss rs sets rows sv2 fv2 (ss1 ++ ss2) (rs1 ++ rs2) (sets1 ++ sets2) (rows1 ++ rows2) ⟨a5, F1.length + Lf2.length, c5⟩ ⟨a7, L1.length + Ll2.length, c7⟩ ⟨ga, gn, gc⟩ ⟨ha, hn, hc⟩ (F1 ++ Lf2) (L1 ++ Ll2) Lf2 Ll2 w7) := HM6.out.appL (l' := ⟨a7, L1.length + Ll2.length, c7⟩) o7 g7 b7; have hd7 := grown_blk HM6.out.l4.ol1 HO6.out (by decide) g7; have d72 := hd7.c 2; have df7 := hd7.frozen 2; simp only [List.getElem?_toArray, List.getElem?_cons_zero, List.getElem?_cons_succ] at d72; clear o7 g7 b7 hd7)
    have HO8 : Hid (Blk (w7.setCell ⟨w.heap.size + 1, 2, none⟩ (.slice a7 (L1.length + Ll2.length) c7)) (w.heap.size + 1) #[.bool (empA (ts.take i)), .slice a5 (F1.length + Lf2.length) c5, .slice a7 (L1.length + Ll2.length) c7] 89) := (grown_blk HM6.out.l4.ol1 HO6.out (by decide) G7.out).set 2 _
    have HQ8 : Hid (Blk (w7.setCell ⟨w.heap.size + 1, 2, none⟩ (.slice a7 (L1.length + Ll2.length) c7)) w.heap.size #[.bool false, .slice none 0 0, .slice none 0 0] 89) := (grown_blk HM6.out.l4.ol1 HQ6.out (by decide) G7.out).other (p := ⟨w.heap.size + 1, 2, none⟩) (by simp) _
    have HP8 : Hid (Blk (w7.setCell ⟨w.heap.size + 1, 2, none⟩ (.slice a7 (L1.length + Ll2.length) c7)) p8 #[.bool (emp s), .slice ga gn gc, .slice ha hn hc] 89) := (grown_blk HM6.out.l4.ol1 HP6.out (by decide) G7.out).other (p := ⟨w.heap.size + 1, 2, none⟩) (by show p8 ≠ w.heap.size + 1; omega) _
    have HM8 : Hid (MX w b B sv fv ss rs sets rows sv2 fv2 (ss1 ++ ss2) (rs1 ++ rs2) (sets1 ++ sets2) (rows1 ++ rows2) ⟨a5, F1.length + Lf2.length, c5⟩ ⟨a7, L1.length + Ll2.length, c7⟩ ⟨ga, gn, gc⟩ ⟨ha, hn, hc⟩ (F1 ++ Lf2) (L1 ++ Ll2) Lf2 Ll2 (w7.setCell ⟨w.heap.size + 1, 2, none⟩ (.slice a7 (L1.length + Ll2.length) c7))) := M7.out.other (grown_blk HM6.out.l4.ol1 HO6.out (by decide) G7.out) (by omega) 2 _
    clear HO6 HQ6 HP6 HM6 M7 d2 e2 df d72 df7 G7
    generalize hW8 : World.setCell _ _ _ = W8 at HO8 HQ8 HP8 HM8 ⊢
    clear hW8 w7 W6
    have HEE : Hid (empA (ts.take (i + 1)) = (empA (ts.take i) || emp s)) := by show _ = _; rw [take_succ_of HS.out, empA_append, empA_cons, empA_nil, Bool.or_false]
    have HNEXT : Hid (∀ W e, MX w b B sv fv ss rs sets rows sv2 fv2 (ss1 ++ ss2) (rs1 ++ rs2) (sets1 ++ sets2) (rows1 ++ rows2) ⟨a5, F1.length + Lf2.length, c5⟩ ⟨a7, L1.length + Ll2.length, c7⟩ ⟨ga, gn, gc⟩ ⟨ha, hn, hc⟩ (F1 ++ Lf2) (L1 ++ Ll2) Lf2 Ll2 W → Blk W (w.heap.size + 1) #[.bool e, .slice a5 (F1.length + Lf2.length) c5, .slice a7 (L1.length + Ll2.length) c7] 89 → Blk W w.heap.size #[.bool false, .slice none 0 0, .slice none 0 0] 89 → e = empA (ts.take (i + 1)) →
        TI w b B sv fv ss rs sets rows (empA (ts.take (i + 1))) (setsL (ts.take (i + 1))) (FirA (ts.take (i + 1)) sets.length) (LasA (ts.take (i + 1)) sets.length) (FolA (ts.take (i + 1)) sets.length) sv2 fv2 ⟨a5, F1.length + Lf2.length, c5⟩ ⟨a7, L1.length + Ll2.length, c7⟩ (ss1 ++ ss2) (rs1 ++ rs2) (sets1 ++ sets2) (rows1 ++ rows2) (F1 ++ Lf2) (L1 ++ Ll2) W) := fun W e hm ho hq he => by
      subst he
      have hlen : (sets ++ sets1).length = sets.length + onesL (ts.take i) := by rw [List.length_append, HL1.out]
      have hl2 := HL2.out
      rw [hlen] at hl2
      obtain ⟨p1, p2, p3, p4⟩ := HLF.out
      obtain ⟨r1, r2, r3, r4⟩ := hl2
      rw [setsL_len] at p4
      rw [setsT_len] at r4
      have et := take_succ_of HS.out
      refine ⟨hm.end_, ?_, ?_, ?_, ?_, ho, hq⟩
      · exact (p1.append r1 (m := sets.length + onesL (ts.take i)) (fun j hj => (FirA.in_ hj).2) (fun j hj => (Fir.in_ hj).1)).iff fun j => by rw [et, FirA_snoc]
      · exact (p2.append r2 (m := sets.length + onesL (ts.take i)) (fun j hj => (LasA.in_ hj).2) (fun j hj => (Las.in_ hj).1)).iff fun j => by rw [et, LasA_snoc]
      · rw [et, setsL_append, setsL_cons, setsL_nil, List.append_nil]
        exact p3.append r3
      · have := p4.append r4
        rw [setsL_len, et, onesL_append, onesL_cons, onesL_nil, Nat.add_zero]
        refine this.iff fun a j ha hb => ?_
        rw [FolA_snoc]
        constructor
        · rintro (⟨_, h⟩ | ⟨_, h⟩)
          · exact Or.inl h
          · exact Or.inr h
        · rintro (h | h)
          · exact Or.inl ⟨(FolA.in_ h).1.2, h⟩
          · exact Or.inr ⟨(Fol.in_ h).1.1, h⟩
    clear HL2 HLF
    generalize emp s = q2 at *
    generalize empA (ts.take i) = q1 at *
    have d0 := HO8.out.c 0
    have e0 := HP8.out.c 0
    have df := HO8.out.frozen
    simp only [List.getElem?_toArray, List.getElem?_cons_zero] at d0 e0
    cases q1 <;> cases q2
    all_goals
      go_wp2_with fail
      go_roundw
      case rel => exact ⟨i + 1, _, _, _, _, _, _, _, _, _, _, by omega, by go_num, HNEXT.out _ _ (HM8.out.other HO8.out (by omega) 0 _) (HO8.out.set 0 _) (HQ8.out.other (p := ⟨w.heap.size + 1, 0, none⟩) (by simp) _) HEE.out.symm⟩
      case measure => simp [intOf]; omega
end Go.Proofs.YtjjlkjfhhpogaaaDoor
