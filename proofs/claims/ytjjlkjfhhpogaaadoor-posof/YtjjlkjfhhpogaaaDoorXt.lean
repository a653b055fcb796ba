/-
  The walks of star and of part: the positions of any right pattern.
-/
import Derived.Test.YtjjlkjfhhpogaaaDoorXc
namespace Go.Proofs.YtjjlkjfhhpogaaaDoor
open Go.RowKit

section
variable {w w1 w' : World} {b B : Nat} {sv fv : Sl} {ss rs : List Sl} {sets : List (List (Int × Int))} {rows : List (List Nat)} {sv' fv' : Sl} {ss' rs' : List Sl} {sets' : List (List (Int × Int))} {rows' : List (List Nat)} {f1 l1 f2 l2 : Sl} {F1 L1 F2 L2 : List Nat}

/-- From an elder world on. -/
theorem MX.lower (hb : Below w.heap.size w w1) (h : MX w1 b B sv fv ss rs sets rows sv' fv' ss' rs' sets' rows' f1 l1 f2 l2 F1 L1 F2 L2 w') : MX w b B sv fv ss rs sets rows sv' fv' ss' rs' sets' rows' f1 l1 f2 l2 F1 L1 F2 L2 w' := by
  have hs := hb.size
  refine ⟨h.xs, (Fx.bel (M := fun _ => False) hb).mono (fun _ e => e.elim) |>.trans h.fx fun _ _ e => e, fun g e => (h.mv g e).imp id fun e => by omega, ⟨h.l4.of1.lower hs, h.l4.ol1.lower hs, h.l4.of2.lower hs, h.l4.ol2.lower hs, h.l4.rows, h.l4.f1l1, h.l4.f1f2, h.l4.f1l2, h.l4.l1f2, h.l4.l1l2, h.l4.f2l2⟩, fun k r g h1 h2 => by have := h.new k r g h1 h2; omega⟩

/-- What a callee tells, handed on through the result's block. -/
theorem PX.fin {S : List (List (Int × Int))} {F : Nat → Nat → Prop} {Fi La : Nat → Prop} {fi la : Sl} {Lf Ll : List Nat} (h0 : XS w b B sv fv ss rs sets rows) (hb : Below w.heap.size w w1) (h : PX w1 b B sv fv ss rs sets rows S F Fi La sv' fv' fi la ss' rs' sets' rows' Lf Ll w')
    {p : Nat} {a0 a1 a2 : Value} (hp : Blk w' p #[a0, a1, a2] 89) (hn : w.heap.size ≤ p) (E : Bool) :
    PX w b B sv fv ss rs sets rows S F Fi La sv' fv' fi la ss' rs' sets' rows' Lf Ll (((w'.setCell ⟨p, 0, none⟩ (.bool E)).setCell ⟨p, 1, none⟩ (.slice fi.a fi.n fi.c)).setCell ⟨p, 2, none⟩ (.slice la.a la.n la.c)) ∧
    Blk (((w'.setCell ⟨p, 0, none⟩ (.bool E)).setCell ⟨p, 1, none⟩ (.slice fi.a fi.n fi.c)).setCell ⟨p, 2, none⟩ (.slice la.a la.n la.c)) p #[.bool E, .slice fi.a fi.n fi.c, .slice la.a la.n la.c] 89 :=
  ⟨((((h.mx (h0.bel hb)).lower hb).other hp hn 0 _).other (hp.set 0 _) hn 1 _ |>.other ((hp.set 0 _).set 1 _) hn 2 _).px h.lf h.ll h.sts h.rws, told_put hp E fi la⟩

theorem PX.blk {S : List (List (Int × Int))} {F : Nat → Nat → Prop} {Fi La : Nat → Prop} {fi la : Sl} {Lf Ll : List Nat} (h0 : XS w b B sv fv ss rs sets rows) (h : PX w b B sv fv ss rs sets rows S F Fi La sv' fv' fi la ss' rs' sets' rows' Lf Ll w') {p : Nat} {cs : Array Value} {t : TypeId} (hp : Blk w p cs t) (h1 : t ≠ 53) (h2 : t ≠ 22) (h3 : t ≠ 50) : Blk w' p cs t :=
  (h.fx.block p hp.lt (h0.notMv hp h1 h2 h3)).trans hp
end

set_option maxRecDepth 100000 in
set_option maxHeartbeats 8000000 in
theorem star_any (w0 w : World) (b B : Nat) (sv fv : Sl) (ss rs : List Sl) (sets : List (List (Int × Int))) (rows : List (List Nat)) (t : Tree) (x : PC) (hE : CP w0 t)
    (hX : XS w b B sv fv ss rs sets rows) (hB : B ≤ w.heap.size) (hw : w0.heap.size ≤ B) (h0 : Below w0.heap.size w0 w) (hT : HT w0 t x) (hk : kindsT t = true) (hsz : size t ≤ 200) (hg : goodT t) (hlr : sets.length = rows.length) (hl : sets.length + ones t ≤ 200) :
    Calls Tryd.prog 78 #[.pointer (some ⟨b, 0, none⟩), x.v] w fun e w' => PostX w b B sv fv ss rs sets rows true (setsT t) (fun i j => Fol t sets.length i j ∨ (Las t sets.length i ∧ Fir t sets.length j)) (Fir t sets.length) (Las t sets.length) e w' := by
  obtain ⟨xk, ⟨x1, x2, x3⟩, x4, x5, x6⟩ := x
  have hb2 : Below w.heap.size w ((w.alloc (.cells #[.int .i64 xk, .slice x1 x2 x3, .slice x4 x5 x6] 25)).alloc (.cells #[.bool false, .slice none 0 0, .slice none 0 0] 89)) := ((Below.refl _ _).alloc (Nat.le_refl _) _).alloc (by simp) _
  have KE := hE _ b B sv fv ss rs sets rows ⟨xk, ⟨x1, x2, x3⟩, x4, x5, x6⟩ (hX.bel hb2) (by simp; omega) hw (h0.trans (hb2.mono (Nat.le_trans hw hB))) hT hk hsz hg hlr hl
  have HX : Hid (XS w b B sv fv ss rs sets rows) := hX
  have HB2 : Hid (Below w.heap.size w ((w.alloc (.cells #[.int .i64 xk, .slice x1 x2 x3, .slice x4 x5 x6] 25)).alloc (.cells #[.bool false, .slice none 0 0, .slice none 0 0] 89))) := hb2
  have HR : Hid (Blk ((w.alloc (.cells #[.int .i64 xk, .slice x1 x2 x3, .slice x4 x5 x6] 25)).alloc (.cells #[.bool false, .slice none 0 0, .slice none 0 0] 89)) (w.heap.size + 1) #[.bool false, .slice none 0 0, .slice none 0 0] 89) := Blk.new' _ _ _ _ (by simp)
  have HLR : Hid (sets.length = rows.length) := hlr
  have HL : Hid (sets.length + ones t ≤ 200) := hl
  have HBW : Hid (B ≤ w.heap.size) := hB
  clear hX hB hw h0 hT hk hsz hg hlr hl hb2 hE
  go_enter Tryd.func78, Tryd.ntmps78
  go_upto_region 2 with (go_at_call 54; refine KE.mono ?_; rintro _ w3 ⟨sv1, fv1, ⟨fa, fn, fc⟩, ⟨la, ln, lc⟩, ss1, rs1, sets1, rows1, Lf, Ll, rfl, px⟩; have P1 : Hid _ := px; clear px)
  have X1 := HX.out.bel HB2.out
  have hr3 := P1.out.blk X1 HR.out (by decide) (by decide) (by decide)
  have hlt3 := hr3.lt
  have M3 := (((P1.out.mx X1).lower HB2.out).bel ((Below.refl _ _).alloc (Nat.le_refl _) (.cells #[.bool (emp t), .slice fa fn fc, .slice la ln lc] 89)))
  have HO3 : Hid (Blk (w3.alloc (.cells #[.bool (emp t), .slice fa fn fc, .slice la ln lc] 89)) w3.heap.size #[.bool (emp t), .slice fa fn fc, .slice la ln lc] 89) := Blk.new _ _ _
  have HR3 : Hid (Blk (w3.alloc (.cells #[.bool (emp t), .slice fa fn fc, .slice la ln lc] 89)) (w.heap.size + 1) #[.bool false, .slice none 0 0, .slice none 0 0] 89) := Blk.alloc hr3 _
  have HM3 : Hid (MX w b B sv fv ss rs sets rows sv1 fv1 ss1 rs1 sets1 rows1 ⟨fa, fn, fc⟩ ⟨la, ln, lc⟩ ⟨none, 0, 0⟩ ⟨none, 0, 0⟩ Lf Ll [] [] (w3.alloc (.cells #[.bool (emp t), .slice fa fn fc, .slice la ln lc] 89))) := M3
  have HS3 : Hid (w.heap.size + 1 < w3.heap.size) := hlt3
  have HLf : Hid (ListOf (Fir t sets.length) Lf) := P1.out.lf
  have HLl : Hid (ListOf (Las t sets.length) Ll) := P1.out.ll
  have HST : Hid (SetsOf (setsT t) sets1) := P1.out.sts
  have HRW : Hid (RowsOf (setsT t).length sets.length (Fol t sets.length) rows1) := P1.out.rws
  clear P1 X1 hr3 hlt3 M3 KE HR HB2
  generalize hW3 : w3.alloc _ = W3 at HO3 HR3 HM3 ⊢
  clear hW3
  generalize w3.heap.size = p8 at HO3 HS3 ⊢
  clear w3
  have n58 : p8 ≠ w.heap.size + 1 := by have := HS3.out; omega
  have inl : ∀ a ∈ Ll, sets.length ≤ a ∧ a < sets.length + ones t := fun a ha => Las.in_ ((HLl.out.2 a).1 ha)
  have inf : ∀ a ∈ Lf, a < 200 := fun a ha => by have := (Fir.in_ ((HLf.out.2 a).1 ha)).2; have := HL.out; omega
  have KJ := join_any W3 b B sv1 fv1 _ _ _ _ (.slice la ln lc) (.slice fa fn fc) Ll Lf HM3.out.xs (by have := HM3.out.fx.size; have := HBW.out; omega) (HM3.out.l4.ol1.lower (Nat.zero_le _)) (HM3.out.l4.of1.lower (Nat.zero_le _)) (fun k r g h1 h2 => ⟨fun e => (HM3.out.l4.rows k r g h1 h2).2.1 e, fun e => (HM3.out.l4.rows k r g h1 h2).1 e⟩)
    (fun a ha => by
      have h1 := inl a ha
      have h2 := HRW.out.1
      rw [setsT_len] at h2
      rw [List.length_append, h2, ← HLR.out]
      omega) inf (by have := rises_len HLl.out.1 (fun a ha => by have := (inl a ha).2; have := HL.out; show a < 200; omega); omega) (by have := rises_len HLf.out.1 inf; omega)
  have HIN : Hid (∀ a ∈ Ll, sets.length ≤ a ∧ a < sets.length + ones t) := inl
  clear inl inf
  have d1 := HO3.out.c 1
  have d2 := HO3.out.c 2
  simp only [List.getElem?_toArray, List.getElem?_cons_zero, List.getElem?_cons_succ] at d1 d2
  go_upto_region 3 with (go_at_call 91; refine KJ.mono ?_; rintro _ w4 ⟨⟨v4, rfl⟩, rs3, rows3, ji⟩; have J4 : Hid _ := ji; clear ji)
  obtain ⟨rs4, rows4, M4, hrl4, hrow4⟩ := HM3.out.join J4.out (fun a ha => by have := HIN.out a ha; have := HLR.out; omega) (by have := HX.out.rl; have := HLR.out; omega)
  have HO4 : Hid (Blk w4 p8 #[.bool (emp t), .slice fa fn fc, .slice la ln lc] 89) := J4.out.blk HM3.out.xs HO3.out (by decide) (by decide)
  have HR4 : Hid (Blk w4 (w.heap.size + 1) #[.bool false, .slice none 0 0, .slice none 0 0] 89) := J4.out.blk HM3.out.xs HR3.out (by decide) (by decide)
  have HM4 : Hid _ := M4
  have HRW4 : Hid (RowsOf (setsT t).length sets.length (fun i j => Fol t sets.length i j ∨ (Las t sets.length i ∧ Fir t sets.length j)) rows4) := by
    refine ⟨hrl4.trans HRW.out.1, fun k L hL j => ?_⟩
    obtain ⟨L0, hL0⟩ : ∃ L0, rows1[k]? = some L0 := ⟨_, List.getElem?_eq_getElem (by have := (List.getElem?_eq_some_iff.1 hL).1; omega)⟩
    obtain ⟨L', h1, h2⟩ := hrow4 k L0 hL0
    rw [hL] at h1
    injection h1 with h1
    subst h1
    rw [h2 j, HRW.out.2 k L0 hL0 j, ← HLR.out, HLl.out.2, HLf.out.2]
  clear HO3 HR3 HM3 KJ J4 M4 hrl4 hrow4 d1 d2 HRW
  have o0 := HO4.out.c 0
  have o1 := HO4.out.c 1
  have o2 := HO4.out.c 2
  have of4 := HO4.out.frozen
  have q0 := HR4.out.c 0
  have q1 := HR4.out.c 1
  have q2 := HR4.out.c 2
  have qf := HR4.out.frozen
  simp only [List.getElem?_toArray, List.getElem?_cons_zero, List.getElem?_cons_succ] at o0 o1 o2 q0 q1 q2
  go_wp2_with fail
  have M5 := HM4.out.other HO4.out (by have := HS3.out; omega) 0 (.bool true)
  have R5 := HR4.out.other (p := ⟨p8, 0, none⟩) (fun e => n58 e.symm) (.bool true)
  have M8 := ((M5.other R5 (by omega) 0 (.bool true)).other (R5.set 0 _) (by omega) 1 (.slice fa fn fc)).other ((R5.set 0 _).set 1 _) (by omega) 2 (.slice la ln lc)
  have T := told_put R5 true ⟨fa, fn, fc⟩ ⟨la, ln, lc⟩
  refine bodyPost_ret (v := .agg #[.bool true, .slice fa fn fc, .slice la ln lc]) ?_ rfl ⟨_, _, ⟨fa, fn, fc⟩, ⟨la, ln, lc⟩, _, _, _, _, _, _, rfl, M8.px HLf.out HLl.out HST.out HRW4.out⟩
  simp [results, Tryd.results78]
  exact run_told (x := ⟨fa, fn, fc⟩) (y := ⟨la, ln, lc⟩) T

end Go.Proofs.YtjjlkjfhhpogaaaDoor
