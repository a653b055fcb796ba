/-
  The walk of Of: a pattern by its positions, held.
-/
import Derived.Test.YtjjlkjfhhpogaaaDoorXq
namespace Go.Proofs.YtjjlkjfhhpogaaaDoor
open Go.RowKit

/-- A value of positions. -/
def PVal (sv fv fi la : Sl) (E : Bool) : Value := .agg #[.slice sv.a sv.n sv.c, .bool E, .slice fi.a fi.n fi.c, .slice la.a la.n la.c, .slice fv.a fv.n fv.c]

/-- Positions in memory, to be read. -/
structure HP (w : World) (sv fv fi la : Sl) (ss rs : List Sl) (sets : List (List (Int × Int))) (rows : List (List Nat)) (Lf Ll : List Nat) : Prop where
  so : RowX encSl 1 w (.slice sv.a sv.n sv.c) ss
  fo : RowX encSl 1 w (.slice fv.a fv.n fv.c) rs
  sl : ss.length = sets.length
  rl : rs.length = rows.length
  se : ∀ (i : Nat) s m, ss[i]? = some s → sets[i]? = some m → RowS w (.slice s.a s.n s.c) m
  re : ∀ (i : Nat) r L, rs[i]? = some r → rows[i]? = some L → RowI w (.slice r.a r.n r.c) L
  hf : RowI w (.slice fi.a fi.n fi.c) Lf
  hl : RowI w (.slice la.a la.n la.c) Ll

/-- They are those of a pattern. -/
structure IsPos (t : Tree) (sets : List (List (Int × Int))) (rows : List (List Nat)) (Lf Ll : List Nat) : Prop where
  sts : SetsOf (setsT t) sets
  rws : RowsOf (setsT t).length 0 (Fol t 0) rows
  lf : ListOf (Fir t 0) Lf
  ll : ListOf (Las t 0) Ll
  ok : ∀ (i : Nat) L, rows[i]? = some L → Rises L ∧ ∀ j ∈ L, j < 200

section
variable {w w' : World} {sv fv fi la : Sl} {ss rs : List Sl} {sets : List (List (Int × Int))} {rows : List (List Nat)} {Lf Ll : List Nat}
theorem HP.bel (h : HP w sv fv fi la ss rs sets rows Lf Ll) (k : Below w.heap.size w w') : HP w' sv fv fi la ss rs sets rows Lf Ll :=
  ⟨h.so.bel k, h.fo.bel k, h.sl, h.rl, fun i s m h1 h2 => (h.se i s m h1 h2).bel k, fun i s m h1 h2 => (h.re i s m h1 h2).bel k, h.hf.bel k, h.hl.bel k⟩
theorem HP.gr (h : HP w sv fv fi la ss rs sets rows Lf Ll) (k : Gr w w') : HP w' sv fv fi la ss rs sets rows Lf Ll := h.bel k.below
theorem HP.out (h : HP w sv fv fi la ss rs sets rows Lf Ll) : HP w sv fv fi la ss rs sets rows Lf Ll := h
end

/-- What Of comes to. -/
def PostOf (t : Tree) (w : World) (e : Ending) (w' : World) : Prop :=
  Below w.heap.size w w' ∧ ((rightT t = false ∧ e = .returned (.tuple #[PVal ⟨none, 0, 0⟩ ⟨none, 0, 0⟩ ⟨none, 0, 0⟩ ⟨none, 0, 0⟩ false, .int .i64 4])) ∨
    (rightT t = true ∧ ∃ (sv fv fi la : Sl) (ss rs : List Sl) (sets : List (List (Int × Int))) (rows : List (List Nat)) (Lf Ll : List Nat),
      e = .returned (.tuple #[PVal sv fv fi la (emp t), .int .i64 0]) ∧ HP w' sv fv fi la ss rs sets rows Lf Ll ∧ IsPos t sets rows Lf Ll))

theorem ones_le : ∀ (n : Nat) (t : Tree), size t ≤ n → ones t ≤ size t
  | 0, t, h => by have := size_pos t; omega
  | n + 1, .mk k set subs, h => by
    rw [size_mk] at h
    have key : ∀ (l : List Tree), sizeL l ≤ n → onesL l ≤ sizeL l := by
      intro l
      induction l with
      | nil => intro _; rw [onesL_nil]; exact Nat.zero_le _
      | cons t l ih =>
        intro h
        rw [sizeL_cons] at h
        rw [onesL_cons, sizeL_cons]
        have := ones_le n t (by omega)
        have := ih (by omega)
        omega
    rw [ones_mk, size_mk]
    split
    · omega
    · have := key subs (by omega)
      omega

theorem run_pos {w : World} {b : Nat} {e : Bool} {x y z u : Sl} (h : Blk w b #[.slice x.a x.n x.c, .bool e, .slice y.a y.n y.c, .slice z.a z.n z.c, .slice u.a u.n u.c] 53) : (loadVar 53 ⟨b, 0, none⟩).run Tryd.prog w = .ok (PVal x u y z e) w := run_loadVar_row w b 53 53 _ (0, 0) _ h Tryd.underlying53 rfl (by kernel_rfl)

/-- What was put together, behind stores into blocks of the positions' own type. -/
theorem HP.of {w w' : World} {b B : Nat} {sv fv fi la : Sl} {ss rs : List Sl} {sets : List (List (Int × Int))} {rows : List (List Nat)} {Lf Ll : List Nat} {base : Nat} (h : XS w b B sv fv ss rs sets rows) (hf : OwnI base w (.slice fi.a fi.n fi.c) Lf) (hl : OwnI base w (.slice la.a la.n la.c) Ll)
    {M : Nat → Prop} (k : Fx M w w') (hM : ∀ g, M g → ∃ cs t, Blk w g cs t ∧ (t = 53 ∨ t = 89)) : HP w' sv fv fi la ss rs sets rows Lf Ll := by
  have ne : ∀ g cs t, Blk w g cs t → t ≠ 53 → t ≠ 89 → ¬ M g := fun g cs t hb h1 h2 e => by
    obtain ⟨cs', t', hc, rfl | rfl⟩ := hM g e
    · exact h1 (hc.same hb).2.symm
    · exact h2 (hc.same hb).2.symm
  refine ⟨(h.so.fx k fun g hg => ?_).row encSl_len, (h.fo.fx k fun g hg => ?_).row encSl_len, h.sl, h.rl, fun i s m h1 h2 => ((h.se i s m h1 h2).fx k fun g hg => ?_).row encS_len, fun i s m h1 h2 => ((h.re i s m h1 h2).fx k fun g hg => ?_).row encI_len, (hf.fx k fun g hg => ?_).row encI_len, (hl.fx k fun g hg => ?_).row encI_len⟩
  · obtain ⟨cs, hb⟩ := h.so.blk hg; exact ne _ _ _ hb (by decide) (by decide)
  · obtain ⟨cs, hb⟩ := h.fo.blk hg; exact ne _ _ _ hb (by decide) (by decide)
  · obtain ⟨cs, hb⟩ := (h.se i s m h1 h2).blk hg; exact ne _ _ _ hb (by decide) (by decide)
  · obtain ⟨cs, hb⟩ := (h.re i s m h1 h2).blk hg; exact ne _ _ _ hb (by decide) (by decide)
  · obtain ⟨cs, hb⟩ := hf.blk hg; exact ne _ _ _ hb (by decide) (by decide)
  · obtain ⟨cs, hb⟩ := hl.blk hg; exact ne _ _ _ hb (by decide) (by decide)

theorem pos_put {w : World} {p : Nat} {a b c d e : Value} (h : Blk w p #[a, b, c, d, e] 53) (x u y z : Sl) (E : Bool) : Blk (((((w.setCell ⟨p, 0, none⟩ (.slice x.a x.n x.c)).setCell ⟨p, 1, none⟩ (.bool E)).setCell ⟨p, 2, none⟩ (.slice y.a y.n y.c)).setCell ⟨p, 3, none⟩ (.slice z.a z.n z.c)).setCell ⟨p, 4, none⟩ (.slice u.a u.n u.c)) p #[.slice x.a x.n x.c, .bool E, .slice y.a y.n y.c, .slice z.a z.n z.c, .slice u.a u.n u.c] 53 := by
  have h1 := ((((h.set 0 (.slice x.a x.n x.c)).set 1 (.bool E)).set 2 (.slice y.a y.n y.c)).set 3 (.slice z.a z.n z.c)).set 4 (.slice u.a u.n u.c)
  simpa using h1
theorem below_put {w w2 : World} {p : Nat} (h : Below w.heap.size w w2) (hp : w.heap.size ≤ p) (x u y z : Sl) (E : Bool) : Below w.heap.size w (((((w2.setCell ⟨p, 0, none⟩ (.slice x.a x.n x.c)).setCell ⟨p, 1, none⟩ (.bool E)).setCell ⟨p, 2, none⟩ (.slice y.a y.n y.c)).setCell ⟨p, 3, none⟩ (.slice z.a z.n z.c)).setCell ⟨p, 4, none⟩ (.slice u.a u.n u.c)) :=
  ((((h.setCell (p := ⟨p, 0, none⟩) hp _).setCell (p := ⟨p, 1, none⟩) hp _).setCell (p := ⟨p, 2, none⟩) hp _).setCell (p := ⟨p, 3, none⟩) hp _).setCell (p := ⟨p, 4, none⟩) hp _

theorem XS.start {w : World} (B : Nat) (h : B ≤ w.heap.size) : XS (w.alloc (.cells #[.slice none 0 0, .bool false, .slice none 0 0, .slice none 0 0, .slice none 0 0] 53)) w.heap.size B ⟨none, 0, 0⟩ ⟨none, 0, 0⟩ [] [] [] [] :=
  ⟨Blk.new _ _ _, h, OwnX.nil _ _ _ _ _, OwnX.nil _ _ _ _ _, rfl, rfl, by simp, by simp, by simp, by simp⟩

set_option maxRecDepth 100000 in
set_option maxHeartbeats 8000000 in
theorem of_any (kn : KN) (t : Tree) (x : PC) (w : World) (hok : okT t) (hg : goodT t) (hx : HT w t x) :
    Calls Tryd.prog 33 #[x.v] w (PostOf t w) := by
  have kr := fun W h => right_any t x W hok h
  have KP := part_all kn w 200 t
  have HX : Hid (HT w t x) := hx
  have HG : Hid (goodT t) := hg
  have HQ : Hid (∀ q, rightT t = q → q = true → size t ≤ 200 ∧ kindsT t = true ∧ ones t ≤ 200) := fun q h1 h2 => by
    obtain ⟨h3, _, h5⟩ := right_parts (h1.trans h2)
    have := ones_le 200 t h3
    exact ⟨h3, h5, by omega⟩
  unfold PostOf
  generalize hq : rightT t = q at *
  have HQ2 := HQ.out q rfl
  clear HQ hq
  obtain ⟨xk, ⟨x1, x2, x3⟩, x4, x5, x6⟩ := x
  clear hx hok hg
  cases q
  · go_enter Tryd.func33, Tryd.ntmps33
    go_wp2_with (go_at_call 17; refine (kr _ (HX.out.gr (((Gr.refl _).alloc _).alloc _))).mono ?_; rintro _ w2 ⟨rfl, gw⟩; have G2 : Hid (Gr w w2) := (((Gr.refl _).alloc _).alloc _).trans gw; have P2 : Hid (Blk w2 w.heap.size #[.int .i64 xk, .slice x1 x2 x3, .slice x4 x5 x6] 25) := ((Blk.new w _ _).alloc _).gr gw; have R2 : Hid (Blk w2 (w.heap.size + 1) #[.slice none 0 0, .bool false, .slice none 0 0, .slice none 0 0, .slice none 0 0] 53) := (Blk.new' _ _ _ _ (by simp)).gr gw; clear gw; have p0 := P2.out.c 0; have p1 := P2.out.c 1; have p2 := P2.out.c 2; have pf := P2.out.frozen; have pl := P2.out.lt; have r0 := R2.out.c 0; have r1 := R2.out.c 1; have r2 := R2.out.c 2; have r3 := R2.out.c 3; have r4 := R2.out.c 4; have rf := R2.out.frozen; have rl := R2.out.lt; simp only [List.getElem?_toArray, List.getElem?_cons_zero, List.getElem?_cons_succ] at p0 p1 p2 r0 r1 r2 r3 r4)
    have T := pos_put R2.out ⟨none, 0, 0⟩ ⟨none, 0, 0⟩ ⟨none, 0, 0⟩ ⟨none, 0, 0⟩ false
    have B5 := below_put (p := w.heap.size + 1) G2.out.below (by omega) ⟨none, 0, 0⟩ ⟨none, 0, 0⟩ ⟨none, 0, 0⟩ ⟨none, 0, 0⟩ false
    refine bodyPost_ret (v := .tuple #[PVal ⟨none, 0, 0⟩ ⟨none, 0, 0⟩ ⟨none, 0, 0⟩ ⟨none, 0, 0⟩ false, .int .i64 4]) ?_ rfl ⟨B5, Or.inl ⟨trivial, rfl⟩⟩
    have L := run_pos (x := ⟨none, 0, 0⟩) (y := ⟨none, 0, 0⟩) (z := ⟨none, 0, 0⟩) (u := ⟨none, 0, 0⟩) T
    clear T B5
    generalize World.setCell _ _ _ = W5 at L ⊢
    simp [results, Tryd.results33]
    exact congrArg (fun r => Result.andThen r fun a w' => Result.ok (Value.tuple #[a, Value.int IntKind.i64 4]) w') L
  · obtain ⟨hsz, hk, hon⟩ := HQ2 rfl
    go_enter Tryd.func33, Tryd.ntmps33
    go_upto_region 4 with (go_at_call 17; refine (kr _ (HX.out.gr (((Gr.refl _).alloc _).alloc _))).mono ?_; rintro _ w2 ⟨rfl, gw⟩; have G2 : Hid (Gr w w2) := (((Gr.refl _).alloc _).alloc _).trans gw; have P2 : Hid (Blk w2 w.heap.size #[.int .i64 xk, .slice x1 x2 x3, .slice x4 x5 x6] 25) := ((Blk.new w _ _).alloc _).gr gw; have R2 : Hid (Blk w2 (w.heap.size + 1) #[.slice none 0 0, .bool false, .slice none 0 0, .slice none 0 0, .slice none 0 0] 53) := (Blk.new' _ _ _ _ (by simp)).gr gw; clear gw; have p0 := P2.out.c 0; have p1 := P2.out.c 1; have p2 := P2.out.c 2; have pf := P2.out.frozen; have pl := P2.out.lt; have r0 := R2.out.c 0; have r1 := R2.out.c 1; have r2 := R2.out.c 2; have r3 := R2.out.c 3; have r4 := R2.out.c 4; have rf := R2.out.frozen; have rl := R2.out.lt; simp only [List.getElem?_toArray, List.getElem?_cons_zero, List.getElem?_cons_succ] at p0 p1 p2 r0 r1 r2 r3 r4)
    have hlt : w.heap.size + 1 < w2.heap.size := rl
    have B2 : Below w.heap.size w (w2.alloc (.cells #[.slice none 0 0, .bool false, .slice none 0 0, .slice none 0 0, .slice none 0 0] 53)) := G2.out.below.alloc (by omega) _
    have KE := KP hsz _ w2.heap.size w.heap.size ⟨none, 0, 0⟩ ⟨none, 0, 0⟩ [] [] [] [] ⟨xk, ⟨x1, x2, x3⟩, x4, x5, x6⟩ (XS.start w.heap.size (by omega)) (by simp; omega) (Nat.le_refl _) B2 HX.out hk hsz HG.out rfl (by simpa using hon)
    have R2' : Hid (Blk (w2.alloc (.cells #[.slice none 0 0, .bool false, .slice none 0 0, .slice none 0 0, .slice none 0 0] 53)) (w.heap.size + 1) #[.slice none 0 0, .bool false, .slice none 0 0, .slice none 0 0, .slice none 0 0] 53) := Blk.alloc R2.out _
    have HB2 : Hid (Below w.heap.size w (w2.alloc (.cells #[.slice none 0 0, .bool false, .slice none 0 0, .slice none 0 0, .slice none 0 0] 53))) := B2
    clear B2 R2 G2 hsz hk hon HQ2 KP kr r0 r1 r2 r3 r4 rf P2
    go_upto_region 5 with (go_at_call 54; refine KE.mono ?_; rintro _ w3 ⟨sv1, fv1, ⟨fa, fn, fc⟩, ⟨la, ln, lc⟩, ss1, rs1, sets1, rows1, Lf, Ll, rfl, px⟩; have P1 : Hid _ := px; clear px)
    have N3 : ∀ (p : Nat) (cs : Array Value) (t : TypeId), Blk (w2.alloc (.cells #[.slice none 0 0, .bool false, .slice none 0 0, .slice none 0 0, .slice none 0 0] 53)) p cs t → p ≠ w2.heap.size → Blk w3 p cs t := fun p cs t hb hn => (P1.out.fx.block p hb.lt (by
      rintro (e | e | e)
      · exact hn e
      · cases e
      · cases e)).trans hb
    have hs3 := P1.out.fx.size
    have HR3 : Hid (Blk (w3.alloc (.cells #[.bool (emp t), .slice fa fn fc, .slice la ln lc] 89)) (w.heap.size + 1) #[.slice none 0 0, .bool false, .slice none 0 0, .slice none 0 0, .slice none 0 0] 53) := (N3 _ _ _ R2'.out (by omega)).alloc _
    have HO3 : Hid (Blk (w3.alloc (.cells #[.bool (emp t), .slice fa fn fc, .slice la ln lc] 89)) w3.heap.size #[.bool (emp t), .slice fa fn fc, .slice la ln lc] 89) := Blk.new _ _ _
    have HX3 : Hid (XS (w3.alloc (.cells #[.bool (emp t), .slice fa fn fc, .slice la ln lc] 89)) w2.heap.size w.heap.size sv1 fv1 ss1 rs1 sets1 rows1) := P1.out.xs.bel ((Below.refl _ _).alloc (Nat.le_refl _) _)
    have HF3 : Hid (OwnI 0 (w3.alloc (.cells #[.bool (emp t), .slice fa fn fc, .slice la ln lc] 89)) (.slice fa fn fc) Lf) := (P1.out.ofi.lower (Nat.zero_le _)).alloc _
    have HL3 : Hid (OwnI 0 (w3.alloc (.cells #[.bool (emp t), .slice fa fn fc, .slice la ln lc] 89)) (.slice la ln lc) Ll) := (P1.out.ola.lower (Nat.zero_le _)).alloc _
    have HB3 : Hid (Below w.heap.size w (w3.alloc (.cells #[.bool (emp t), .slice fa fn fc, .slice la ln lc] 89))) := (HB2.out.trans (P1.out.fx.below (B := w.heap.size) (by
      rintro g (e | e | e)
      · omega
      · cases e
      · cases e) (by simp; omega))).alloc (by simp at hs3; omega) _
    have HI : Hid (IsPos t sets1 rows1 Lf Ll) := ⟨P1.out.sts, P1.out.rws, P1.out.lf, P1.out.ll, P1.out.xs.ok⟩
    have HS3 : Hid (w2.heap.size < w3.heap.size) := by show _ < _; simp at hs3; omega
    clear P1 N3 hs3 KE R2' HB2 pf pl rl p0 p1 p2
    generalize w3.alloc _ = W3 at HR3 HO3 HX3 HF3 HL3 HB3 ⊢
    generalize w3.heap.size = p8 at HO3 HS3 ⊢
    generalize w2.heap.size = b at HX3 HS3 hlt ⊢
    clear w3 w2
    have o0 := HO3.out.c 0
    have o1 := HO3.out.c 1
    have o2 := HO3.out.c 2
    have of4 := HO3.out.frozen
    have r0 := HR3.out.c 0
    have r1 := HR3.out.c 1
    have r2 := HR3.out.c 2
    have r3 := HR3.out.c 3
    have r4 := HR3.out.c 4
    have rf := HR3.out.frozen
    have b0 := HX3.out.blk.c 0
    have b1 := HX3.out.blk.c 1
    have b2 := HX3.out.blk.c 2
    have b3 := HX3.out.blk.c 3
    have b4 := HX3.out.blk.c 4
    have bf := HX3.out.blk.frozen
    simp only [List.getElem?_toArray, List.getElem?_cons_zero, List.getElem?_cons_succ] at o0 o1 o2 r0 r1 r2 r3 r4 b0 b1 b2 b3 b4
    have n1 : b ≠ p8 := by have := HS3.out; omega
    have n2 : b ≠ w.heap.size + 1 := by omega
    have n3 : p8 ≠ w.heap.size + 1 := by have := HS3.out; omega
    go_wp2_with fail
    go_region
    go_wp2_with fail
    have R6 := ((HR3.out.other (p := ⟨b, 1, none⟩) (fun e => n2 e.symm) (.bool (emp t))).other (p := ⟨b, 2, none⟩) (fun e => n2 e.symm) (.slice fa fn fc)).other (p := ⟨b, 3, none⟩) (fun e => n2 e.symm) (.slice la ln lc)
    have T := pos_put R6 sv1 fv1 ⟨fa, fn, fc⟩ ⟨la, ln, lc⟩ (emp t)
    have K : Fx (fun g => g = b ∨ g = w.heap.size + 1) W3 _ := (((((((((Fx.refl _ W3).setCell (p := ⟨b, 1, none⟩) (fun _ => Or.inl rfl) (.bool (emp t))).setCell (p := ⟨b, 2, none⟩) (fun _ => Or.inl rfl) (.slice fa fn fc)).setCell (p := ⟨b, 3, none⟩) (fun _ => Or.inl rfl) (.slice la ln lc)).setCell (p := ⟨w.heap.size + 1, 0, none⟩) (fun _ => Or.inr rfl) (.slice sv1.a sv1.n sv1.c)).setCell (p := ⟨w.heap.size + 1, 1, none⟩) (fun _ => Or.inr rfl) (.bool (emp t))).setCell (p := ⟨w.heap.size + 1, 2, none⟩) (fun _ => Or.inr rfl) (.slice fa fn fc)).setCell (p := ⟨w.heap.size + 1, 3, none⟩) (fun _ => Or.inr rfl) (.slice la ln lc)).setCell (p := ⟨w.heap.size + 1, 4, none⟩) (fun _ => Or.inr rfl) (.slice fv1.a fv1.n fv1.c)).drewN 1
    have H := HP.of (fi := ⟨fa, fn, fc⟩) (la := ⟨la, ln, lc⟩) HX3.out HF3.out HL3.out K (fun g e => by
      rcases e with rfl | rfl
      · exact ⟨_, _, HX3.out.blk, Or.inl rfl⟩
      · exact ⟨_, _, HR3.out, Or.inl rfl⟩)
    have B9 := HB3.out.trans (K.below (B := w.heap.size) (by rintro g (rfl | rfl) <;> omega) (HB3.out.size))
    generalize hW9 : World.drew _ = W9
    have L : (loadVar 53 ⟨w.heap.size + 1, 0, none⟩).run Tryd.prog W9 = .ok (PVal sv1 fv1 ⟨fa, fn, fc⟩ ⟨la, ln, lc⟩ (emp t)) W9 := by rw [← hW9]; exact run_pos (T.drewN 1)
    have H9 : HP W9 sv1 fv1 ⟨fa, fn, fc⟩ ⟨la, ln, lc⟩ ss1 rs1 sets1 rows1 Lf Ll := by rw [← hW9]; exact H
    have B10 : Below w.heap.size w W9 := by rw [← hW9]; exact B9
    clear T K R6 hW9 H B9
    refine bodyPost_ret (v := .tuple #[PVal sv1 fv1 ⟨fa, fn, fc⟩ ⟨la, ln, lc⟩ (emp t), .int .i64 0]) ?_ rfl ⟨B10, Or.inr ⟨trivial, sv1, fv1, ⟨fa, fn, fc⟩, ⟨la, ln, lc⟩, ss1, rs1, sets1, rows1, Lf, Ll, rfl, H9, HI.out⟩⟩
    simp [results, Tryd.results33]
    exact congrArg (fun r => Result.andThen r fun a w' => Result.ok (Value.tuple #[a, Value.int IntKind.i64 0]) w') L

end Go.Proofs.YtjjlkjfhhpogaaaDoor
