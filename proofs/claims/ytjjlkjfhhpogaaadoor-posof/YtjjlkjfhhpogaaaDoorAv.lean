/-
  The walks of the law's one and alive.
-/
import Derived.Test.YtjjlkjfhhpogaaaDoorAe
import Derived.Test.YtjjlkjfhhpogaaaDoorLz
namespace Go.Proofs.YtjjlkjfhhpogaaaDoor
open Go.RowKit

theorem run_pc {w : World} {b : Nat} {x : PC} (h : Blk w b (encT x).toArray 25) : (loadVar 25 ⟨b, 0, none⟩).run Tryd.prog w = .ok x.v w := run_loadVar_row w b 25 25 _ (0, 0) _ h Tryd.underlying25 rfl (by kernel_rfl)
set_option maxRecDepth 100000 in
set_option maxHeartbeats 4000000 in
theorem lone_any (n : Int) (w : World) : Calls Tryd.prog 53 #[.int .u32 n] w fun e w' => ∃ x : PC, e = .returned x.v ∧ HT w' (exOne n) x ∧ Gr w w' := by
  go_enter Tryd.func53, Tryd.ntmps53
  go_wp2_with fail
  have H : HT ((w.alloc (.cells #[.int .i64 1, .slice (some ⟨w.heap.size + 1, 0, none⟩) 1 1, .slice none 0 0] 25)).alloc (.cells #[.int .u32 n, .int .u32 n] 78)) (exOne n) ⟨1, ⟨some ⟨w.heap.size + 1, 0, none⟩, 1, 1⟩, ⟨none, 0, 0⟩⟩ :=
    (HO_one (P := fun _ => True) (s := (n, n)) (Blk.new' _ _ _ _ (by simp)) rfl trivial).held
  have L := run_pc (x := ⟨1, ⟨some ⟨w.heap.size + 1, 0, none⟩, 1, 1⟩, ⟨none, 0, 0⟩⟩) ((Blk.new w _ _).alloc (.cells #[.int .u32 n, .int .u32 n] 78))
  refine bodyPost_ret (v := PC.v ⟨1, ⟨some ⟨w.heap.size + 1, 0, none⟩, 1, 1⟩, ⟨none, 0, 0⟩⟩) ?_ rfl ⟨_, rfl, H, ((Gr.refl _).alloc _).alloc _⟩
  simp [results, Tryd.results53]
  exact L

theorem exPos_ok : okT exPos := by simp [exPos, exOne, okT_mk, okL_cons, okL_nil]
theorem exPos_good : goodT exPos := by simp [exPos, exOne, goodT_mk, goodL_cons, goodL_nil, YtjjlkjfhhpogaaaDoorS1.Good]
theorem run_ex (l : List Int) (r : Bool) (hr : r = true ↔ takes exPos l) {w : World} {sv fv fi la : Sl} {ss rs : List Sl} {sets : List (List (Int × Int))} {rows : List (List Nat)} (hp : HP w sv fv fi la ss rs sets rows [0] [0, 1]) (ip : IsPos exPos sets rows [0] [0, 1]) (hT : Tab w) (pv : Value) (hpv : RowN w pv l) (hl : l.length ≤ 100000) :
    Calls Tryd.prog 36 #[.agg #[.slice sv.a sv.n sv.c, .bool false, .slice fi.a fi.n fi.c, .slice la.a la.n la.c, .slice fv.a fv.n fv.c], pv] w fun e w' => e = .returned (.bool r) ∧ Gr w w' := by
  have k := run_any exPos w sv fv fi la ss rs sets rows [0] [0, 1] hp ip (right_parts exPos_right).2.2 (right_parts exPos_right).1 (ip.small (by rw [exPos_sets]; simp)) hT pv l hpv hl
  rw [exPos_emp] at k
  refine k.mono fun e w' h => ?_
  obtain ⟨⟨r', rfl, hr'⟩, g⟩ := h
  refine ⟨?_, g⟩
  have : r' = r := by
    cases r <;> cases r' <;> simp_all
  rw [this]
theorem ints_lit {w : World} {u : Value} {a : List Nat} (hu : RowI w u a) (ha : a.length ≤ 1000) {b : Nat} {cs : Array Value} (hb : Blk w b cs 3) (hcs : cs.toList = cellsOf encI a) :
    Calls Tryd.prog 38 #[u, .slice (some ⟨b, 0, none⟩) a.length a.length] w fun e w' => e = .returned (.bool true) ∧ Gr w w' := by
  have k := ints_any u _ a a w (by omega) hu ((OwnX.lit (base := 0) (l := a) encI_len hb hcs (Nat.zero_le _) ha).row encI_len)
  simpa using k

theorem of_ex (kn : KN) (x : PC) (w : World) (hx : HT w exPos x) : Calls Tryd.prog 33 #[x.v] w fun e w' => ∃ (sv fv fi la : Sl) (ss rs : List Sl) (sets : List (List (Int × Int))) (rows : List (List Nat)),
    e = .returned (.tuple #[.agg #[.slice sv.a sv.n sv.c, .bool false, .slice fi.a fi.n fi.c, .slice la.a la.n la.c, .slice fv.a fv.n fv.c], .int .i64 0]) ∧ HP w' sv fv fi la ss rs sets rows [0] [0, 1] ∧ IsPos exPos sets rows [0] [0, 1] ∧ sets.length = 2 ∧ rows.length = 2 ∧ rows[1]? = some [1] ∧ Below w.heap.size w w' :=
  (of_any kn exPos x w exPos_ok exPos_good hx).mono fun e w' h => by
    obtain ⟨hb, ⟨hr, _⟩ | ⟨_, sv, fv, fi, la, ss, rs, sets, rows, Lf, Ll, rfl, hp, ip⟩⟩ := h
    · rw [exPos_right] at hr
      cases hr
    · obtain ⟨h1, h2, rfl, rfl, h5⟩ := exPos_pos ip
      exact ⟨sv, fv, fi, la, ss, rs, sets, rows, by rw [exPos_emp]; rfl, hp, ip, h1, h2, h5, hb⟩

theorem ht_ex {w1 w2 : World} {x1 x2 : PC} (h1 : HT w1 (exOne 1) x1) (h2 : HT w2 (exOne 2) x2) (g : Gr w1 w2) :
    HT ((w2.alloc (.cells (encT x2).toArray 25)).alloc (.cells (encT x1 ++ encT ⟨4, ⟨none, 0, 0⟩, ⟨some ⟨w2.heap.size, 0, none⟩, 1, 1⟩⟩).toArray 25)) exPos ⟨2, ⟨none, 0, 0⟩, ⟨some ⟨w2.heap.size + 1, 0, none⟩, 2, 2⟩⟩ := by
  have b1 : Blk ((w2.alloc (.cells (encT x2).toArray 25)).alloc (.cells (encT x1 ++ encT ⟨4, ⟨none, 0, 0⟩, ⟨some ⟨w2.heap.size, 0, none⟩, 1, 1⟩⟩).toArray 25)) w2.heap.size (encT x2).toArray 25 := (Blk.new _ _ _).alloc _
  have b2 : Blk ((w2.alloc (.cells (encT x2).toArray 25)).alloc (.cells (encT x1 ++ encT ⟨4, ⟨none, 0, 0⟩, ⟨some ⟨w2.heap.size, 0, none⟩, 1, 1⟩⟩).toArray 25)) (w2.heap.size + 1) (encT x1 ++ encT ⟨4, ⟨none, 0, 0⟩, ⟨some ⟨w2.heap.size, 0, none⟩, 1, 1⟩⟩).toArray 25 := Blk.new' _ _ _ _ (by simp)
  have gg : Gr w2 ((w2.alloc (.cells (encT x2).toArray 25)).alloc (.cells (encT x1 ++ encT ⟨4, ⟨none, 0, 0⟩, ⟨some ⟨w2.heap.size, 0, none⟩, 1, 1⟩⟩).toArray 25)) := ((Gr.refl _).alloc _).alloc _
  have r1 := (OwnX.lit (base := 0) (l := [x2]) encT_len b1 (by simp [cellsOf]) (Nat.zero_le _) (by simp)).row encT_len
  have r2 := (OwnX.lit (base := 0) (l := [x1, ⟨4, ⟨none, 0, 0⟩, ⟨some ⟨w2.heap.size, 0, none⟩, 1, 1⟩⟩]) encT_len b2 (by simp [cellsOf]) (Nat.zero_le _) (by simp)).row encT_len
  exact (HT_mk _ _ _ _ _).2 ⟨rfl, RowX.nil _ _ _, _, r2, (HTs_cons _ _ _ _).2 ⟨_, _, rfl, h1.gr (g.trans gg), (HTs_cons _ _ _ _).2 ⟨_, _, rfl, (HT_mk _ _ _ _ _).2 ⟨rfl, RowX.nil _ _ _, _, r1, (HTs_cons _ _ _ _).2 ⟨_, _, rfl, h2.gr gg, (HTs_nil _ _).2 rfl⟩⟩, (HTs_nil _ _).2 rfl⟩⟩⟩

theorem two_len {w : World} {sv fv fi la : Sl} {ss rs : List Sl} {sets : List (List (Int × Int))} {rows : List (List Nat)} {Lf Ll : List Nat} (h : HP w sv fv fi la ss rs sets rows Lf Ll) (e1 : sets.length = 2) (e2 : rows.length = 2) : sv.n = 2 ∧ fv.n = 2 := by
  have := h.nums
  omega

theorem ints_ask {W4 : World} {u : Value} {a : List Nat} (hu : RowI W4 u a) (ha : a.length ≤ 1000) (cs : Array Value) (hcs : cs.toList = cellsOf encI a) (n : Nat) (hn : n = a.length) (W : World) (g : Gr W4 W) :
    Calls Tryd.prog 38 #[u, .slice (some ⟨W.heap.size, 0, none⟩) n n] (W.alloc (.cells cs 3)) fun e w' => e = .returned (.bool true) ∧ Gr W w' := by
  subst hn
  exact (ints_lit (hu.gr (g.alloc _)) ha (Blk.new W cs 3) hcs).mono fun e w' h => ⟨h.1, ((Gr.refl _).alloc _).trans h.2⟩

theorem run_ask {W4 : World} {sv fv fi la : Sl} {ss rs : List Sl} {sets : List (List (Int × Int))} {rows : List (List Nat)} (hp : HP W4 sv fv fi la ss rs sets rows [0] [0, 1]) (ip : IsPos exPos sets rows [0] [0, 1]) (hT : Tab W4) (l : List Int) (r : Bool) (hr : r = true ↔ takes exPos l) (hl : l.length ≤ 1000) (cs : Array Value) (hcs : cs.toList = cellsOf encN l) (n : Nat) (hn : n = l.length) (W : World) (g : Gr W4 W) :
    Calls Tryd.prog 36 #[.agg #[.slice sv.a sv.n sv.c, .bool false, .slice fi.a fi.n fi.c, .slice la.a la.n la.c, .slice fv.a fv.n fv.c], .slice (some ⟨W.heap.size, 0, none⟩) n n] (W.alloc (.cells cs 43)) fun e w' => e = .returned (.bool r) ∧ Gr W w' := by
  subst hn
  exact (run_ex l r hr (hp.gr (g.alloc _)) ip (hT.gr (g.alloc _)) _ ((OwnX.lit (base := 0) encN_len (Blk.new W cs 43) hcs (Nat.zero_le _) hl).row encN_len) (by omega)).mono fun e w' h => ⟨h.1, ((Gr.refl _).alloc _).trans h.2⟩

set_option maxRecDepth 100000 in
set_option maxHeartbeats 4000000 in
theorem alive8_any (kn : KN) : ALIVE := by
  intro w hT
  have k1 := fun W => lone_any 1 W
  have k2 := fun W => lone_any 2 W
  have HTb : Hid (Tab w) := hT
  clear hT
  go_enter Tryd.func32, Tryd.ntmps32
  go_upto_region 2 with (first
    | (go_at_call 53; refine (k1 _).mono ?_; rintro _ w1 ⟨x1, rfl, h1, g1⟩; have H1 : Hid (HT w1 (exOne 1) x1) := h1; have G1 : Hid (Gr w w1) := g1; clear h1 g1; obtain ⟨x1k, ⟨x1a, x1b, x1c⟩, x1d, x1e, x1f⟩ := x1)
    | (go_at_call 53; refine (k2 _).mono ?_; rintro _ w2 ⟨x2, rfl, h2, g2⟩; have H2 : Hid (HT w2 (exOne 2) x2) := h2; have G2 : Hid (Gr w1 w2) := g2; clear h2 g2; obtain ⟨x2k, ⟨x2a, x2b, x2c⟩, x2d, x2e, x2f⟩ := x2)
    | (go_at_call 33; refine (of_ex kn ⟨2, ⟨none, 0, 0⟩, ⟨some ⟨w2.heap.size + 1, 0, none⟩, 2, 2⟩⟩ _ (ht_ex H1.out H2.out G2.out)).mono ?_; rintro _ w3 ⟨sv, fv, fi, la, ss, rs, sets, rows, rfl, hp, ip, e1, e2, e3, b3⟩; have HH : Hid _ := hp; have HI : Hid _ := ip; have HS : Hid _ := e1; have HR : Hid _ := e2; have HR1 : Hid _ := e3; have B3 : Hid _ := b3; clear hp ip e1 e2 e3 b3))
  have T3 : Hid (Tab w3) := HTb.out.same (((G1.out.trans G2.out).below.alloc (G1.out.trans G2.out).below.size _ |>.alloc (by have := (G1.out.trans G2.out).below.size; simp; omega) _).trans (B3.out.mono (by have := (G1.out.trans G2.out).below.size; simp; omega)) |>.block 0 HTb.out.lt)
  have B4 : Hid (Below w.heap.size w w3) := (((G1.out.trans G2.out).below.alloc (G1.out.trans G2.out).below.size _ |>.alloc (by have := (G1.out.trans G2.out).below.size; simp; omega) _).trans (B3.out.mono (by have := (G1.out.trans G2.out).below.size; simp; omega)))
  obtain ⟨hsn, hfn⟩ := two_len HH.out HS.out HR.out
  obtain ⟨sa, sn, sc⟩ := sv
  obtain ⟨fa, fn, fc⟩ := fv
  obtain ⟨ia, iN, ic⟩ := fi
  obtain ⟨la, ln, lc⟩ := la
  simp only at hsn hfn
  subst hsn hfn
  generalize hW4 : World.alloc _ _ = W4
  have G4 : Gr w3 W4 := by rw [← hW4]; exact (Gr.refl _).alloc _
  have X4 : Hid (Blk W4 w3.heap.size #[.slice sa 2 sc, .bool false, .slice ia iN ic, .slice la ln lc, .slice fa 2 fc] 53) := by rw [← hW4]; exact Blk.new _ _ _
  have B5 : Hid (Below w.heap.size w W4) := B4.out.trans (G4.below.mono B4.out.size)
  have H4 := HH.out.gr G4
  have T4 := T3.out.gr G4
  obtain ⟨r, hr⟩ : ∃ r, rs[1]? = some r := ⟨_, List.getElem?_eq_getElem (by have := H4.rl; have := HR.out; omega)⟩
  obtain ⟨fb, off, hfa, hfb, hc⟩ := H4.fo.at hr
  have d0 := hc 0 _ rfl
  have R1 := H4.re 1 r [1] hr HR1.out
  obtain ⟨ra, rn, rc⟩ := r
  simp only at hfa d0 R1
  subst hfa
  simp only [Nat.mul_one, Nat.add_zero] at d0
  have K1 := ints_ask H4.hf (by simp) #[.int .i64 0] rfl 1 rfl
  have K2 := ints_ask H4.hl (by simp) #[.int .i64 0, .int .i64 1] rfl 2 rfl
  have K3 := ints_ask R1 (by simp) #[.int .i64 1] rfl 1 rfl
  have K4 := run_ask H4 HI.out T4 [1, 2, 2] true (by simp [exPos_takes]) (by simp) #[.int .u32 1, .int .u32 2, .int .u32 2] rfl 3 rfl
  have K5 := run_ask H4 HI.out T4 [2] false (by simp [exPos_not]) (by simp) #[.int .u32 2] rfl 1 rfl
  have D0 : Hid (W4.cell? ⟨fb, off + 1, none⟩ = some (.slice ra rn rc)) := d0
  clear hc hr k1 k2 H1 H2 G1 G2 B3 B4 HH hW4 G4 H4 T4 T3 R1 d0 HS HR HR1 HI HTb
  have y40 := X4.out.c 0
  have y41 := X4.out.c 1
  have y42 := X4.out.c 2
  simp only [List.getElem?_toArray, List.getElem?_cons_zero, List.getElem?_cons_succ] at y40 y41 y42
  go_wp2_with (first
    | (go_at_call 38; (with_reducible refine (K1 _ (Gr.refl _)).mono ?_); rintro _ w5 ⟨rfl, gw⟩; have G5 : Hid (Gr W4 w5) := gw; clear gw K1; have y53 := (X4.out.gr G5.out).c 3; simp only [List.getElem?_toArray, List.getElem?_cons_zero, List.getElem?_cons_succ] at y53)
    | (go_at_call 38; (with_reducible refine (K2 _ G5.out).mono ?_); rintro _ w6 ⟨rfl, gw⟩; have G6 : Hid (Gr W4 w6) := G5.out.trans gw; clear gw K2 y53; have y64 := (X4.out.gr G6.out).c 4; simp only [List.getElem?_toArray, List.getElem?_cons_zero, List.getElem?_cons_succ] at y64; have d6 := (G6.out.below.cell (by exact hfb)).trans D0.out)
    | (go_at_call 38; (with_reducible refine (K3 _ G6.out).mono ?_); rintro _ w7 ⟨rfl, gw⟩; have G7 : Hid (Gr W4 w7) := G6.out.trans gw; clear gw K3 y64 d6; have y70 := (X4.out.gr G7.out).c 0; have y71 := (X4.out.gr G7.out).c 1; have y72 := (X4.out.gr G7.out).c 2; have y73 := (X4.out.gr G7.out).c 3; have y74 := (X4.out.gr G7.out).c 4; simp only [List.getElem?_toArray, List.getElem?_cons_zero, List.getElem?_cons_succ] at y70 y71 y72 y73 y74)
    | (go_at_call 36; (with_reducible refine (K4 _ G7.out).mono ?_); rintro _ w8 ⟨rfl, gw⟩; have G8 : Hid (Gr W4 w8) := G7.out.trans gw; clear gw K4 y70 y71 y72 y73 y74; have y80 := (X4.out.gr G8.out).c 0; have y81 := (X4.out.gr G8.out).c 1; have y82 := (X4.out.gr G8.out).c 2; have y83 := (X4.out.gr G8.out).c 3; have y84 := (X4.out.gr G8.out).c 4; simp only [List.getElem?_toArray, List.getElem?_cons_zero, List.getElem?_cons_succ] at y80 y81 y82 y83 y84)
    | (go_at_call 36; (with_reducible refine (K5 _ G8.out).mono ?_); rintro _ w9 ⟨rfl, gw⟩; have G9 : Hid (Gr W4 w9) := G8.out.trans gw; clear gw K5))
  go_ret
  exact ⟨rfl, B5.out.trans (G9.out.below.mono B5.out.size)⟩

end Go.Proofs.YtjjlkjfhhpogaaaDoor
