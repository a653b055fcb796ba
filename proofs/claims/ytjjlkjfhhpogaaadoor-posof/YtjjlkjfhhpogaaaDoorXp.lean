/-
  What comes of a part of a pattern: its positions put behind those so far. The walk of one.
-/
import Derived.Test.YtjjlkjfhhpogaaaDoorXj
import Derived.Test.YtjjlkjfhhpogaaaDoorTm
import Derived.Test.YtjjlkjfhhpogaaaDoorTx
import Derived.Deep.RegionLaw
import Derived.Deep.DeepCutAuto
namespace Go.Proofs.YtjjlkjfhhpogaaaDoor
open Go.RowKit

/-- What comes of a part: its positions stand behind those so far, and what it tells is in new memory. -/
structure PX (w : World) (b B : Nat) (sv fv : Sl) (ss rs : List Sl) (sets : List (List (Int × Int))) (rows : List (List Nat)) (S : List (List (Int × Int))) (F : Nat → Nat → Prop) (Fi La : Nat → Prop)
    (sv' fv' fi la : Sl) (ss' rs' : List Sl) (sets' : List (List (Int × Int))) (rows' : List (List Nat)) (Lf Ll : List Nat) (w' : World) : Prop where
  xs : XS w' b B sv' fv' (ss ++ ss') (rs ++ rs') (sets ++ sets') (rows ++ rows')
  fx : Fx (Mv b sv fv) w w'
  mv : ∀ g, Mv b sv' fv' g → Mv b sv fv g ∨ w.heap.size ≤ g
  ofi : OwnI w.heap.size w' (.slice fi.a fi.n fi.c) Lf
  ola : OwnI w.heap.size w' (.slice la.a la.n la.c) Ll
  lf : ListOf Fi Lf
  ll : ListOf La Ll
  sts : SetsOf S sets'
  rws : RowsOf S.length sets.length F rows'
  new : ∀ (k : Nat) r g, rs'[k]? = some r → (Sl.v r).ownBlock = some g → w.heap.size ≤ g ∧ (Sl.v fi).ownBlock ≠ some g ∧ (Sl.v la).ownBlock ≠ some g
  apart : ∀ g, (Sl.v fi).ownBlock = some g → (Sl.v la).ownBlock ≠ some g

def PostX (w : World) (b B : Nat) (sv fv : Sl) (ss rs : List Sl) (sets : List (List (Int × Int))) (rows : List (List Nat)) (E : Bool) (S : List (List (Int × Int))) (F : Nat → Nat → Prop) (Fi La : Nat → Prop) (e : Ending) (w' : World) : Prop :=
  ∃ (sv' fv' fi la : Sl) (ss' rs' : List Sl) (sets' : List (List (Int × Int))) (rows' : List (List Nat)) (Lf Ll : List Nat),
    e = .returned (.agg #[.bool E, .slice fi.a fi.n fi.c, .slice la.a la.n la.c]) ∧ PX w b B sv fv ss rs sets rows S F Fi La sv' fv' fi la ss' rs' sets' rows' Lf Ll w'

/-- What 'part' does with a pattern. -/
def CP (w0 : World) (t : Tree) : Prop := ∀ (w : World) (b B : Nat) (sv fv : Sl) (ss rs : List Sl) (sets : List (List (Int × Int))) (rows : List (List Nat)) (x : PC),
  XS w b B sv fv ss rs sets rows → B ≤ w.heap.size → w0.heap.size ≤ B → Below w0.heap.size w0 w → HT w0 t x → kindsT t = true → size t ≤ 200 → goodT t → sets.length = rows.length → sets.length + ones t ≤ 200 →
  Calls Tryd.prog 54 #[.pointer (some ⟨b, 0, none⟩), x.v] w fun e w' => PostX w b B sv fv ss rs sets rows (emp t) (setsT t) (Fol t sets.length) (Fir t sets.length) (Las t sets.length) e w'

/-- What span.Norm does. -/
def KN : Prop := ∀ (v : Value) (l : List (Int × Int)) (W : World), l.length ≤ 256 → YtjjlkjfhhpogaaaDoorS1.Good l → RowS W v l →
  Calls Tryd.prog 90 #[v] W fun e w' => ∃ (u : Sl) (m : List (Int × Int)), e = .returned (.slice u.a u.n u.c) ∧ NormOf l m ∧ OwnX encS 2 78 W.heap.size w' (.slice u.a u.n u.c) m ∧ Below W.heap.size W w'

theorem run_told {w : World} {b : Nat} {e : Bool} {x y : Sl} (h : Blk w b #[.bool e, .slice x.a x.n x.c, .slice y.a y.n y.c] 89) : (loadVar 89 ⟨b, 0, none⟩).run Tryd.prog w = .ok (.agg #[.bool e, .slice x.a x.n x.c, .slice y.a y.n y.c]) w := run_loadVar_row w b 89 89 _ (0, 0) _ h Tryd.underlying89 rfl (by kernel_rfl)

theorem XS.notMv {w : World} {b B : Nat} {sv fv : Sl} {ss rs : List Sl} {sets : List (List (Int × Int))} {rows : List (List Nat)} (h : XS w b B sv fv ss rs sets rows) {p : Nat} {cs : Array Value} {t : TypeId} (hp : Blk w p cs t) (h1 : t ≠ 53) (h2 : t ≠ 22) (h3 : t ≠ 50) : ¬ Mv b sv fv p := by
  rintro (rfl | e | e)
  · exact h1 (hp.same h.blk).2
  · obtain ⟨cs', hc⟩ := h.so.blk e
    exact h2 (hp.same hc).2
  · obtain ⟨cs', hc⟩ := h.fo.blk e
    exact h3 (hp.same hc).2

/-- The result's cells stored. -/
theorem told_put {w : World} {p : Nat} {a b c : Value} (h : Blk w p #[a, b, c] 89) (e : Bool) (x y : Sl) : Blk (((w.setCell ⟨p, 0, none⟩ (.bool e)).setCell ⟨p, 1, none⟩ (.slice x.a x.n x.c)).setCell ⟨p, 2, none⟩ (.slice y.a y.n y.c)) p #[.bool e, .slice x.a x.n x.c, .slice y.a y.n y.c] 89 := by
  have h1 := ((h.set 0 (.bool e)).set 1 (.slice x.a x.n x.c)).set 2 (.slice y.a y.n y.c)
  simpa using h1

theorem PX.one {w w9 : World} {b B : Nat} {sv fv sv' fv' u : Sl} {ss rs : List Sl} {sets : List (List (Int × Int))} {rows : List (List Nat)} {set m : List (Int × Int)} {p : Nat} {a0 a1 a2 : Value} (X9 : XS w9 b B sv' fv' (ss ++ [u]) (rs ++ [⟨none, 0, 0⟩]) (sets ++ [m]) (rows ++ [[]])) (F9 : Fx (Mv b sv fv) w w9)
    (mv : ∀ g, Mv b sv' fv' g → Mv b sv fv g ∨ w.heap.size ≤ g) (R9 : Blk w9 p #[a0, a1, a2] 89) (hp : p = w.heap.size) (NM : NormOf set m) (n : Nat) :
    PX w b B sv fv ss rs sets rows [set] (fun _ _ => False) (fun i => i = n) (fun i => i = n) sv' fv' ⟨some ⟨w9.heap.size, 0, none⟩, 1, 1⟩ ⟨some ⟨w9.heap.size + 1, 0, none⟩, 1, 1⟩ [u] [⟨none, 0, 0⟩] [m] [[]] [n] [n]
      (((((w9.setCell ⟨p, 0, none⟩ (.bool false)).setCell ⟨p, 1, none⟩ (.slice (some ⟨w9.heap.size, 0, none⟩) 1 1)).setCell ⟨p, 2, none⟩ (.slice (some ⟨w9.heap.size + 1, 0, none⟩) 1 1)).alloc (.cells #[.int .i64 n] 3)).alloc (.cells #[.int .i64 n] 3)) ∧
    Blk (((((w9.setCell ⟨p, 0, none⟩ (.bool false)).setCell ⟨p, 1, none⟩ (.slice (some ⟨w9.heap.size, 0, none⟩) 1 1)).setCell ⟨p, 2, none⟩ (.slice (some ⟨w9.heap.size + 1, 0, none⟩) 1 1)).alloc (.cells #[.int .i64 n] 3)).alloc (.cells #[.int .i64 n] 3)) p #[.bool false, .slice (some ⟨w9.heap.size, 0, none⟩) 1 1, .slice (some ⟨w9.heap.size + 1, 0, none⟩) 1 1] 89 := by
  have hps : p < w9.heap.size := R9.lt
  have h9 := F9.size
  have T := told_put R9 false ⟨some ⟨w9.heap.size, 0, none⟩, 1, 1⟩ ⟨some ⟨w9.heap.size + 1, 0, none⟩, 1, 1⟩
  have hne : (89 : TypeId) ≠ 53 ∧ (89 : TypeId) ≠ 22 ∧ (89 : TypeId) ≠ 50 ∧ (89 : TypeId) ≠ 78 ∧ (89 : TypeId) ≠ 3 := by decide
  have X12 := ((X9.other R9 hne 0 (.bool false)).other (R9.set 0 _) hne 1 (.slice (some ⟨w9.heap.size, 0, none⟩) 1 1)).other ((R9.set 0 _).set 1 _) hne 2 (.slice (some ⟨w9.heap.size + 1, 0, none⟩) 1 1)
  have F12 := ((F9.setCell (p := ⟨p, 0, none⟩) (by simp; omega) (.bool false)).setCell (p := ⟨p, 1, none⟩) (by simp; omega) (.slice (some ⟨w9.heap.size, 0, none⟩) 1 1)).setCell (p := ⟨p, 2, none⟩) (by simp; omega) (.slice (some ⟨w9.heap.size + 1, 0, none⟩) 1 1)
  have hsz : (((w9.setCell ⟨p, 0, none⟩ (.bool false)).setCell ⟨p, 1, none⟩ (.slice (some ⟨w9.heap.size, 0, none⟩) 1 1)).setCell ⟨p, 2, none⟩ (.slice (some ⟨w9.heap.size + 1, 0, none⟩) 1 1)).heap.size = w9.heap.size := by simp
  generalize hW : World.setCell _ _ _ = W at T X12 F12 hsz ⊢
  have q1 : Blk ((W.alloc (.cells #[.int .i64 n] 3)).alloc (.cells #[.int .i64 n] 3)) w9.heap.size #[.int .i64 n] 3 := (Blk.new' _ _ _ _ hsz.symm).alloc _
  have q2 : Blk ((W.alloc (.cells #[.int .i64 n] 3)).alloc (.cells #[.int .i64 n] 3)) (w9.heap.size + 1) #[.int .i64 n] 3 := Blk.new' _ _ _ _ (by simp [hsz])
  refine ⟨⟨X12.bel (((Below.refl _ _).alloc (Nat.le_refl _) _).alloc (by simp) _), (F12.alloc _).alloc _, mv, OwnX.lit (l := [n]) encI_len q1 rfl (by omega) (by simp), OwnX.lit (l := [n]) encI_len q2 rfl (by omega) (by simp), ⟨List.pairwise_singleton _ _, fun j => by simp⟩, ⟨List.pairwise_singleton _ _, fun j => by simp⟩, ⟨rfl, fun k s hk => ?_⟩, ⟨rfl, fun k L hk j => ?_⟩, fun k r g hk hg => ?_, fun g hg e => ?_⟩, (T.alloc _).alloc _⟩
  · cases k with
    | zero => simp at hk; subst hk; exact ⟨m, rfl, NM⟩
    | succ k => simp at hk
  · cases k with
    | zero => simp at hk; subst hk; simp
    | succ k => simp at hk
  · cases k with
    | zero => simp at hk; subst hk; cases hg
    | succ k => simp at hk
  · injection hg with hg
    injection e with e
    simp only at hg e
    omega

set_option maxRecDepth 100000 in
set_option maxHeartbeats 4000000 in
theorem one_any (kn : KN) (w : World) (b B : Nat) (sv fv : Sl) (ss rs : List Sl) (sets : List (List (Int × Int))) (rows : List (List Nat)) (v : Value) (set : List (Int × Int)) (hX : XS w b B sv fv ss rs sets rows) (hB : B ≤ w.heap.size) (hs : set.length ≤ 256) (hg : YtjjlkjfhhpogaaaDoorS1.Good set) (hv : RowS w v set) (hlr : sets.length = rows.length) (hl : sets.length + 1 ≤ 200) :
    Calls Tryd.prog 75 #[.pointer (some ⟨b, 0, none⟩), v] w fun e w' => PostX w b B sv fv ss rs sets rows false [set] (fun _ _ => False) (fun i => i = sets.length) (fun i => i = sets.length) e w' := by
  obtain ⟨N, hN⟩ : ∃ N : Nat, N = sets.length := ⟨_, rfl⟩
  have HX : Hid (XS w b B sv fv ss rs sets rows) := hX
  have HN : Hid (N = sets.length) := hN
  have kN := fun W (h : Below w.heap.size w W) => kn v set W hs hg (hv.bel h)
  obtain ⟨ao, cap, rfl⟩ := hv.form
  have c0 := hX.blk.c 0
  have hbl := hX.blk.lt
  have hn : sv.n = N := by
    obtain ⟨_, _, e⟩ := hX.so.form
    injection e with _ e _
    rw [e, hX.sl, hN]
  obtain ⟨sa, sn, sc⟩ := sv
  obtain ⟨fa, fn, fc⟩ := fv
  simp only at hn c0
  subst hn
  have hsl : ss.length = sn := by rw [hX.sl, hN]
  rw [show (#[Value.slice sa sn sc, Value.bool false, Value.slice none 0 0, Value.slice none 0 0, Value.slice fa fn fc] : Array Value)[0]? = some (.slice sa sn sc) from rfl] at c0
  have HP : Hid (sn ≤ 200) := by show _ ≤ _; omega
  rw [← hN] at hl ⊢
  have HLR : Hid (sn = rows.length) := hN.trans hlr
  have HRL : Hid (rs.length = rows.length) := hX.rl
  have hfn : fn = rs.length := by
    obtain ⟨_, _, e⟩ := hX.fo.form
    injection e
  clear hX hv hg hN hs hlr
  subst hsl
  subst hfn
  go_enter Tryd.func75, Tryd.ntmps75
  go_upto_region 2 with fail
  go_cut [] (fun wx => ∃ (g5 cap5 : Nat) (ua : Option Addr) (un uc : Nat) (m : List (Int × Int)), Hid (XS wx b B ⟨some ⟨g5, 0, none⟩, ss.length + 1, cap5⟩ ⟨fa, rs.length, fc⟩ (ss ++ [⟨ua, un, uc⟩]) rs (sets ++ [m]) rows) ∧ Hid (Fx (Mv b ⟨sa, ss.length, sc⟩ ⟨fa, rs.length, fc⟩) w wx) ∧ Hid (Blk wx w.heap.size #[.bool false, .slice none 0 0, .slice none 0 0] 89) ∧ Hid (NormOf set m) ∧ Hid ((Value.slice sa ss.length sc).ownBlock = some g5 ∨ w.heap.size ≤ g5))
  case first =>
   have B1 : Hid (Below w.heap.size w ((w.alloc (.cells #[.bool false, .slice none 0 0, .slice none 0 0] 89)).drewN 1)) := below_drewN ((Below.refl _ _).alloc (Nat.le_refl _) _) 1
   have R1 : Hid (Blk ((w.alloc (.cells #[.bool false, .slice none 0 0, .slice none 0 0] 89)).drewN 1) w.heap.size #[.bool false, .slice none 0 0, .slice none 0 0] 89) := Blk.new w _ _
   go_region_law
     (first
       | (go_simp; go_at_call 90; refine (kN _ B1.out).mono ?_; rintro _ w3 ⟨⟨ua, un, uc⟩, m, rfl, hn, own, bel⟩; have B3 : Hid (Below w.heap.size w w3) := bstep B1.out bel; have X3 : Hid (XS w3 b B ⟨sa, ss.length, sc⟩ ⟨fa, rs.length, fc⟩ ss rs sets rows) := HX.out.bel B3.out; have R3 : Hid (Blk w3 w.heap.size #[.bool false, .slice none 0 0, .slice none 0 0] 89) := R1.out.bel bel; have O3 : Hid (OwnX encS 2 78 B w3 (.slice ua un uc) m) := own.lower (by simp; omega); have NM : Hid (NormOf set m) := hn; clear own bel hn; have bl3 := X3.out.blk.lt; have c3 := X3.out.blk.c 0; simp only [List.getElem?_toArray, List.getElem?_cons_zero] at c3)
       | (refine step_appX1 info22 Tryd.underlying49 encSl_len oneSl rfl (by decide) (by decide) (by rfl) _ _ (by rfl) B (.slice sa ss.length sc) ss (by rfl) (X3.out.so.alloc _) ⟨ua, un, uc⟩ w3.heap.size (by rfl) _ (Blk.new _ _ _) (by rfl) (by have := HP.out; omega) (by have := B3.out.size; simp; omega) (w3.heap.size + 1) (by simp) ?_; intro g5 cap5 w5 ow5 gr5 hg5; have X4 := X3.out.bel ((Below.refl _ _).alloc (Nat.le_refl _) (.cells #[.slice ua un uc] 22)); have A5 := X4.addSet (O3.out.alloc _) ow5 gr5; have hb5 := X4.blkS gr5; have c5 := hb5.c 0; have f5 := hb5.frozen 0; simp only [List.getElem?_toArray, List.getElem?_cons_zero] at c5; clear X4 hb5; have HA5 : Hid _ := A5; have HG5 : Hid ((Value.slice sa ss.length sc).ownBlock = some g5 ∨ g5 = w3.heap.size + 1) := hg5; have HGR5 : Hid _ := gr5; clear A5 ow5 gr5 hg5))
   all_goals
     obtain ⟨X6, F6⟩ := HA5.out
     have FX6 := (Fx.bel (M := Mv b ⟨sa, ss.length, sc⟩ ⟨fa, rs.length, fc⟩) (B3.out.alloc B3.out.size (.cells #[.slice ua un uc] 22))).trans F6 fun g _ e => e
     have hs6 := B3.out.size
     have X4 : XS (w3.alloc (.cells #[.slice ua un uc] 22)) b B ⟨sa, ss.length, sc⟩ ⟨fa, rs.length, fc⟩ ss rs sets rows := X3.out.bel ((Below.refl _ _).alloc (Nat.le_refl _) _)
     have R4 : Blk (w3.alloc (.cells #[.slice ua un uc] 22)) w.heap.size #[.bool false, .slice none 0 0, .slice none 0 0] 89 := R3.out.alloc _
     have R6 : Blk (w5.setCell ⟨b, 0, none⟩ (.slice (some ⟨g5, 0, none⟩) (ss.length + 1) cap5)) w.heap.size #[.bool false, .slice none 0 0, .slice none 0 0] 89 := (F6.block w.heap.size R4.lt (X4.notMv R4 (by decide) (by decide) (by decide))).trans R4
     go_wp2_with fail
     go_meet
     exact ⟨g5, cap5, ua, un, uc, m, X6, FX6, R6, NM, HG5.out.imp id fun h => by omega⟩
  case rest =>
    clear kN
    obtain ⟨g5, cap5, ua, un, uc, m, HX6, HF6, HR6, NM, HG5⟩ := hcut
    have c6 := HX6.out.blk.c 4
    simp only [List.getElem?_toArray, List.getElem?_cons_zero, List.getElem?_cons_succ] at c6
    have bl6 := HX6.out.blk.lt
    have hbp : w.heap.size ≠ b := by omega
    have hbp2 : b ≠ w.heap.size := by omega
    go_wp2_with (refine wp_appX info50 Tryd.underlying51 encSl_len oneSl rfl (by decide) (by decide) (by rfl) _ _ (by rfl) B (.slice fa rs.length fc) rs (by rfl) (HX6.out.fo.alloc _) ⟨none, 0, 0⟩ wc.heap.size (by rfl) _ (Blk.new _ _ _) (by rfl) (by have := HP.out; have := HLR.out; have := HRL.out; omega) (by have := HF6.out.size; simp; omega) ?_; intro g8 cap8 w8 o8 gr8 hg8 hlt8; have X7 := HX6.out.bel ((Below.refl _ _).alloc (Nat.le_refl _) (.cells #[.slice none 0 0] 50)); have HA8 : Hid _ := X7.addRow o8 gr8; have hb8 := X7.blkF gr8; have c8 := hb8.c 4; have f8 := hb8.frozen 4; simp only [List.getElem?_toArray, List.getElem?_cons_zero, List.getElem?_cons_succ] at c8; have HR8 : Hid (Blk w8 w.heap.size #[.bool false, .slice none 0 0, .slice none 0 0] 89) := (gr8.block _ (HR6.out.alloc _).lt (fun e => (X7.notMv (HR6.out.alloc _) (by decide) (by decide) (by decide)) (Or.inr (Or.inr e.symm)))).trans (HR6.out.alloc _); have r0 := HR8.out.c 0; have r1 := HR8.out.c 1; have r2 := HR8.out.c 2; have rf := HR8.out.frozen; have rl8 := HR8.out.lt; simp only [List.getElem?_toArray, List.getElem?_cons_zero, List.getElem?_cons_succ] at r0 r1 r2; have HG8 : Hid ((Value.slice fa rs.length fc).ownBlock = some g8 ∨ g8 = wc.heap.size + 1) := (by show _ ∨ _; simpa using hg8); have bl8 := hb8.lt; clear X7 gr8 o8 hg8 hb8)
    obtain ⟨X9, F9⟩ := HA8.out
    have FX9 := (HF6.out.alloc _).trans F9 fun g hg e => by
      rcases e with e | e | e
      · exact Or.inl e
      · injection e with e
        rcases HG5.out with h | h
        · exact Or.inr (Or.inl (h.trans (congrArg some e)))
        · simp only at e; omega
      · exact Or.inr (Or.inr e)
    have hs6' := HF6.out.size
    have mv : ∀ g, Mv b ⟨some ⟨g5, 0, none⟩, ss.length + 1, cap5⟩ ⟨some ⟨g8, 0, none⟩, rs.length + 1, cap8⟩ g → Mv b ⟨sa, ss.length, sc⟩ ⟨fa, rs.length, fc⟩ g ∨ w.heap.size ≤ g := fun g e => by
      rcases e with e | e | e
      · exact Or.inl (Or.inl e)
      · injection e with e
        rcases HG5.out with h | h
        · exact Or.inl (Or.inr (Or.inl (h.trans (congrArg some e))))
        · simp only at e; right; omega
      · injection e with e
        rcases HG8.out with h | h
        · exact Or.inl (Or.inr (Or.inr (h.trans (congrArg some e))))
        · simp only at e; right; omega
    have R9 := HR8.out.other (p := ⟨b, 4, none⟩) hbp (.slice (some ⟨g8, 0, none⟩) (rs.length + 1) cap8)
    have P9 := PX.one X9 FX9 mv R9 rfl NM.out ss.length
    have e9 : (w8.setCell ⟨b, 4, none⟩ (.slice (some ⟨g8, 0, none⟩) (rs.length + 1) cap8)).heap.size = w8.heap.size := by simp
    rw [e9] at P9
    obtain ⟨P10, T⟩ := P9
    refine bodyPost_ret (v := .agg #[.bool false, .slice (some ⟨w8.heap.size, 0, none⟩) 1 1, .slice (some ⟨w8.heap.size + 1, 0, none⟩) 1 1]) ?_ rfl ⟨_, _, ⟨some ⟨w8.heap.size, 0, none⟩, 1, 1⟩, ⟨some ⟨w8.heap.size + 1, 0, none⟩, 1, 1⟩, _, _, _, _, _, _, rfl, P10⟩
    simp [results, Tryd.results75]
    exact run_told (x := ⟨some ⟨w8.heap.size, 0, none⟩, 1, 1⟩) (y := ⟨some ⟨w8.heap.size + 1, 0, none⟩, 1, 1⟩) T
end Go.Proofs.YtjjlkjfhhpogaaaDoor
