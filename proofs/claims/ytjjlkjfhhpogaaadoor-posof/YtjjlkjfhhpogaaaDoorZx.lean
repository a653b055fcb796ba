/-
  What comes of a part by the document's way; the walks of its 'of', of a One and of a Star.
-/
import Derived.Test.YtjjlkjfhhpogaaaDoorZy
import Derived.Test.YtjjlkjfhhpogaaaDoorXp
import Derived.Deep.RegionLaw
import Derived.Deep.DeepCutAuto
namespace Go.Proofs.YtjjlkjfhhpogaaaDoor
open Go.RowKit

/-- A set in its one form, as the document has it. -/
def NormR (s m : List (Int × Int)) : Prop := YtjjlkjfhhpogaaaDoorS1.NF m ∧ (∀ n, 0 ≤ n → n ≤ 4294967295 → inSet m n = inSet s n) ∧ m.length ≤ 10000
def SetsR (S sets : List (List (Int × Int))) : Prop := sets.length = S.length ∧ ∀ (k : Nat) s, S[k]? = some s → ∃ m, sets[k]? = some m ∧ NormR s m
theorem SetsR.append {A B a b : List (List (Int × Int))} (h : SetsR A a) (k : SetsR B b) : SetsR (A ++ B) (a ++ b) := by
  refine ⟨by rw [List.length_append, List.length_append, h.1, k.1], fun j s hj => ?_⟩
  by_cases c : j < A.length
  · rw [List.getElem?_append_left c] at hj
    rw [List.getElem?_append_left (by rw [h.1]; exact c)]
    exact h.2 j s hj
  · rw [List.getElem?_append_right (by omega)] at hj
    rw [List.getElem?_append_right (by rw [h.1]; omega), h.1]
    exact k.2 _ s hj

/-- What the document's Norm does. -/
def RNK : Prop := ∀ (v : Value) (l : List (Int × Int)) (W : World), l.length ≤ 256 → YtjjlkjfhhpogaaaDoorS1.Good l → RowS W v l →
  Calls Tryd.prog 79 #[v] W fun e w' => ∃ (u : Sl) (m : List (Int × Int)), e = .returned (.slice u.a u.n u.c) ∧ NormR l m ∧ OwnX encS 2 78 W.heap.size w' (.slice u.a u.n u.c) m ∧ Below W.heap.size W w'

/-- What comes of a part: its positions stand behind those so far; the rows of First and Last. -/
structure RX (w : World) (b B N : Nat) (sv fv : Sl) (ss : List Sl) (sets : List (List (Int × Int))) (fs : List (List Bool)) (S : List (List (Int × Int))) (F : Nat → Nat → Prop) (Fi La : Nat → Prop)
    (sv' : Sl) (ss' rs' : List Sl) (sets' : List (List (Int × Int))) (fs' : List (List Bool)) (gf gl : Nat) (Bf Bl : List Bool) (w' : World) : Prop where
  rs : RS w' b B N sv' fv (ss ++ ss') rs' (sets ++ sets') fs'
  fx : Fx (Mv b sv fv) w w'
  mv : ∀ g, (Sl.v sv').ownBlock = some g → (Sl.v sv).ownBlock = some g ∨ w.heap.size ≤ g
  sts : SetsR S sets'
  fol : ∀ i j, OnF fs' i j ↔ OnF fs i j ∨ F i j
  bf : Blk w' gf (brow Bf) 4
  lf : Bf.length = N
  onf : ∀ j, On Bf j ↔ Fi j
  bl : Blk w' gl (brow Bl) 4
  ll : Bl.length = N
  onl : ∀ j, On Bl j ↔ La j

def PostR (w : World) (b B N : Nat) (sv fv : Sl) (ss : List Sl) (sets : List (List (Int × Int))) (fs : List (List Bool)) (E : Bool) (S : List (List (Int × Int))) (F : Nat → Nat → Prop) (Fi La : Nat → Prop) (e : Ending) (w' : World) : Prop :=
  ∃ (sv' : Sl) (ss' rs' : List Sl) (sets' : List (List (Int × Int))) (fs' : List (List Bool)) (gf gl : Nat) (Bf Bl : List Bool),
    e = .returned (.agg #[.bool E, .slice (some ⟨gf, 0, none⟩) N N, .slice (some ⟨gl, 0, none⟩) N N]) ∧ RX w b B N sv fv ss sets fs S F Fi La sv' ss' rs' sets' fs' gf gl Bf Bl w'

/-- What 'of' does with a pattern. -/
def CPR (w0 : World) (N : Nat) (t : Tree) : Prop := ∀ (w : World) (b B : Nat) (sv fv : Sl) (ss rs : List Sl) (sets : List (List (Int × Int))) (fs : List (List Bool)) (x : PC),
  RS w b B N sv fv ss rs sets fs → B ≤ w.heap.size → w0.heap.size ≤ B → Below w0.heap.size w0 w → HT w0 t x → kindsT t = true → size t ≤ 200 → goodT t → sets.length + ones t ≤ N →
  Calls Tryd.prog 56 #[.pointer (some ⟨b, 0, none⟩), x.v] w (PostR w b B N sv fv ss sets fs (emp t) (setsT t) (Fol t sets.length) (Fir t sets.length) (Las t sets.length))

section
variable {w wr w3 w4 w' : World} {b B N : Nat} {sv fv : Sl} {ss rs : List Sl} {sets : List (List (Int × Int))} {fs : List (List Bool)} {S S2 : List (List (Int × Int))} {F F2 : Nat → Nat → Prop} {Fi La Fi2 La2 : Nat → Prop}
  {sv1 sv2 : Sl} {ss1 rs1 ss2 rs2 rs3 : List Sl} {sets1 sets2 : List (List (Int × Int))} {fs1 fs2 fs3 : List (List Bool)} {gf gl gf2 gl2 : Nat} {Bf Bl Bf2 Bl2 A C : List Bool}

theorem RX.bel (h : RX w b B N sv fv ss sets fs S F Fi La sv1 ss1 rs1 sets1 fs1 gf gl Bf Bl wr) (k : Below wr.heap.size wr w') : RX w b B N sv fv ss sets fs S F Fi La sv1 ss1 rs1 sets1 fs1 gf gl Bf Bl w' :=
  ⟨h.rs.bel k, h.fx.trans (Fx.bel (M := fun _ => False) k) fun _ _ e => e.elim, h.mv, h.sts, h.fol, h.bf.bel k, h.lf, h.onf, h.bl.bel k, h.ll, h.onl⟩
theorem RX.blk (h : RX w b B N sv fv ss sets fs S F Fi La sv1 ss1 rs1 sets1 fs1 gf gl Bf Bl wr) (h0 : RS w b B N sv fv ss rs sets fs) {p : Nat} {cs : Array Value} {t : TypeId} (hp : Blk w p cs t) (h1 : t ≠ 95) (h2 : t ≠ 22) (h3 : t ≠ 96) : Blk wr p cs t :=
  (h.fx.block p hp.lt (h0.notMv hp h1 h2 h3)).trans hp
/-- A store into a new block of another kind. -/
theorem RX.other (h : RX w b B N sv fv ss sets fs S F Fi La sv1 ss1 rs1 sets1 fs1 gf gl Bf Bl wr) {p : Nat} {cs : Array Value} {t : TypeId} (hp : Blk wr p cs t) (ht : t ≠ 95 ∧ t ≠ 22 ∧ t ≠ 96 ∧ t ≠ 78 ∧ t ≠ 4) (hn : w.heap.size ≤ p) (i : Nat) (v : Value) :
    RX w b B N sv fv ss sets fs S F Fi La sv1 ss1 rs1 sets1 fs1 gf gl Bf Bl (wr.setCell ⟨p, i, none⟩ v) := by
  have n4 : ∀ g cs', Blk wr g cs' 4 → g ≠ p := fun g cs' hb e => by
    subst e
    exact ht.2.2.2.2 (hp.same hb).2
  exact ⟨h.rs.other hp ht i v, h.fx.setCell (p := ⟨p, i, none⟩) (fun e => by simp only at e; omega) v, h.mv, h.sts, h.fol, h.bf.other (p := ⟨p, i, none⟩) (n4 _ _ h.bf) v, h.lf, h.onf, h.bl.other (p := ⟨p, i, none⟩) (n4 _ _ h.bl) v, h.ll, h.onl⟩
/-- A part more. -/
theorem RX.part (h : RX w b B N sv fv ss sets fs S F Fi La sv1 ss1 rs1 sets1 fs1 gf gl Bf Bl wr) (k : RX wr b B N sv1 fv (ss ++ ss1) (sets ++ sets1) fs1 S2 F2 Fi2 La2 sv2 ss2 rs2 sets2 fs2 gf2 gl2 Bf2 Bl2 w3) :
    RX w b B N sv fv ss sets fs (S ++ S2) (fun i j => F i j ∨ F2 i j) Fi La sv2 (ss1 ++ ss2) rs2 (sets1 ++ sets2) fs2 gf gl Bf Bl w3 := by
  refine ⟨?_, h.fx.trans k.fx fun g hg e => ?_, fun g e => ?_, h.sts.append k.sts, fun i j => ?_, (k.fx.block _ h.bf.lt (h.rs.notMv h.bf (by decide) (by decide) (by decide))).trans h.bf, h.lf, h.onf, (k.fx.block _ h.bl.lt (h.rs.notMv h.bl (by decide) (by decide) (by decide))).trans h.bl, h.ll, h.onl⟩
  · have := k.rs
    rw [List.append_assoc, List.append_assoc] at this
    exact this
  · rcases e with e | e | e
    · exact Or.inl e
    · rcases h.mv g e with e | e
      · exact Or.inr (Or.inl e)
      · omega
    · exact Or.inr (Or.inr e)
  · rcases k.mv g e with e | e
    · exact h.mv g e
    · right; have := h.fx.size; omega
  · rw [k.fol, h.fol, or_assoc]
/-- Behind each of some comes each of some others. -/
theorem RX.behind (h : RX w b B N sv fv ss sets fs S F Fi La sv1 ss1 rs1 sets1 fs1 gf gl Bf Bl wr) (k : BI wr b B N sv1 fv (ss ++ ss1) rs1 (sets ++ sets1) fs1 A C N rs3 fs3 w4) (hA : A.length = N) :
    RX w b B N sv fv ss sets fs S (fun i j => F i j ∨ (On A i ∧ On C j)) Fi La sv1 ss1 rs3 sets1 fs3 gf gl Bf Bl w4 := by
  refine ⟨k.rs, h.fx.trans k.fx fun g hg e => ?_, h.mv, h.sts, fun i j => ?_, (k.fx.block _ h.bf.lt (h.rs.notMv h.bf (by decide) (by decide) (by decide))).trans h.bf, h.lf, h.onf, (k.fx.block _ h.bl.lt (h.rs.notMv h.bl (by decide) (by decide) (by decide))).trans h.bl, h.ll, h.onl⟩
  · rcases e with e | e | e
    · exact Or.inl e
    · rcases h.mv g e with e | e
      · exact Or.inr (Or.inl e)
      · omega
    · exact Or.inr (Or.inr e)
  · rw [k.on, h.fol, or_assoc]
    constructor
    · rintro (h | h | ⟨_, h⟩)
      · exact Or.inl h
      · exact Or.inr (Or.inl h)
      · exact Or.inr (Or.inr h)
    · rintro (h | h | h)
      · exact Or.inl h
      · exact Or.inr (Or.inl h)
      · exact Or.inr (Or.inr ⟨by have := on_lt h.1; omega, h⟩)
/-- Another First. -/
theorem RX.withF (h : RX w b B N sv fv ss sets fs S F Fi La sv1 ss1 rs1 sets1 fs1 gf gl Bf Bl wr) (hb : Blk wr gf2 (brow Bf2) 4) (hl : Bf2.length = N) (ho : ∀ j, On Bf2 j ↔ Fi2 j) : RX w b B N sv fv ss sets fs S F Fi2 La sv1 ss1 rs1 sets1 fs1 gf2 gl Bf2 Bl wr :=
  ⟨h.rs, h.fx, h.mv, h.sts, h.fol, hb, hl, ho, h.bl, h.ll, h.onl⟩
/-- Another Last. -/
theorem RX.withL (h : RX w b B N sv fv ss sets fs S F Fi La sv1 ss1 rs1 sets1 fs1 gf gl Bf Bl wr) (hb : Blk wr gl2 (brow Bl2) 4) (hl : Bl2.length = N) (ho : ∀ j, On Bl2 j ↔ La2 j) : RX w b B N sv fv ss sets fs S F Fi La2 sv1 ss1 rs1 sets1 fs1 gf gl2 Bf Bl2 wr :=
  ⟨h.rs, h.fx, h.mv, h.sts, h.fol, h.bf, h.lf, h.onf, hb, hl, ho⟩
/-- From an elder world on. -/
theorem RX.lower (hb : Below w.heap.size w w') (h : RX w' b B N sv fv ss sets fs S F Fi La sv1 ss1 rs1 sets1 fs1 gf gl Bf Bl wr) : RX w b B N sv fv ss sets fs S F Fi La sv1 ss1 rs1 sets1 fs1 gf gl Bf Bl wr :=
  ⟨h.rs, (Fx.bel (M := fun _ => False) hb).mono (fun _ e => e.elim) |>.trans h.fx fun _ _ e => e, fun g e => (h.mv g e).imp id fun e => by have := hb.size; omega, h.sts, h.fol, h.bf, h.lf, h.onf, h.bl, h.ll, h.onl⟩
/-- The same, told otherwise. -/
theorem RX.told (h : RX w b B N sv fv ss sets fs S F Fi La sv1 ss1 rs1 sets1 fs1 gf gl Bf Bl wr) (e0 : S = S2) (e1 : ∀ i j, F i j ↔ F2 i j) (e2 : ∀ j, Fi j ↔ Fi2 j) (e3 : ∀ j, La j ↔ La2 j) : RX w b B N sv fv ss sets fs S2 F2 Fi2 La2 sv1 ss1 rs1 sets1 fs1 gf gl Bf Bl wr := by
  subst e0
  exact ⟨h.rs, h.fx, h.mv, h.sts, fun i j => by rw [h.fol, e1], h.bf, h.lf, fun j => (h.onf j).trans (e2 j), h.bl, h.ll, fun j => (h.onl j).trans (e3 j)⟩
/-- Nothing yet. -/
theorem RX.start (h : RS w' b B N sv fv ss rs sets fs) (hb : Below w.heap.size w w') (hn : Blk w' gf (brow (List.replicate N false)) 4) :
    RX w b B N sv fv ss sets fs [] (fun _ _ => False) (fun _ => False) (fun _ => False) sv [] rs [] fs gf gf (List.replicate N false) (List.replicate N false) w' :=
  ⟨by simpa using h, Fx.bel hb, fun g e => Or.inl e, ⟨rfl, fun k s hk => by simp at hk⟩, fun i j => by simp, hn, by simp, fun j => ⟨fun h => on_false _ _ h, fun h => h.elim⟩, hn, by simp, fun j => ⟨fun h => on_false _ _ h, fun h => h.elim⟩⟩

theorem part8_put {p : Nat} {a b c : Value} (h : Blk w p #[a, b, c] 98) (e : Bool) (x y : Sl) : Blk (((w.setCell ⟨p, 0, none⟩ (.bool e)).setCell ⟨p, 1, none⟩ (.slice x.a x.n x.c)).setCell ⟨p, 2, none⟩ (.slice y.a y.n y.c)) p #[.bool e, .slice x.a x.n x.c, .slice y.a y.n y.c] 98 := by
  have h1 := ((h.set 0 (.bool e)).set 1 (.slice x.a x.n x.c)).set 2 (.slice y.a y.n y.c)
  simpa using h1
theorem run_part8 {p : Nat} {e : Bool} {x y : Sl} (h : Blk w p #[.bool e, .slice x.a x.n x.c, .slice y.a y.n y.c] 98) : (loadVar 98 ⟨p, 0, none⟩).run Tryd.prog w = .ok (.agg #[.bool e, .slice x.a x.n x.c, .slice y.a y.n y.c]) w := run_loadVar_row w p 98 98 _ (0, 0) _ h Tryd.underlying98 rfl (by kernel_rfl)
theorem ne98 : (98 : TypeId) ≠ 95 ∧ (98 : TypeId) ≠ 22 ∧ (98 : TypeId) ≠ 96 ∧ (98 : TypeId) ≠ 78 ∧ (98 : TypeId) ≠ 4 := by decide
/-- The result's cells stored. -/
theorem RX.put (h : RX w b B N sv fv ss sets fs S F Fi La sv1 ss1 rs1 sets1 fs1 gf gl Bf Bl wr) {p : Nat} {a0 a1 a2 : Value} (hp : Blk wr p #[a0, a1, a2] 98) (hn : w.heap.size ≤ p) (E : Bool) (x y : Sl) :
    RX w b B N sv fv ss sets fs S F Fi La sv1 ss1 rs1 sets1 fs1 gf gl Bf Bl (((wr.setCell ⟨p, 0, none⟩ (.bool E)).setCell ⟨p, 1, none⟩ (.slice x.a x.n x.c)).setCell ⟨p, 2, none⟩ (.slice y.a y.n y.c)) ∧
    Blk (((wr.setCell ⟨p, 0, none⟩ (.bool E)).setCell ⟨p, 1, none⟩ (.slice x.a x.n x.c)).setCell ⟨p, 2, none⟩ (.slice y.a y.n y.c)) p #[.bool E, .slice x.a x.n x.c, .slice y.a y.n y.c] 98 :=
  ⟨((h.other hp ne98 hn 0 _).other (hp.set 0 _) ne98 hn 1 _).other ((hp.set 0 _).set 1 _) ne98 hn 2 _, part8_put hp E x y⟩
end

/-- Behind the entry: the pattern in its box, the result's block, an empty row. -/
structure EN (w : World) (b B N : Nat) (sv fv : Sl) (ss rs : List Sl) (sets : List (List (Int × Int))) (fs : List (List Bool)) (x : PC) (W : World) : Prop where
  bel : Below w.heap.size w W
  rs : RS W b B N sv fv ss rs sets fs
  box : Blk W w.heap.size (encT x).toArray 25
  res : Blk W (w.heap.size + 1) #[.bool false, .slice none 0 0, .slice none 0 0] 98
  non : Blk W (w.heap.size + 2) (brow (List.replicate N false)) 4

theorem EN.of {w : World} {b B N : Nat} {sv fv : Sl} {ss rs : List Sl} {sets : List (List (Int × Int))} {fs : List (List Bool)} (h : RS w b B N sv fv ss rs sets fs) (x : PC) :
    EN w b B N sv fv ss rs sets fs x (((w.alloc (.cells (encT x).toArray 25)).alloc (.cells #[.bool false, .slice none 0 0, .slice none 0 0] 98)).alloc (.cells (brow (List.replicate N false)) 4)) := by
  have hb : Below w.heap.size w (((w.alloc (.cells (encT x).toArray 25)).alloc (.cells #[.bool false, .slice none 0 0, .slice none 0 0] 98)).alloc (.cells (brow (List.replicate N false)) 4)) := (((Below.refl _ _).alloc (Nat.le_refl _) _).alloc (by simp) _).alloc (by simp; omega) _
  exact ⟨hb, h.bel hb, ((Blk.new _ _ _).alloc _).alloc _, (Blk.new' _ _ _ _ (by simp)).alloc _, Blk.new' _ _ _ _ (by simp)⟩

set_option maxRecDepth 100000 in
set_option maxHeartbeats 8000000 in
theorem of8_one (rn : RNK) (w0 : World) (N : Nat) (hN : N ≤ 200) (set : List (Int × Int)) (subs : List Tree) : CPR w0 N (.mk 1 set subs) := by
  intro w b B sv fv ss rs sets fs x hX hB hw h0 hT hk hsz hg hl
  obtain ⟨k, set', subs', xs, sa, sc, ba, bc, he, rfl, hS, hR, hs⟩ := hT.parts
  injection he with e1 e2 e3
  subst e1 e2 e3
  rw [kindsT_mk] at hk
  simp only [Bool.and_eq_true] at hk
  rw [goodT_mk] at hg
  have hlen : set.length ≤ 256 := by
    rcases okAlone_cases hk.1 with ⟨_, _, h3⟩ | ⟨e, _⟩ | ⟨e, _⟩ | ⟨e, _⟩
    · exact h3
    · omega
    · omega
    · omega
  have e1 : emp (.mk 1 set subs) = false := by rw [emp_mk, if_pos rfl]
  have e2 : setsT (.mk 1 set subs) = [set] := by rw [setsT_mk, if_pos rfl]
  have e3 : Fol (.mk 1 set subs) sets.length = fun _ _ => False := by funext i j; rw [Fol, if_pos rfl]
  have e4 : Fir (.mk 1 set subs) sets.length = fun i => i = sets.length := by funext i; rw [Fir, if_pos rfl]
  have e5 : Las (.mk 1 set subs) sets.length = fun i => i = sets.length := by funext i; rw [Las, if_pos rfl]
  rw [e1, e2, e3, e4, e5]
  rw [ones_mk, if_pos rfl] at hl
  have HEN := EN.of hX ⟨1, ⟨sa, set.length, sc⟩, ⟨ba, subs.length, bc⟩⟩
  have hn : sv.n = sets.length := by
    obtain ⟨_, _, e⟩ := hX.so.form
    injection e with _ e _
    rw [e, hX.sl]
  have HX : Hid (RS w b B N sv fv ss rs sets fs) := hX
  have kN := fun W (h : Below w0.heap.size w0 W) => rn (.slice sa set.length sc) set W hlen hg.1 (hS.bel h)
  have H0 : Hid (Below w0.heap.size w0 w) := h0
  have HB : Hid (w0.heap.size ≤ w.heap.size ∧ B ≤ w.heap.size) := ⟨by omega, hB⟩
  obtain ⟨n, hn2⟩ : ∃ n, n = sets.length := ⟨_, rfl⟩
  have HNS : Hid (n = sets.length) := hn2
  have HSL : Hid (ss.length = n) := by show _ = _; rw [hX.sl, hn2]
  rw [← hn2] at hn hl ⊢
  obtain ⟨sva, svn, svc⟩ := sv
  simp only at hn
  subst hn
  have mk : ∀ W : World, (Instr.makeSlice 96 (.int .i64 N) (.int .i64 N)).run Tryd.prog W = .ok (.slice (some ⟨W.heap.size, 0, none⟩) N N) (W.alloc (.cells (brow (List.replicate N false)) 4)) := fun W => make4 N (by omega) W
  have q0 := hX.blk.c 0
  have hbl := hX.blk.lt
  simp only [List.getElem?_toArray, List.getElem?_cons_zero] at q0
  generalize set.length = sl at *
  generalize subs.length = bl at *
  clear hX hB hw h0 hT hk hsz hg hS hR hs e1 e2 e3 e4 e5 hn2 hlen
  go_enter Tryd.func56, Tryd.ntmps56
  go_upto_region 2 with fail
  generalize hW : World.alloc _ _ = W2
  have HE : Hid (EN w b B N ⟨sva, svn, svc⟩ fv ss rs sets fs ⟨1, ⟨sa, sl, sc⟩, ⟨ba, bl, bc⟩⟩ W2) := by rw [← hW]; exact HEN
  clear hW HEN q0
  obtain ⟨x0, x1, x2⟩ := BlkT.cs HE.out.box
  have q1 := HE.out.rs.blk.c 1
  have q0 := HE.out.rs.blk.c 0
  have hbl2 := HE.out.rs.blk.lt
  simp only [List.getElem?_toArray, List.getElem?_cons_zero, List.getElem?_cons_succ] at x0 x1 x2 q0 q1
  go_upto_region 5 with fail
  go_cut [] (fun wx => ∃ (g5 cap5 : Nat) (ua : Option Addr) (un uc : Nat) (m : List (Int × Int)), Hid (RS wx b B N ⟨some ⟨g5, 0, none⟩, ss.length + 1, cap5⟩ fv (ss ++ [⟨ua, un, uc⟩]) rs (sets ++ [m]) fs) ∧ Hid (Fx (Mv b ⟨sva, svn, svc⟩ fv) w wx) ∧ Hid (Blk wx (w.heap.size + 1) #[.bool false, .slice none 0 0, .slice none 0 0] 98) ∧ Hid (NormR set m) ∧ Hid ((Value.slice sva svn svc).ownBlock = some g5 ∨ w.heap.size ≤ g5))
  case first =>
   have B1 : Hid (Below w.heap.size w (W2.drewN 1)) := below_drewN HE.out.bel 1
   have hsz2 := HE.out.bel.size
   have E1 : Hid (EN w b B N ⟨sva, svn, svc⟩ fv ss rs sets fs ⟨1, ⟨sa, sl, sc⟩, ⟨ba, bl, bc⟩⟩ (W2.drewN 1)) := ⟨B1.out, HE.out.rs.bel (below_drewN (Below.refl _ _) 1), HE.out.box.drewN 1, HE.out.res.drewN 1, HE.out.non.drewN 1⟩
   go_region_law
     (first
       | (go_simp; go_at_call 79; refine (kN _ (H0.out.trans (B1.out.mono HB.out.1))).mono ?_; rintro _ w3 ⟨⟨ua, un, uc⟩, m, rfl, hn, own, bel⟩; have B3 : Hid (Below w.heap.size w w3) := bstep B1.out bel; have X3 : Hid (RS w3 b B N ⟨sva, svn, svc⟩ fv ss rs sets fs) := E1.out.rs.bel bel; have R3 : Hid (Blk w3 (w.heap.size + 1) #[.bool false, .slice none 0 0, .slice none 0 0] 98) := E1.out.res.bel bel; have O3 : Hid (OwnX encS 2 78 B w3 (.slice ua un uc) m) := own.lower (by have := B1.out.size; have := HB.out.2; omega); have NM : Hid (NormR set m) := hn; clear own bel hn; have bl3 := X3.out.blk.lt; have c3 := X3.out.blk.c 1; simp only [List.getElem?_toArray, List.getElem?_cons_zero, List.getElem?_cons_succ] at c3)
       | (refine step_appX1 info22 Tryd.underlying49 encSl_len oneSl rfl (by decide) (by decide) (by rfl) _ _ (by rfl) B (.slice sva svn svc) ss (by rfl) (X3.out.so.alloc _) ⟨ua, un, uc⟩ w3.heap.size (by rfl) _ (Blk.new _ _ _) (by rfl) (by have := HSL.out; omega) (by have := B3.out.size; have := HB.out.2; simp; omega) (w3.heap.size + 1) (by simp) ?_; intro g5 cap5 w5 ow5 gr5 hg5; have X4 := X3.out.bel ((Below.refl _ _).alloc (Nat.le_refl _) (.cells #[.slice ua un uc] 22)); have A5 := X4.addSet (O3.out.alloc _) ow5 gr5; have hb5 : Blk w5 b _ 95 := (gr5.block b X4.blk.lt fun e => by obtain ⟨cs', hc⟩ := X4.so.blk e.symm; exact absurd (hc.same X4.blk).2 (by decide)).trans X4.blk; have c5 := hb5.c 1; have f5 := hb5.frozen 1; simp only [List.getElem?_toArray, List.getElem?_cons_zero, List.getElem?_cons_succ] at c5; clear X4 hb5; have HA5 : Hid _ := A5; have HG5 : Hid ((Value.slice sva svn svc).ownBlock = some g5 ∨ g5 = w3.heap.size + 1) := hg5; have HGR5 : Hid _ := gr5; clear A5 ow5 gr5 hg5))
   all_goals
     obtain ⟨X6, F6⟩ := HA5.out
     have FX6 := (Fx.bel (M := Mv b ⟨sva, svn, svc⟩ fv) (B3.out.alloc B3.out.size (.cells #[.slice ua un uc] 22))).trans F6 fun g _ e => e
     have hs6 := B3.out.size
     have X4 : RS (w3.alloc (.cells #[.slice ua un uc] 22)) b B N ⟨sva, svn, svc⟩ fv ss rs sets fs := X3.out.bel ((Below.refl _ _).alloc (Nat.le_refl _) _)
     have R4 : Blk (w3.alloc (.cells #[.slice ua un uc] 22)) (w.heap.size + 1) #[.bool false, .slice none 0 0, .slice none 0 0] 98 := R3.out.alloc _
     have R6 : Blk (w5.setCell ⟨b, 1, none⟩ (.slice (some ⟨g5, 0, none⟩) (ss.length + 1) cap5)) (w.heap.size + 1) #[.bool false, .slice none 0 0, .slice none 0 0] 98 := (F6.block (w.heap.size + 1) R4.lt (X4.notMv R4 (by decide) (by decide) (by decide))).trans R4
     go_wp2_with fail
     go_meet
     exact ⟨g5, cap5, ua, un, uc, m, X6, FX6, R6, NM, HG5.out.imp id fun h => by omega⟩
  case rest =>
    clear kN x0 x1 x2 q0 q1
    obtain ⟨g5, cap5, ua, un, uc, m, HX6, HF6, HR6, NM, HG5⟩ := hcut
    have q0 := HX6.out.blk.c 0
    simp only [List.getElem?_toArray, List.getElem?_cons_zero] at q0
    have hsz6 := HF6.out.size
    go_upto_region 7 with fail
    generalize hW : World.alloc _ _ = W7
    have B7 : Hid (Below wc.heap.size wc W7) := by rw [← hW]; exact (Below.refl _ _).alloc (Nat.le_refl _) _
    have HO7 : Hid (Blk W7 wc.heap.size (brow (List.replicate N false)) 4) := by rw [← hW]; exact Blk.new _ _ _
    have hz : (List.replicate N false)[svn]? = some false := by rw [List.getElem?_replicate, if_pos (by omega)]
    have o0 := brow_at HO7.out hz
    have of := HO7.out.frozen
    have hnN : (svn : Int) < N := by omega
    clear hz hW q0 mk
    go_upto_region 8 with fail
    generalize hW8 : World.setCell _ _ _ = W8
    have B8 : Hid (Below wc.heap.size wc W8) := by rw [← hW8]; exact B7.out.setCell (p := ⟨wc.heap.size, svn, none⟩) (Nat.le_refl _) _
    have HO8 : Hid (Blk W8 wc.heap.size (brow ((List.replicate N false).set svn true)) 4) := by rw [← hW8]; exact brow_set HO7.out (by simp; omega) true
    have HR8 : Hid (Blk W8 (w.heap.size + 1) #[.bool false, .slice none 0 0, .slice none 0 0] 98) := HR6.out.bel B8.out
    have HX8 := HX6.out.bel B8.out
    have on8 : ∀ j, On ((List.replicate N false).set svn true) j ↔ j = svn := fun j => by
      rw [on_set (by simp; omega)]
      exact ⟨fun h => h.resolve_left (on_false _ _), Or.inr⟩
    have R8 : RX w b B N ⟨sva, svn, svc⟩ fv ss sets fs [set] (fun _ _ => False) (fun i => i = svn) (fun i => i = svn) ⟨some ⟨g5, 0, none⟩, ss.length + 1, cap5⟩ [⟨ua, un, uc⟩] rs [m] fs wc.heap.size wc.heap.size ((List.replicate N false).set svn true) ((List.replicate N false).set svn true) W8 :=
      ⟨HX8, HF6.out.trans (Fx.bel (M := fun _ => False) B8.out) fun _ _ e => e.elim, fun g e => by
        injection e with e
        exact HG5.out.imp (fun h => h.trans (congrArg some e)) fun h => by simp only at e; omega, ⟨rfl, fun k s hk => by
        cases k with
        | zero => simp at hk; subst hk; exact ⟨m, rfl, NM.out⟩
        | succ k => simp at hk⟩, fun i j => by simp, HO8.out, by simp, on8, HO8.out, by simp, on8⟩
    have HR : Hid _ := R8
    have r0 := HR8.out.c 0
    have r1 := HR8.out.c 1
    have r2 := HR8.out.c 2
    have rf := HR8.out.frozen
    simp only [List.getElem?_toArray, List.getElem?_cons_zero, List.getElem?_cons_succ] at r0 r1 r2
    clear o0 of hW8 HO7 B7 HX8 R8 on8
    go_wp2_with fail
    obtain ⟨P, T⟩ := HR.out.put HR8.out (by omega) false ⟨some ⟨wc.heap.size, 0, none⟩, N, N⟩ ⟨some ⟨wc.heap.size, 0, none⟩, N, N⟩
    refine bodyPost_ret (v := .agg #[.bool false, .slice (some ⟨wc.heap.size, 0, none⟩) N N, .slice (some ⟨wc.heap.size, 0, none⟩) N N]) ?_ rfl ⟨_, _, _, _, _, _, _, _, _, rfl, P⟩
    simp [results, Tryd.results56]
    exact run_part8 (x := ⟨some ⟨wc.heap.size, 0, none⟩, N, N⟩) (y := ⟨some ⟨wc.heap.size, 0, none⟩, N, N⟩) T

end Go.Proofs.YtjjlkjfhhpogaaaDoor
