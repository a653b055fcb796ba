/-
  The document's positions of a pattern: what they are, that they are the program's; its answer put into memory.
  The document's Of: what is put together of the rows, between rounds.
  The walk of the document's Of.
-/
import Derived.Test.YtjjlkjfhhpogaaaDoorZq
namespace Go.Proofs.YtjjlkjfhhpogaaaDoor
open Go.RowKit

/-- The document's positions of a pattern. -/
structure IsPosR (t : Tree) (sets : List (List (Int × Int))) (rows : List (List Nat)) (Lf Ll : List Nat) : Prop where
  sts : SetsR (setsT t) sets
  rws : rows.length = (setsT t).length ∧ ∀ (i : Nat) L, rows[i]? = some L → ListOf (Fol t 0 i) L
  lf : ListOf (Fir t 0) Lf
  ll : ListOf (Las t 0) Ll

/-- What the document's Of comes to. -/
def PostOf8 (t : Tree) (w : World) (e : Ending) (w' : World) : Prop :=
  Below w.heap.size w w' ∧ ((rightT t = false ∧ e = .returned (.tuple #[PVal ⟨none, 0, 0⟩ ⟨none, 0, 0⟩ ⟨none, 0, 0⟩ ⟨none, 0, 0⟩ false, .int .i64 4])) ∨
    (rightT t = true ∧ ∃ (sv fv fi la : Sl) (ss rs : List Sl) (sets : List (List (Int × Int))) (rows : List (List Nat)) (Lf Ll : List Nat),
      e = .returned (.tuple #[PVal sv fv fi la (emp t), .int .i64 0]) ∧ HP w' sv fv fi la ss rs sets rows Lf Ll ∧ IsPosR t sets rows Lf Ll))

theorem run_pos8 {w : World} {b : Nat} {e : Bool} {x y z u : Sl} (h : Blk w b #[.slice x.a x.n x.c, .bool e, .slice y.a y.n y.c, .slice z.a z.n z.c, .slice u.a u.n u.c] 56) : (loadVar 56 ⟨b, 0, none⟩).run Tryd.prog w = .ok (PVal x u y z e) w := run_loadVar_row w b 56 56 _ (0, 0) _ h Tryd.underlying56 rfl (by kernel_rfl)
theorem pos8_put {w : World} {p : Nat} {a b c d e : Value} (h : Blk w p #[a, b, c, d, e] 56) (x u y z : Sl) (E : Bool) : Blk (((((w.setCell ⟨p, 0, none⟩ (.slice x.a x.n x.c)).setCell ⟨p, 1, none⟩ (.bool E)).setCell ⟨p, 2, none⟩ (.slice y.a y.n y.c)).setCell ⟨p, 3, none⟩ (.slice z.a z.n z.c)).setCell ⟨p, 4, none⟩ (.slice u.a u.n u.c)) p #[.slice x.a x.n x.c, .bool E, .slice y.a y.n y.c, .slice z.a z.n z.c, .slice u.a u.n u.c] 56 := by
  have h1 := ((((h.set 0 (.slice x.a x.n x.c)).set 1 (.bool E)).set 2 (.slice y.a y.n y.c)).set 3 (.slice z.a z.n z.c)).set 4 (.slice u.a u.n u.c)
  simpa using h1
theorem info96 : (Tryd.prog.info? 96).map (fun i => (i.zero, i.size, i.bytes)) = some (some (.slice none 0 0), 1, 24) := by kernel_rfl

/-- The answer's cells stored into its new block: rows of numbers stay. -/
theorem put7 {w9 : World} {p7 : Nat} {z0 z1 z2 z3 z4 : Value} {u1 u2 x u : Sl} {E : Bool} {L1 L2 : List Nat} (hb : Blk w9 p7 #[z0, z1, z2, z3, z4] 56) (o1 : OwnI 0 w9 (.slice u1.a u1.n u1.c) L1) (o2 : OwnI 0 w9 (.slice u2.a u2.n u2.c) L2) {B : Nat} {w : World} (b9 : Below B w w9) (hB : B ≤ p7) :
    Below B w (((((w9.setCell ⟨p7, 0, none⟩ (.slice x.a x.n x.c)).setCell ⟨p7, 1, none⟩ (.bool E)).setCell ⟨p7, 2, none⟩ (.slice u1.a u1.n u1.c)).setCell ⟨p7, 3, none⟩ (.slice u2.a u2.n u2.c)).setCell ⟨p7, 4, none⟩ (.slice u.a u.n u.c)) ∧
    Blk (((((w9.setCell ⟨p7, 0, none⟩ (.slice x.a x.n x.c)).setCell ⟨p7, 1, none⟩ (.bool E)).setCell ⟨p7, 2, none⟩ (.slice u1.a u1.n u1.c)).setCell ⟨p7, 3, none⟩ (.slice u2.a u2.n u2.c)).setCell ⟨p7, 4, none⟩ (.slice u.a u.n u.c)) p7 #[.slice x.a x.n x.c, .bool E, .slice u1.a u1.n u1.c, .slice u2.a u2.n u2.c, .slice u.a u.n u.c] 56 ∧
    OwnI 0 (((((w9.setCell ⟨p7, 0, none⟩ (.slice x.a x.n x.c)).setCell ⟨p7, 1, none⟩ (.bool E)).setCell ⟨p7, 2, none⟩ (.slice u1.a u1.n u1.c)).setCell ⟨p7, 3, none⟩ (.slice u2.a u2.n u2.c)).setCell ⟨p7, 4, none⟩ (.slice u.a u.n u.c)) (.slice u1.a u1.n u1.c) L1 ∧
    OwnI 0 (((((w9.setCell ⟨p7, 0, none⟩ (.slice x.a x.n x.c)).setCell ⟨p7, 1, none⟩ (.bool E)).setCell ⟨p7, 2, none⟩ (.slice u1.a u1.n u1.c)).setCell ⟨p7, 3, none⟩ (.slice u2.a u2.n u2.c)).setCell ⟨p7, 4, none⟩ (.slice u.a u.n u.c)) (.slice u2.a u2.n u2.c) L2 := by
  have n1 := o1.neBlk hb (by decide)
  have n2 := o2.neBlk hb (by decide)
  exact ⟨((((b9.setCell (p := ⟨p7, 0, none⟩) hB _).setCell (p := ⟨p7, 1, none⟩) hB _).setCell (p := ⟨p7, 2, none⟩) hB _).setCell (p := ⟨p7, 3, none⟩) hB _).setCell (p := ⟨p7, 4, none⟩) hB _, pos8_put hb x u u1 u2 E,
    ((((o1.setOther (p := ⟨p7, 0, none⟩) n1 _).setOther (p := ⟨p7, 1, none⟩) n1 _).setOther (p := ⟨p7, 2, none⟩) n1 _).setOther (p := ⟨p7, 3, none⟩) n1 _).setOther (p := ⟨p7, 4, none⟩) n1 _,
    ((((o2.setOther (p := ⟨p7, 0, none⟩) n2 _).setOther (p := ⟨p7, 1, none⟩) n2 _).setOther (p := ⟨p7, 2, none⟩) n2 _).setOther (p := ⟨p7, 3, none⟩) n2 _).setOther (p := ⟨p7, 4, none⟩) n2 _⟩


/-- The two ways come to the same. -/
theorem same_lists {t : Tree} {sets sets' : List (List (Int × Int))} {rows rows' : List (List Nat)} {Lf Ll Lf' Ll' : List Nat} (h : IsPos t sets rows Lf Ll) (h' : IsPosR t sets' rows' Lf' Ll') : sets' = sets ∧ rows' = rows ∧ Lf' = Lf ∧ Ll' = Ll := by
  refine ⟨List.ext_getElem? fun i => ?_, List.ext_getElem? fun i => ?_, rises_ext h'.lf.1 h.lf.1 fun j => ?_, rises_ext h'.ll.1 h.ll.1 fun j => ?_⟩
  · by_cases c : i < (setsT t).length
    · obtain ⟨m, h1, h2⟩ := h.sts.2 i _ (List.getElem?_eq_getElem c)
      obtain ⟨m', h3, h4⟩ := h'.sts.2 i _ (List.getElem?_eq_getElem c)
      rw [h1, h3]
      have : m' = m := YtjjlkjfhhpogaaaDoorS1.NF.unique h4.1 h2.1 fun n n0 n1 => (h4.2.1 n n0 n1).trans (h2.2.1 n).symm
      rw [this]
    · rw [List.getElem?_eq_none (by have := h'.sts.1; omega), List.getElem?_eq_none (by have := h.sts.1; omega)]
  · by_cases c : i < (setsT t).length
    · have c1 : i < rows.length := by have := h.rws.1; omega
      have c2 : i < rows'.length := by have := h'.rws.1; omega
      have e1 : rows[i]? = some rows[i] := List.getElem?_eq_getElem c1
      have e2 : rows'[i]? = some rows'[i] := List.getElem?_eq_getElem c2
      rw [e1, e2]
      have : rows'[i] = rows[i] := rises_ext (h'.rws.2 i _ e2).1 (h.ok i _ e1).1 fun j => by
        have h1 := h.rws.2 i _ e1 j
        rw [Nat.zero_add] at h1
        rw [(h'.rws.2 i _ e2).2, h1]
      rw [this]
    · rw [List.getElem?_eq_none (by have := h'.rws.1; omega), List.getElem?_eq_none (by have := h.rws.1; omega)]
  · rw [h'.lf.2, h.lf.2]
  · rw [h'.ll.2, h.ll.2]

end Go.Proofs.YtjjlkjfhhpogaaaDoor

namespace Go.Proofs.YtjjlkjfhhpogaaaDoor
open Go.RowKit

/-- What is put together so far: the answer in its block, rows of numbers for the first rows of bools. -/
structure RF (w7 : World) (p7 : Nat) (sv : Sl) (E : Bool) (u1 u2 : Sl) (L1 L2 : List Nat) (fs : List (List Bool)) (fo : Sl) (rl : List Sl) (rows : List (List Nat)) (wr : World) : Prop where
  bel : Below w7.heap.size w7 wr
  blk : Blk wr p7 #[.slice sv.a sv.n sv.c, .bool E, .slice u1.a u1.n u1.c, .slice u2.a u2.n u2.c, .slice fo.a fo.n fo.c] 56
  pp : w7.heap.size ≤ p7
  o1 : OwnI 0 wr (.slice u1.a u1.n u1.c) L1
  o2 : OwnI 0 wr (.slice u2.a u2.n u2.c) L2
  fo : OwnX encSl 1 50 w7.heap.size wr (.slice fo.a fo.n fo.c) rl
  ll : rl.length = rows.length
  re : ∀ (i : Nat) r L, rl[i]? = some r → rows[i]? = some L → OwnI 0 wr (.slice r.a r.n r.c) L
  tl : ∀ (i : Nat) L, rows[i]? = some L → ∃ f, fs[i]? = some f ∧ ListOf (On f) L

section
variable {w7 wr w' w5 : World} {p7 : Nat} {sv : Sl} {E : Bool} {u1 u2 : Sl} {L1 L2 : List Nat} {fs : List (List Bool)} {fo : Sl} {rl : List Sl} {rows : List (List Nat)}
theorem RF.go (h : RF w7 p7 sv E u1 u2 L1 L2 fs fo rl rows wr) (k : Below wr.heap.size wr w') : RF w7 p7 sv E u1 u2 L1 L2 fs fo rl rows w' :=
  ⟨bstep h.bel k, h.blk.bel k, h.pp, h.o1.bel k, h.o2.bel k, h.fo.bel k, h.ll, fun i r L h1 h2 => (h.re i r L h1 h2).bel k, h.tl⟩

/-- One row more. -/
theorem RF.add (h : RF w7 p7 sv E u1 u2 L1 L2 fs fo rl rows wr) {g cap : Nat} {u : Sl} {L : List Nat} {f : List Bool} (hf : fs[rows.length]? = some f) (hL : ListOf (On f) L) (ho : OwnI 0 wr (.slice u.a u.n u.c) L)
    (o5 : OwnX encSl 1 50 w7.heap.size w5 (.slice (some ⟨g, 0, none⟩) (rl.length + 1) cap) (rl ++ [u])) (g5 : wr.grownBy w5 (Sl.v fo).ownBlock) :
    RF w7 p7 sv E u1 u2 L1 L2 fs ⟨some ⟨g, 0, none⟩, rl.length + 1, cap⟩ (rl ++ [u]) (rows ++ [L]) (w5.setCell ⟨p7, 4, none⟩ (.slice (some ⟨g, 0, none⟩) (rl.length + 1) cap)) := by
  have F5 : Fx (fun g => (Sl.v fo).ownBlock = some g) wr w5 := (Fx.refl _ wr).grown g5 fun g e _ => e
  have F6 : Fx (fun g => (Sl.v fo).ownBlock = some g ∨ g = p7) wr (w5.setCell ⟨p7, 4, none⟩ (.slice (some ⟨g, 0, none⟩) (rl.length + 1) cap)) := (F5.mono (N := fun g => (Sl.v fo).ownBlock = some g ∨ g = p7) fun g e => Or.inl e).setCell (p := ⟨p7, 4, none⟩) (fun _ => Or.inr rfl) _
  have ne : ∀ g' cs t, Blk wr g' cs t → t ≠ 50 → t ≠ 56 → ¬ ((Sl.v fo).ownBlock = some g' ∨ g' = p7) := fun g' cs t hb h1 h2 e => by
    rcases e with e | rfl
    · obtain ⟨cs', hc⟩ := h.fo.blk e
      exact h1 (hc.same hb).2.symm
    · exact h2 (h.blk.same hb).2.symm
  have nI : ∀ {v : Value} {M : List Nat}, OwnI 0 wr v M → OwnI 0 (w5.setCell ⟨p7, 4, none⟩ (.slice (some ⟨g, 0, none⟩) (rl.length + 1) cap)) v M := fun o => o.fx F6 fun g' hg => by
    obtain ⟨cs, hc⟩ := o.blk hg
    exact ne _ _ _ hc (by decide) (by decide)
  have hb5 : Blk w5 p7 _ 56 := (F5.block p7 h.blk.lt fun e => by obtain ⟨cs', hc⟩ := h.fo.blk e; exact absurd (hc.same h.blk).2 (by decide)).trans h.blk
  refine ⟨h.bel.trans (F6.below (fun g' e => ?_) h.bel.size), hb5.set 4 _, h.pp, nI h.o1, nI h.o2, ?_, by simp [h.ll], ?_, ?_⟩
  · rcases e with e | rfl
    · exact (h.fo.lt e).1
    · exact h.pp
  · have : (Sl.v ⟨some ⟨g, 0, none⟩, rl.length + 1, cap⟩).ownBlock ≠ some p7 := fun e => by
      obtain ⟨cs, hc⟩ := o5.blk e
      exact absurd (hc.same hb5).2 (by decide)
    exact o5.setOther this _
  · intro i r M hr hM
    rcases get_snoc hr with ⟨h1, hr⟩ | ⟨h1, rfl⟩ <;> rcases get_snoc hM with ⟨h2, hM⟩ | ⟨h2, rfl⟩
    · exact nI (h.re i r M hr hM)
    · have := h.ll; omega
    · have := h.ll; omega
    · exact nI ho
  · intro i M hM
    rcases get_snoc hM with ⟨_, hM⟩ | ⟨h2, rfl⟩
    · exact h.tl i M hM
    · subst h2
      exact ⟨f, hf, hL⟩

/-- What was put together, behind stores into blocks of the positions' own type. -/
theorem HP.of8 {b B N : Nat} {fv : Sl} {ss rs : List Sl} {sets : List (List (Int × Int))} (hs : RS wr b B N sv fv ss rs sets fs) (h : RF w7 p7 sv E u1 u2 L1 L2 fs fo rl rows wr)
    {M : Nat → Prop} (k : Fx M wr w') (hM : ∀ g, M g → ∃ cs, Blk wr g cs 56) : HP w' sv fo u1 u2 ss rl sets rows L1 L2 := by
  have ne : ∀ g cs t, Blk wr g cs t → t ≠ 56 → ¬ M g := fun g cs t hb h1 e => by
    obtain ⟨cs', hc⟩ := hM g e
    exact h1 (hc.same hb).2.symm
  refine ⟨(hs.so.fx k fun g hg => ?_).row encSl_len, (h.fo.fx k fun g hg => ?_).row encSl_len, hs.sl, h.ll, fun i s m h1 h2 => ((hs.se i s m h1 h2).fx k fun g hg => ?_).row encS_len, fun i s m h1 h2 => ((h.re i s m h1 h2).fx k fun g hg => ?_).row encI_len, (h.o1.fx k fun g hg => ?_).row encI_len, (h.o2.fx k fun g hg => ?_).row encI_len⟩
  · obtain ⟨cs, hb⟩ := hs.so.blk hg; exact ne _ _ _ hb (by decide)
  · obtain ⟨cs, hb⟩ := h.fo.blk hg; exact ne _ _ _ hb (by decide)
  · obtain ⟨cs, hb⟩ := (hs.se i s m h1 h2).blk hg; exact ne _ _ _ hb (by decide)
  · obtain ⟨cs, hb⟩ := (h.re i s m h1 h2).blk hg; exact ne _ _ _ hb (by decide)
  · obtain ⟨cs, hb⟩ := h.o1.blk hg; exact ne _ _ _ hb (by decide)
  · obtain ⟨cs, hb⟩ := h.o2.blk hg; exact ne _ _ _ hb (by decide)
end

theorem onF_none (N M i j : Nat) : ¬ OnF (List.replicate N (List.replicate M false)) i j := by
  rintro ⟨f, h1, h2⟩
  rw [List.getElem?_replicate] at h1
  split at h1
  · injection h1 with h1
    subst h1
    exact on_false _ _ h2
  · cases h1

/-- The lists are those of the pattern. -/
theorem isPosR_of {w w7 wr : World} {b B N : Nat} {fv : Sl} {t : Tree} {sv1 : Sl} {ss1 rs1 : List Sl} {sets1 : List (List (Int × Int))} {fs1 : List (List Bool)} {gf gl : Nat} {Bf Bl : List Bool} {p7 : Nat} {E : Bool} {u1 u2 fo : Sl} {L1 L2 : List Nat} {rl : List Sl} {rows : List (List Nat)}
    (h : RX w b B N ⟨none, 0, 0⟩ fv [] [] (List.replicate N (List.replicate N false)) (setsT t) (Fol t 0) (Fir t 0) (Las t 0) sv1 ss1 rs1 sets1 fs1 gf gl Bf Bl w7) (k : RF w7 p7 sv1 E u1 u2 L1 L2 fs1 fo rl rows wr)
    (h1 : ListOf (On Bf) L1) (h2 : ListOf (On Bl) L2) (hN : rows.length = N) (ht : N = ones t) : IsPosR t sets1 rows L1 L2 := by
  refine ⟨h.sts, ⟨by rw [setsT_len, hN, ht], fun i L hL => ?_⟩, ⟨h1.1, fun j => (h1.2 j).trans (h.onf j)⟩, ⟨h2.1, fun j => (h2.2 j).trans (h.onl j)⟩⟩
  obtain ⟨f, hf, hl⟩ := k.tl i L hL
  refine ⟨hl.1, fun j => (hl.2 j).trans ?_⟩
  have h3 := h.fol i j
  constructor
  · intro h4
    exact (h3.1 ⟨f, hf, h4⟩).resolve_left (onF_none _ _ _ _)
  · intro h4
    obtain ⟨f', hf', h5⟩ := h3.2 (Or.inr h4)
    rw [hf] at hf'
    injection hf' with hf'
    subst hf'
    exact h5

end Go.Proofs.YtjjlkjfhhpogaaaDoor

namespace Go.Proofs.YtjjlkjfhhpogaaaDoor
open Go.RowKit

set_option maxRecDepth 100000 in
set_option maxHeartbeats 8000000 in
theorem rof_any (rn : RNK) (t : Tree) (x : PC) (w : World) (hok : okT t) (hg : goodT t) (hx : HT w t x) :
    Calls Tryd.prog 34 #[x.v] w (PostOf8 t w) := by
  have kr := fun W h => rright_any t x W hok h
  have HX : Hid (HT w t x) := hx
  have HG : Hid (goodT t) := hg
  have HQ : Hid (∀ q, rightT t = q → q = true → size t ≤ 200 ∧ kindsT t = true ∧ ones t ≤ 200) := fun q h1 h2 => by
    obtain ⟨h3, _, h5⟩ := right_parts (h1.trans h2)
    have := ones_le 200 t h3
    exact ⟨h3, h5, by omega⟩
  have HPq : Hid (PostOf8 t w = PostOf8 t w) := rfl
  obtain ⟨PO, hPO⟩ : ∃ PO, PO = PostOf8 t w := ⟨_, rfl⟩
  have HPO : Hid (PO = PostOf8 t w) := hPO
  rw [← hPO]
  clear hPO HPq
  obtain ⟨xk, ⟨x1, x2, x3⟩, x4, x5, x6⟩ := x
  clear hx hok hg
  cases hq : rightT t
  · rw [hq] at kr
    have HR : Hid (rightT t = false) := hq
    clear hq HQ
    go_enter Tryd.func34, Tryd.ntmps34
    go_wp2_with (go_at_call 18; refine (kr _ (HX.out.gr (((Gr.refl _).alloc _).alloc _))).mono ?_; rintro _ w2 ⟨rfl, gw⟩; have G2 : Hid (Gr w w2) := (((Gr.refl _).alloc _).alloc _).trans gw; have R2 : Hid (Blk w2 (w.heap.size + 1) #[.slice none 0 0, .bool false, .slice none 0 0, .slice none 0 0, .slice none 0 0] 56) := (Blk.new' _ _ _ _ (by simp)).gr gw; clear gw; have r0 := R2.out.c 0; have r1 := R2.out.c 1; have r2 := R2.out.c 2; have r3 := R2.out.c 3; have r4 := R2.out.c 4; have rf := R2.out.frozen; have rl := R2.out.lt; simp only [List.getElem?_toArray, List.getElem?_cons_zero, List.getElem?_cons_succ] at r0 r1 r2 r3 r4)
    have T := pos8_put R2.out ⟨none, 0, 0⟩ ⟨none, 0, 0⟩ ⟨none, 0, 0⟩ ⟨none, 0, 0⟩ false
    have B5 := below_put (p := w.heap.size + 1) G2.out.below (by omega) ⟨none, 0, 0⟩ ⟨none, 0, 0⟩ ⟨none, 0, 0⟩ ⟨none, 0, 0⟩ false
    refine bodyPost_ret (v := .tuple #[PVal ⟨none, 0, 0⟩ ⟨none, 0, 0⟩ ⟨none, 0, 0⟩ ⟨none, 0, 0⟩ false, .int .i64 4]) ?_ rfl (by rw [HPO.out]; exact ⟨B5, Or.inl ⟨HR.out, rfl⟩⟩)
    have L := run_pos8 (x := ⟨none, 0, 0⟩) (y := ⟨none, 0, 0⟩) (z := ⟨none, 0, 0⟩) (u := ⟨none, 0, 0⟩) T
    clear T B5
    generalize World.setCell _ _ _ = W5 at L ⊢
    simp [results, Tryd.results34]
    exact congrArg (fun r => Result.andThen r fun a w' => Result.ok (Value.tuple #[a, Value.int IntKind.i64 4]) w') L
  · obtain ⟨hsz, hkT, hon⟩ := HQ.out _ hq rfl
    rw [hq] at kr
    have HR : Hid (rightT t = true) := hq
    have ko := fun W h => ones8_any 200 t ⟨xk, ⟨x1, x2, x3⟩, x4, x5, x6⟩ W hsz (Nat.le_refl _) h
    obtain ⟨N, hN⟩ : ∃ N, N = ones t := ⟨_, rfl⟩
    have HN : Hid (N = ones t) := hN
    rw [← hN] at ko hon
    clear hq HQ hN
    go_enter Tryd.func34, Tryd.ntmps34
    go_upto_region 4 with (first
      | (go_at_call 18; refine (kr _ (HX.out.gr (((Gr.refl _).alloc _).alloc _))).mono ?_; rintro _ w2 ⟨rfl, gw⟩; have G2 : Hid (Gr w w2) := (((Gr.refl _).alloc _).alloc _).trans gw; have P2 : Hid (Blk w2 w.heap.size #[.int .i64 xk, .slice x1 x2 x3, .slice x4 x5 x6] 25) := ((Blk.new w _ _).alloc _).gr gw; have R2 : Hid (Blk w2 (w.heap.size + 1) #[.slice none 0 0, .bool false, .slice none 0 0, .slice none 0 0, .slice none 0 0] 56) := (Blk.new' _ _ _ _ (by simp)).gr gw; clear gw; have p0 := P2.out.c 0; have p1 := P2.out.c 1; have p2 := P2.out.c 2; have pl := P2.out.lt; simp only [List.getElem?_toArray, List.getElem?_cons_zero, List.getElem?_cons_succ] at p0 p1 p2)
      | (go_at_call 55; refine (ko _ (HX.out.gr G2.out)).mono ?_; rintro _ w3 ⟨rfl, gw⟩; have G3 : Hid (Gr w w3) := G2.out.trans gw; have P3 : Hid (Blk w3 w.heap.size #[.int .i64 xk, .slice x1 x2 x3, .slice x4 x5 x6] 25) := P2.out.gr gw; have R3 : Hid (Blk w3 (w.heap.size + 1) #[.slice none 0 0, .bool false, .slice none 0 0, .slice none 0 0, .slice none 0 0] 56) := R2.out.gr gw; clear gw))
    generalize hW4 : World.alloc _ _ = W4
    have b4 : Below w3.heap.size w3 W4 := by rw [← hW4]; exact (Below.refl _ _).alloc (Nat.le_refl _) _
    have G4 : Hid (Below w.heap.size w W4) := bstep G3.out.below b4
    have P4 : Hid (Blk W4 w.heap.size #[.int .i64 xk, .slice x1 x2 x3, .slice x4 x5 x6] 25) := P3.out.bel b4
    have R4 : Hid (Blk W4 (w.heap.size + 1) #[.slice none 0 0, .bool false, .slice none 0 0, .slice none 0 0, .slice none 0 0] 56) := R3.out.bel b4
    have S4 : Hid (RP W4 w3.heap.size w3.heap.size N ⟨none, 0, 0⟩ [] 0) := by
      refine ⟨?_, Nat.le_refl _, OwnX.nil _ _ _ _ _, rfl, fun i r hr => by simp at hr⟩
      rw [← hW4]
      exact Blk.new _ _ _
    have HB3 : Hid (w.heap.size + 1 < w3.heap.size) := R3.out.lt
    clear hW4 G3 P3 R3 G2 P2 R2 p0 p1 p2 pl kr ko b4
    generalize w3.heap.size = b at S4 HB3 ⊢
    clear w3 w2
    have mk : ∀ W : World, (Instr.makeSlice 96 (.int .i64 N) (.int .i64 N)).run Tryd.prog W = .ok (.slice (some ⟨W.heap.size, 0, none⟩) N N) (W.alloc (.cells (brow (List.replicate N false)) 4)) := fun W => make4 N (by omega) W
    go_wp2_with fail
    go_loopw [5] (fun vi wr => ∃ (k : Nat) (fv : Sl) (rs : List Sl), k ≤ N ∧ vi = .int .i64 k ∧ Hid (RP wr b b N fv rs k) ∧ Hid (Below b W4 wr) ∧ Hid (b < wr.heap.size)) (fun vi _ => N - (intOf vi).toNat)
    case atStart => exact ⟨0, _, _, Nat.zero_le _, rfl, S4, Below.refl _ _, S4.out.blk.lt⟩
    case round =>
      obtain ⟨k, ⟨va, vn, vc⟩, rs, hk, rfl, HS, HBe, HLt⟩ := hrel
      obtain rfl : k = rs.length := HS.out.rl.symm
      have q0 := HS.out.blk.c 0
      have q2 := HS.out.blk.c 2
      simp only [List.getElem?_toArray, List.getElem?_cons_zero, List.getElem?_cons_succ] at q0 q2
      by_cases hlt : rs.length < N
      case pos =>
        have hlt2 : (rs.length : Int) < N := by omega
        have hsz2 := HLt.out
        have hvn : vn = rs.length := by
          obtain ⟨_, _, e⟩ := HS.out.fo.form
          injection e
        subst hvn
        have X4 : Hid (RP (((wr.drewN 1).alloc (.cells (brow (List.replicate N false)) 4)).alloc (.cells #[.slice (some ⟨wr.heap.size, 0, none⟩) N N] 96)) b b N ⟨va, rs.length, vc⟩ rs rs.length) := HS.out.bel (((below_drewN (Below.refl _ _) 1).alloc (by simp) _).alloc (by simp) _)
        have BO : Hid (Blk (((wr.drewN 1).alloc (.cells (brow (List.replicate N false)) 4)).alloc (.cells #[.slice (some ⟨wr.heap.size, 0, none⟩) N N] 96)) wr.heap.size (brow (List.replicate N false)) 4) := (Blk.new (wr.drewN 1) _ _).alloc _
        go_wp2_with fail
        go_region_law (refine step_appX1 info96 Tryd.underlying93 encSl_len oneSl rfl (by decide) (by decide) (by rfl) _ _ (by rfl) b (.slice va rs.length vc) rs (by rfl) X4.out.fo (slB wr.heap.size N) (wr.heap.size + 1) (by rfl) _ (Blk.new' _ _ _ _ (by simp)) (by rfl) (by omega) (by simp; omega) (wr.heap.size + 2) (by simp) ?_; intro g5 cap5 w5 ow5 gr5 hg5; have A5 := X4.out.add BO.out ow5 gr5 (by simp; omega); have hb5 : Blk w5 b _ 95 := (gr5.block b X4.out.blk.lt fun e => by obtain ⟨cs', hc⟩ := X4.out.fo.blk e.symm; exact absurd (hc.same X4.out.blk).2 (by decide)).trans X4.out.blk; have c5 := hb5.c 2; have f5 := hb5.frozen 2; simp only [List.getElem?_toArray, List.getElem?_cons_zero, List.getElem?_cons_succ] at c5; clear hb5; have HA5 : Hid _ := A5; clear A5 ow5 gr5 hg5)
        all_goals
          go_wp2_with fail
          go_roundw
          case rel => exact ⟨rs.length + 1, _, _, by omega, by go_num, HA5.out.1, HBe.out.trans ((((below_drewN (Below.refl _ _) 1).alloc (by simp; omega) _).alloc (by simp; omega) _).trans HA5.out.2), HA5.out.1.blk.lt⟩
          case measure => simp [intOf]; omega
      case neg =>
        have hke : rs.length = N := by omega
        have HS5 := HS.out
        rw [hke] at HS5
        have S5 : Hid (RS wr b b N ⟨none, 0, 0⟩ ⟨va, vn, vc⟩ [] rs [] (List.replicate N (List.replicate N false))) := HS5.rs
        have hvn : vn = rs.length := by
          obtain ⟨_, _, e⟩ := HS.out.fo.form
          injection e
        rw [hke] at hvn
        subst hvn
        have B5 : Hid (Below w.heap.size w wr) := G4.out.trans (HBe.out.mono (by have := HB3.out; omega))
        have R5 : Hid (Blk wr (w.heap.size + 1) #[.slice none 0 0, .bool false, .slice none 0 0, .slice none 0 0, .slice none 0 0] 56) := (HBe.out.block _ HB3.out).trans R4.out
        have P5 : Hid (Blk wr w.heap.size #[.int .i64 xk, .slice x1 x2 x3, .slice x4 x5 x6] 25) := (HBe.out.block _ (by have := HB3.out; omega)).trans P4.out
        have KE : Hid (Calls Tryd.prog 56 #[.pointer (some ⟨b, 0, none⟩), .agg #[.int .i64 xk, .slice x1 x2 x3, .slice x4 x5 x6]] wr (PostR wr b b vn ⟨none, 0, 0⟩ ⟨va, vn, vc⟩ [] [] (List.replicate vn (List.replicate vn false)) (emp t) (setsT t) (Fol t 0) (Fir t 0) (Las t 0))) :=
          of8_all rn w vn hon 200 t hsz wr b b _ _ _ rs _ _ ⟨xk, ⟨x1, x2, x3⟩, x4, x5, x6⟩ S5.out (by have := HLt.out; omega) (by have := HB3.out; omega) B5.out HX.out hkT hsz HG.out (by have := HN.out; simp; omega)
        have hle : ¬ (rs.length : Int) < vn := by omega
        have p0 := P5.out.c 0
        have p1 := P5.out.c 1
        have p2 := P5.out.c 2
        simp only [List.getElem?_toArray, List.getElem?_cons_zero, List.getElem?_cons_succ] at p0 p1 p2
        clear HS HBe HS5 R4 P4 G4 S4 hlt mk
        go_upto_region 9 with (go_at_call 56; refine KE.out.mono ?_; rintro _ w6 ⟨sv1, ss1, rs1, sets1, fs1, gf, gl, Bf, Bl, rfl, px⟩; have P1 : Hid _ := px; clear px)
        have B6 : Hid (Below b wr w6) := P1.out.fx.below (fun g e => (S5.out.mb g e).1) (by have := HLt.out; omega)
        have R6 := (B6.out.block _ HB3.out).trans R5.out
        generalize hW7 : World.alloc _ _ = W7
        have P7 : Hid (RX wr b b vn ⟨none, 0, 0⟩ ⟨va, vn, vc⟩ [] [] (List.replicate vn (List.replicate vn false)) (setsT t) (Fol t 0) (Fir t 0) (Las t 0) sv1 ss1 rs1 sets1 fs1 gf gl Bf Bl W7) := by rw [← hW7]; exact P1.out.bel ((Below.refl _ _).alloc (Nat.le_refl _) _)
        have R7 : Hid (Blk W7 (w.heap.size + 1) #[.slice none 0 0, .bool false, .slice none 0 0, .slice none 0 0, .slice none 0 0] 56) := by rw [← hW7]; exact Blk.alloc R6 _
        have O7 : Hid (Blk W7 w6.heap.size #[.bool (emp t), .slice (some ⟨gf, 0, none⟩) vn vn, .slice (some ⟨gl, 0, none⟩) vn vn] 98) := by rw [← hW7]; exact Blk.new _ _ _
        have B7 : Hid (Below w.heap.size w W7) := by rw [← hW7]; exact B5.out.trans ((B6.out.alloc (by have := B6.out.size; have := HLt.out; omega) _).mono (by have := HB3.out; omega))
        have HP6 : Hid (w6.heap.size < W7.heap.size) := O7.out.lt
        clear hW7 B6 R6 P1 KE p0 p1 p2 B5 R5 P5
        generalize w6.heap.size = p6 at O7 HP6 ⊢
        clear w6
        obtain ⟨sva, svn, svc⟩ := sv1
        go_cut [7] (fun vt wx => ∃ (p7 : Nat) (u1 u2 : Sl) (L1 L2 : List Nat), vt = .pointer (some ⟨p7, 0, none⟩) ∧ Hid (Below W7.heap.size W7 wx) ∧ Hid (Blk wx p7 #[.slice sva svn svc, .bool (emp t), .slice u1.a u1.n u1.c, .slice u2.a u2.n u2.c, .slice none 0 0] 56) ∧ Hid (OwnI 0 wx (.slice u1.a u1.n u1.c) L1 ∧ ListOf (On Bf) L1 ∧ OwnI 0 wx (.slice u2.a u2.n u2.c) L2 ∧ ListOf (On Bl) L2) ∧ Hid (W7.heap.size ≤ p7))
        case first =>
          have hd : Below W7.heap.size W7 W7.drew := below_drewN (Below.refl _ _) 1
          have K1 : Hid (∀ W, Below W7.heap.size W7 W → Calls Tryd.prog 57 #[.slice (some ⟨gf, 0, none⟩) vn vn] W (PostI Bf W)) := fun W h => list8_any vn hon gf Bf W (P7.out.bf.bel h) P7.out.lf
          have K2 : Hid (∀ W, Below W7.heap.size W7 W → Calls Tryd.prog 57 #[.slice (some ⟨gl, 0, none⟩) vn vn] W (PostI Bl W)) := fun W h => list8_any vn hon gl Bl W (P7.out.bl.bel h) P7.out.ll
          have HB8 : Hid (∀ W, Below W7.heap.size W7 W → Blk W b #[.int .i64 vn, .slice sva svn svc, .slice va vn vc] 95 ∧ Blk W p6 #[.bool (emp t), .slice (some ⟨gf, 0, none⟩) vn vn, .slice (some ⟨gl, 0, none⟩) vn vn] 98) := fun W h => ⟨P7.out.rs.blk.bel h, O7.out.bel h⟩
          have hbl := P7.out.rs.blk.lt
          have hpl := HP6.out
          have q1 := P7.out.rs.blk.c 1
          have o0 := O7.out.c 0
          have o1 := O7.out.c 1
          have o2 := O7.out.c 2
          simp only [List.getElem?_toArray, List.getElem?_cons_zero, List.getElem?_cons_succ] at q1 o0 o1 o2
          generalize emp t = E at *
          have HS8 : Hid (∀ W, Below W7.heap.size W7 W → W.cell? ⟨b, 1, none⟩ = some (.slice sva svn svc) ∧ W.cell? ⟨p6, 0, none⟩ = some (.bool E) ∧ W.cell? ⟨p6, 1, none⟩ = some (.slice (some ⟨gf, 0, none⟩) vn vn) ∧ W.cell? ⟨p6, 2, none⟩ = some (.slice (some ⟨gl, 0, none⟩) vn vn)) := fun W h => by
            obtain ⟨d, d'⟩ := HB8.out W h
            exact ⟨d.c 1, d'.c 0, d'.c 1, d'.c 2⟩
          -- REGION 9
          refine wp_region_last (l := [_, _, _, _, _, _, _, _, _, _, _, _, _, _]) (st := _) (S := fun W => W.cell? ⟨b, 1, none⟩ = some (.slice sva svn svc) ∧ W.cell? ⟨p6, 0, none⟩ = some (.bool E) ∧ W.cell? ⟨p6, 1, none⟩ = some (.slice (some ⟨gf, 0, none⟩) vn vn) ∧ W.cell? ⟨p6, 2, none⟩ = some (.slice (some ⟨gl, 0, none⟩) vn vn)) (by kernel_rfl) (lastOf (by kernel_rfl)) ⟨q1, o0, o1, o2⟩ (fun hHeld => ?_)
          refine take_pure 0 ?vp0 rfl (by kernel_rfl) (by kernel_rfl) (by kernel_rfl) (fun _ _ _ h => h) (by rfl) (by assumption) ?hyp0 ?hp0
          case hyp0 => (intro w hSw; (try dsimp only at hSw); obtain ⟨s0, s1, s2, s3⟩ := hSw; (try go_simp); (try with_reducible rfl))
          try simp only [Act.put, List.setIfInBounds_toArray, List.set_cons_zero, List.set_cons_succ]
          refine take_pure 1 ?vp1 rfl (by kernel_rfl) (by kernel_rfl) (by kernel_rfl) (fun _ _ _ h => h) (by rfl) (by assumption) ?hyp1 ?hp1
          case hyp1 => (intro w hSw; (try dsimp only at hSw); obtain ⟨s0, s1, s2, s3⟩ := hSw; (try go_simp); (try with_reducible rfl))
          try simp only [Act.put, List.setIfInBounds_toArray, List.set_cons_zero, List.set_cons_succ]
          refine take_pure 2 ?vp2 rfl (by kernel_rfl) (by kernel_rfl) (by kernel_rfl) (fun _ _ _ h => h) (by rfl) (by assumption) ?hyp2 ?hp2
          case hyp2 => (intro w hSw; (try dsimp only at hSw); obtain ⟨s0, s1, s2, s3⟩ := hSw; (try go_simp); (try with_reducible rfl))
          try simp only [Act.put, List.setIfInBounds_toArray, List.set_cons_zero, List.set_cons_succ]
          refine take_pure 3 ?vp3 rfl (by kernel_rfl) (by kernel_rfl) (by kernel_rfl) (fun _ _ _ h => h) (by rfl) (by assumption) ?hyp3 ?hp3
          case hyp3 => (intro w hSw; (try dsimp only at hSw); obtain ⟨s0, s1, s2, s3⟩ := hSw; (try go_simp); (try with_reducible rfl))
          try simp only [Act.put, List.setIfInBounds_toArray, List.set_cons_zero, List.set_cons_succ]
          refine take_pure 4 ?vp4 rfl (by kernel_rfl) (by kernel_rfl) (by kernel_rfl) (fun _ _ _ h => h) (by rfl) (by assumption) ?hyp4 ?hp4
          case hyp4 => (intro w hSw; (try dsimp only at hSw); obtain ⟨s0, s1, s2, s3⟩ := hSw; (try go_simp); (try with_reducible rfl))
          try simp only [Act.put, List.setIfInBounds_toArray, List.set_cons_zero, List.set_cons_succ]
          refine take_pure 5 ?vp5 rfl (by kernel_rfl) (by kernel_rfl) (by kernel_rfl) (fun _ _ _ h => h) (by rfl) (by assumption) ?hyp5 ?hp5
          case hyp5 => (intro w hSw; (try dsimp only at hSw); obtain ⟨s0, s1, s2, s3⟩ := hSw; (try go_simp); (try with_reducible rfl))
          try simp only [Act.put, List.setIfInBounds_toArray, List.set_cons_zero, List.set_cons_succ]
          refine take_pure 6 ?vp6 rfl (by kernel_rfl) (by kernel_rfl) (by kernel_rfl) (fun _ _ _ h => h) (by rfl) (by assumption) ?hyp6 ?hp6
          case hyp6 => (intro w hSw; (try dsimp only at hSw); obtain ⟨s0, s1, s2, s3⟩ := hSw; (try go_simp); (try with_reducible rfl))
          try simp only [Act.put, List.setIfInBounds_toArray, List.set_cons_zero, List.set_cons_succ]
          refine take_pure 7 ?vp7 rfl (by kernel_rfl) (by kernel_rfl) (by kernel_rfl) (fun _ _ _ h => h) (by rfl) (by assumption) ?hyp7 ?hp7
          case hyp7 => (intro w hSw; (try dsimp only at hSw); obtain ⟨s0, s1, s2, s3⟩ := hSw; (try go_simp); (try with_reducible rfl))
          try simp only [Act.put, List.setIfInBounds_toArray, List.set_cons_zero, List.set_cons_succ]
          refine take_pure 9 ?vp9 rfl (by kernel_rfl) (by kernel_rfl) (by kernel_rfl) (fun _ _ _ h => h) (by rfl) (by assumption) ?hyp9 ?hp9
          case hyp9 => (intro w hSw; (try dsimp only at hSw); obtain ⟨s0, s1, s2, s3⟩ := hSw; (try go_simp); (try with_reducible rfl))
          try simp only [Act.put, List.setIfInBounds_toArray, List.set_cons_zero, List.set_cons_succ]
          refine take_pure 10 ?vp10 rfl (by kernel_rfl) (by kernel_rfl) (by kernel_rfl) (fun _ _ _ h => h) (by rfl) (by assumption) ?hyp10 ?hp10
          case hyp10 => (intro w hSw; (try dsimp only at hSw); obtain ⟨s0, s1, s2, s3⟩ := hSw; (try go_simp); (try with_reducible rfl))
          try simp only [Act.put, List.setIfInBounds_toArray, List.set_cons_zero, List.set_cons_succ]
          refine take_two 8 13 rfl rfl (by kernel_rfl) (fun K hK => ?_) (fun K hK => ?_)
          · go_simp
            go_at_call 57
            refine (K1.out _ hd).mono ?_
            rintro _ w8 ⟨⟨a1, n1, c1⟩, L1, rfl, l1, own1, b8⟩
            have B8 : Hid (Below W7.heap.size W7 w8) := bstep hd b8
            have O1 : Hid (OwnI 0 w8 (.slice a1 n1 c1) L1) := own1.lower (Nat.zero_le _)
            have HL1 : Hid (ListOf (On Bf) L1) := l1
            clear own1 l1 b8 hHeld
            refine hK.out _ _ (HS8.out _ B8.out) (fun hHeld => ?_)
            clear hK K
            refine take_two 11 13 rfl rfl (by kernel_rfl) (fun K hK => ?_) (fun K hK => ?_)
            · go_simp
              go_at_call 57
              refine (K2.out _ B8.out).mono ?_
              rintro _ w9 ⟨⟨a2, n2, c2⟩, L2, rfl, l2, own2, b9⟩
              have B9 : Hid (Below W7.heap.size W7 w9) := bstep B8.out b9
              have O1b : Hid (OwnI 0 w9 (.slice a1 n1 c1) L1) := O1.out.bel b9
              have O2 : Hid (OwnI 0 w9 (.slice a2 n2 c2) L2) := own2.lower (Nat.zero_le _)
              have HL2 : Hid (ListOf (On Bl) L2) := l2
              clear own2 l2 b9 hHeld
              refine hK.out _ _ (HS8.out _ B9.out) (fun hHeld => ?_)
              clear hK K
              refine take_pure 12 ?va12 rfl (by kernel_rfl) (by kernel_rfl) (by kernel_rfl) (fun _ _ _ h => h) (by rfl) (by assumption) ?hya12 ?ha12
              case hya12 => (intro w hSw; (try dsimp only at hSw); obtain ⟨s0, s1, s2, s3⟩ := hSw; (try go_simp); (try with_reducible rfl))
              try simp only [Act.put, List.setIfInBounds_toArray, List.set_cons_zero, List.set_cons_succ]
              refine take_one 13 rfl (by kernel_rfl) (fun K hK => ?_)
              go_simp
              refine hK.out _ _ (HS8.out _ (B9.out.alloc B9.out.size _)) (fun hHeld => ?_)
              clear hK K hHeld
              try simp only [Act.put, List.setIfInBounds_toArray, List.set_cons_zero, List.set_cons_succ]
              have Z : Blk (w9.alloc (.cells #[.slice none 0 0, .bool false, .slice none 0 0, .slice none 0 0, .slice none 0 0] 56)) w9.heap.size #[.slice none 0 0, .bool false, .slice none 0 0, .slice none 0 0, .slice none 0 0] 56 := Blk.new _ _ _
              have BZ : Below W7.heap.size W7 (w9.alloc (.cells #[.slice none 0 0, .bool false, .slice none 0 0, .slice none 0 0, .slice none 0 0] 56)) := B9.out.alloc B9.out.size _
              have OE1 := O1b.out.alloc (.cells #[.slice none 0 0, .bool false, .slice none 0 0, .slice none 0 0, .slice none 0 0] 56)
              have OE2 := O2.out.alloc (.cells #[.slice none 0 0, .bool false, .slice none 0 0, .slice none 0 0, .slice none 0 0] 56)
              have PE := B9.out.size
              have ZE := Z
              have BE := BZ
              clear Z BZ
              generalize hWE : w9.alloc _ = WE at *
              generalize w9.heap.size = pE at *
              clear hWE
              refine wpAnyH_done (by kernel_rfl) ?_ _
              refine behind_step (fun K hK => ?_)
              have z0 := ZE.c 0
              have z1 := ZE.c 1
              have z2 := ZE.c 2
              have z3 := ZE.c 3
              have z4 := ZE.c 4
              have zf := ZE.frozen
              have zl := ZE.lt
              simp only [List.getElem?_toArray, List.getElem?_cons_zero, List.getElem?_cons_succ] at z0 z1 z2 z3 z4
              go_simp
              refine hK _ _ ?_
              clear hK K z0 z1 z2 z3 z4 zf zl
              obtain ⟨y1, y2, y3, y4⟩ := put7 (x := ⟨sva, svn, svc⟩) (u1 := ⟨a1, n1, c1⟩) (u2 := ⟨a2, n2, c2⟩) (u := ⟨none, 0, 0⟩) (E := E) ZE OE1 OE2 BE PE
              go_wp2_with fail
              go_meet
              exact ⟨_, ⟨a1, n1, c1⟩, ⟨a2, n2, c2⟩, L1, L2, rfl, y1, y2, ⟨y3, HL1.out, y4, HL2.out⟩, PE⟩
            · go_simp
              refine hK.out _ _ (HS8.out _ (B8.out.alloc B8.out.size _)) (fun hHeld => ?_)
              clear hK K hHeld
              try simp only [Act.put, List.setIfInBounds_toArray, List.set_cons_zero, List.set_cons_succ]
              have Z : Blk (w8.alloc (.cells #[.slice none 0 0, .bool false, .slice none 0 0, .slice none 0 0, .slice none 0 0] 56)) w8.heap.size #[.slice none 0 0, .bool false, .slice none 0 0, .slice none 0 0, .slice none 0 0] 56 := Blk.new _ _ _
              have BZ : Below W7.heap.size W7 (w8.alloc (.cells #[.slice none 0 0, .bool false, .slice none 0 0, .slice none 0 0, .slice none 0 0] 56)) := B8.out.alloc B8.out.size _
              have O1z := O1.out.alloc (.cells #[.slice none 0 0, .bool false, .slice none 0 0, .slice none 0 0, .slice none 0 0] 56)
              have PE := B8.out.size
              refine take_one 11 rfl (by kernel_rfl) (fun K hK => ?_)
              have hHeld := True.intro
              go_simp
              go_at_call 57
              refine (K2.out _ BZ).mono ?_
              rintro _ w9 ⟨⟨a2, n2, c2⟩, L2, rfl, l2, own2, b9⟩
              have B9 : Hid (Below W7.heap.size W7 w9) := bstep BZ b9
              have O1b : Hid (OwnI 0 w9 (.slice a1 n1 c1) L1) := O1z.bel b9
              have O2 : Hid (OwnI 0 w9 (.slice a2 n2 c2) L2) := own2.lower (Nat.zero_le _)
              have HL2 : Hid (ListOf (On Bl) L2) := l2
              have Z9 : Hid (Blk w9 w8.heap.size #[.slice none 0 0, .bool false, .slice none 0 0, .slice none 0 0, .slice none 0 0] 56) := Z.bel b9
              clear own2 l2 b9 hHeld
              refine hK.out _ _ (HS8.out _ B9.out) (fun hHeld => ?_)
              clear hK K
              refine take_pure 12 ?vb12 rfl (by kernel_rfl) (by kernel_rfl) (by kernel_rfl) (fun _ _ _ h => h) (by rfl) (by assumption) ?hyb12 ?hb12
              case hyb12 => (intro w hSw; (try dsimp only at hSw); obtain ⟨s0, s1, s2, s3⟩ := hSw; (try go_simp); (try with_reducible rfl))
              try simp only [Act.put, List.setIfInBounds_toArray, List.set_cons_zero, List.set_cons_succ]
              have OE1 := O1b.out
              have OE2 := O2.out
              have ZE := Z9.out
              have BE := B9.out
              refine wpAnyH_done (by kernel_rfl) ?_ _
              refine behind_step (fun K hK => ?_)
              have z0 := ZE.c 0
              have z1 := ZE.c 1
              have z2 := ZE.c 2
              have z3 := ZE.c 3
              have z4 := ZE.c 4
              have zf := ZE.frozen
              have zl := ZE.lt
              simp only [List.getElem?_toArray, List.getElem?_cons_zero, List.getElem?_cons_succ] at z0 z1 z2 z3 z4
              go_simp
              refine hK _ _ ?_
              clear hK K z0 z1 z2 z3 z4 zf zl
              obtain ⟨y1, y2, y3, y4⟩ := put7 (x := ⟨sva, svn, svc⟩) (u1 := ⟨a1, n1, c1⟩) (u2 := ⟨a2, n2, c2⟩) (u := ⟨none, 0, 0⟩) (E := E) ZE OE1 OE2 BE PE
              go_wp2_with fail
              go_meet
              exact ⟨_, ⟨a1, n1, c1⟩, ⟨a2, n2, c2⟩, L1, L2, rfl, y1, y2, ⟨y3, HL1.out, y4, HL2.out⟩, PE⟩
          · go_simp
            refine hK.out _ _ (HS8.out _ (hd.alloc hd.size _)) (fun hHeld => ?_)
            clear hK K hHeld
            try simp only [Act.put, List.setIfInBounds_toArray, List.set_cons_zero, List.set_cons_succ]
            have Z : Blk (W7.drew.alloc (.cells #[.slice none 0 0, .bool false, .slice none 0 0, .slice none 0 0, .slice none 0 0] 56)) W7.heap.size #[.slice none 0 0, .bool false, .slice none 0 0, .slice none 0 0, .slice none 0 0] 56 := Blk.new _ _ _
            have BZ : Below W7.heap.size W7 (W7.drew.alloc (.cells #[.slice none 0 0, .bool false, .slice none 0 0, .slice none 0 0, .slice none 0 0] 56)) := hd.alloc hd.size _
            have PE : W7.heap.size ≤ W7.heap.size := Nat.le_refl _
            refine take_one 8 rfl (by kernel_rfl) (fun K hK => ?_)
            have hHeld := True.intro
            go_simp
            go_at_call 57
            refine (K1.out _ BZ).mono ?_
            rintro _ w8 ⟨⟨a1, n1, c1⟩, L1, rfl, l1, own1, b8⟩
            have B8 : Hid (Below W7.heap.size W7 w8) := bstep BZ b8
            have O1 : Hid (OwnI 0 w8 (.slice a1 n1 c1) L1) := own1.lower (Nat.zero_le _)
            have HL1 : Hid (ListOf (On Bf) L1) := l1
            have Z8 : Hid (Blk w8 W7.heap.size #[.slice none 0 0, .bool false, .slice none 0 0, .slice none 0 0, .slice none 0 0] 56) := Z.bel b8
            clear Z
            clear own1 l1 b8 hHeld
            refine hK.out _ _ (HS8.out _ B8.out) (fun hHeld => ?_)
            clear hK K
            refine take_one 11 rfl (by kernel_rfl) (fun K hK => ?_)
            go_simp
            go_at_call 57
            refine (K2.out _ B8.out).mono ?_
            rintro _ w9 ⟨⟨a2, n2, c2⟩, L2, rfl, l2, own2, b9⟩
            have B9 : Hid (Below W7.heap.size W7 w9) := bstep B8.out b9
            have O1b : Hid (OwnI 0 w9 (.slice a1 n1 c1) L1) := O1.out.bel b9
            have O2 : Hid (OwnI 0 w9 (.slice a2 n2 c2) L2) := own2.lower (Nat.zero_le _)
            have HL2 : Hid (ListOf (On Bl) L2) := l2
            have Z9 : Hid (Blk w9 W7.heap.size #[.slice none 0 0, .bool false, .slice none 0 0, .slice none 0 0, .slice none 0 0] 56) := Z8.out.bel b9
            clear own2 l2 b9 hHeld
            refine hK.out _ _ (HS8.out _ B9.out) (fun hHeld => ?_)
            clear hK K
            refine take_pure 12 ?vc12 rfl (by kernel_rfl) (by kernel_rfl) (by kernel_rfl) (fun _ _ _ h => h) (by rfl) (by assumption) ?hyc12 ?hc12
            case hyc12 => (intro w hSw; (try dsimp only at hSw); obtain ⟨s0, s1, s2, s3⟩ := hSw; (try go_simp); (try with_reducible rfl))
            try simp only [Act.put, List.setIfInBounds_toArray, List.set_cons_zero, List.set_cons_succ]
            have OE1 := O1b.out
            have OE2 := O2.out
            have ZE := Z9.out
            have BE := B9.out
            refine wpAnyH_done (by kernel_rfl) ?_ _
            refine behind_step (fun K hK => ?_)
            have z0 := ZE.c 0
            have z1 := ZE.c 1
            have z2 := ZE.c 2
            have z3 := ZE.c 3
            have z4 := ZE.c 4
            have zf := ZE.frozen
            have zl := ZE.lt
            simp only [List.getElem?_toArray, List.getElem?_cons_zero, List.getElem?_cons_succ] at z0 z1 z2 z3 z4
            go_simp
            refine hK _ _ ?_
            clear hK K z0 z1 z2 z3 z4 zf zl
            obtain ⟨y1, y2, y3, y4⟩ := put7 (x := ⟨sva, svn, svc⟩) (u1 := ⟨a1, n1, c1⟩) (u2 := ⟨a2, n2, c2⟩) (u := ⟨none, 0, 0⟩) (E := E) ZE OE1 OE2 BE PE
            go_wp2_with fail
            go_meet
            exact ⟨_, ⟨a1, n1, c1⟩, ⟨a2, n2, c2⟩, L1, L2, rfl, y1, y2, ⟨y3, HL1.out, y4, HL2.out⟩, PE⟩
        -- REST
        case rest =>
          obtain ⟨p7, ⟨u1a, u1n, u1c⟩, ⟨u2a, u2n, u2c⟩, L1, L2, rfl, HB9, HQ9, HO9, HP9⟩ := hcut
          have F9 : Hid (RF W7 p7 ⟨sva, svn, svc⟩ (emp t) ⟨u1a, u1n, u1c⟩ ⟨u2a, u2n, u2c⟩ L1 L2 fs1 ⟨none, 0, 0⟩ [] [] wc) := ⟨HB9.out, HQ9.out, HP9.out, HO9.out.1, HO9.out.2.2.1, OwnX.nil _ _ _ _ _, rfl, fun i r L h => by simp at h, fun i L h => by simp at h⟩
          have HLL : Hid (ListOf (On Bf) L1 ∧ ListOf (On Bl) L2) := ⟨HO9.out.2.1, HO9.out.2.2.2⟩
          have hq := P7.out.rs.blk.bel HB9.out
          have hbl := hq.lt
          have q2 := hq.c 2
          simp only [List.getElem?_toArray, List.getElem?_cons_zero, List.getElem?_cons_succ] at q2
          clear HB9 HQ9 HO9 HP9 hq
          go_wp2_with fail
          go_loopw [61] (fun vi wr => ∃ (i : Nat) (fo : Sl) (rl : List Sl) (rows : List (List Nat)), i ≤ vn ∧ vi = .int .i64 i ∧ Hid (rows.length = i) ∧ Hid (RF W7 p7 ⟨sva, svn, svc⟩ (emp t) ⟨u1a, u1n, u1c⟩ ⟨u2a, u2n, u2c⟩ L1 L2 fs1 fo rl rows wr)) (fun vi _ => vn - (intOf vi).toNat)
          case atStart => exact ⟨0, ⟨none, 0, 0⟩, [], [], Nat.zero_le _, rfl, (show ([] : List (List Nat)).length = 0 from rfl), F9⟩
          case round =>
            clear q2 hbl
            obtain ⟨i, ⟨fa, fn, fc⟩, rl, rows, hi, rfl, HI, HF⟩ := hrel
            have hfn : fn = rl.length := by
              obtain ⟨_, _, e⟩ := HF.out.fo.form
              injection e
            subst hfn
            by_cases hlt3 : i < vn
            case pos =>
              have hlt4 : (i : Int) < vn := by omega
              obtain ⟨r, hr⟩ : ∃ r, rs1[i]? = some r := ⟨_, List.getElem?_eq_getElem (by have := P7.out.rs.rl; omega)⟩
              obtain ⟨f, hf⟩ : ∃ f, fs1[i]? = some f := ⟨_, List.getElem?_eq_getElem (by have := P7.out.rs.fl; omega)⟩
              obtain ⟨g, rfl, hbg, hfl⟩ := P7.out.rs.re i r f hr hf
              obtain ⟨fb, off, hva, hfb, hc⟩ := (P7.out.rs.fo.row encSl_len).at hr
              have d0 := hc 0 _ rfl
              simp only [Nat.mul_one, Nat.add_zero, slB] at d0
              subst hva
              have e0 := (HF.out.bel.cell (by exact hfb)).trans d0
              have HBG : Hid (Blk wr g (brow f) 4) := hbg.bel HF.out.bel
              have HFI : Hid (fs1[rows.length]? = some f) := by show _ = _; rw [HI.out]; exact hf
              have HRL : Hid (rl.length = i) := by show _ = _; rw [HF.out.ll, HI.out]
              have q4 := HF.out.blk.c 4
              have q4l := HF.out.blk.lt
              simp only [List.getElem?_toArray, List.getElem?_cons_zero, List.getElem?_cons_succ] at q4
              have hsz7 := HF.out.bel.size
              have K3 := list8_any vn hon g f (wr.drewN 1) (HBG.out.drewN 1) hfl
              clear hr hf hbg hfl hfb hc d0
              go_wp2_with fail
              go_region_law
                (first
                  | (go_simp; go_at_call 57; refine K3.mono ?_; rintro _ w3 ⟨⟨ua, un, uc⟩, L, rfl, hl, own, bel⟩; have B3 : Hid (Below wr.heap.size wr w3) := bstep (below_drewN (Below.refl _ _) 1) bel; have F3 : Hid (RF W7 p7 ⟨sva, svn, svc⟩ (emp t) ⟨u1a, u1n, u1c⟩ ⟨u2a, u2n, u2c⟩ L1 L2 fs1 ⟨fa, rl.length, fc⟩ rl rows w3) := HF.out.go B3.out; have O3 : Hid (OwnI 0 w3 (.slice ua un uc) L) := own.lower (Nat.zero_le _); have HL3 : Hid (ListOf (On f) L) := hl; clear own bel hl; have pl3 := F3.out.blk.lt; have c3 := F3.out.blk.c 4; simp only [List.getElem?_toArray, List.getElem?_cons_zero, List.getElem?_cons_succ] at c3)
                  | (refine step_appX1 info50 Tryd.underlying51 encSl_len oneSl rfl (by decide) (by decide) (by rfl) _ _ (by rfl) W7.heap.size (.slice fa rl.length fc) rl (by rfl) (F3.out.fo.alloc _) ⟨ua, un, uc⟩ w3.heap.size (by rfl) _ (Blk.new _ _ _) (by rfl) (by have := HRL.out; omega) (by have := B3.out.size; simp; omega) (w3.heap.size + 1) (by simp) ?_; intro g5 cap5 w5 ow5 gr5 hg5; have F4 := F3.out.go ((Below.refl _ _).alloc (Nat.le_refl _) (.cells #[.slice ua un uc] 50)); have A5 := F4.add HFI.out HL3.out (O3.out.alloc _) ow5 gr5; have hb5 : Blk w5 p7 _ 56 := (gr5.block p7 F4.blk.lt fun e => by obtain ⟨cs', hc⟩ := F4.fo.blk e.symm; exact absurd (hc.same F4.blk).2 (by decide)).trans F4.blk; have c5 := hb5.c 4; have f5 := hb5.frozen 4; simp only [List.getElem?_toArray, List.getElem?_cons_zero, List.getElem?_cons_succ] at c5; clear F4 hb5; have HA5 : Hid _ := A5; clear A5 ow5 gr5 hg5))
              all_goals
                go_wp2_with fail
                go_roundw
                case rel => exact ⟨i + 1, ⟨some ⟨g5, 0, none⟩, rl.length + 1, cap5⟩, _, rows ++ [L], by omega, by go_num, (by show _ = _; rw [List.length_append, HI.out]; rfl), HA5⟩
                case measure => simp [intOf]; omega
            case neg =>
              have hle3 : ¬ (i : Int) < vn := by omega
              have hin : i = vn := by omega
              have RE : Hid (Blk wr (w.heap.size + 1) #[.slice none 0 0, .bool false, .slice none 0 0, .slice none 0 0, .slice none 0 0] 56) := R7.out.bel HF.out.bel
              have c0 := HF.out.blk.c 0
              have c1 := HF.out.blk.c 1
              have c2 := HF.out.blk.c 2
              have c3 := HF.out.blk.c 3
              have c4 := HF.out.blk.c 4
              have r0 := RE.out.c 0
              have r1 := RE.out.c 1
              have r2 := RE.out.c 2
              have r3 := RE.out.c 3
              have r4 := RE.out.c 4
              have rf := RE.out.frozen
              have rl' := RE.out.lt
              simp only [List.getElem?_toArray, List.getElem?_cons_zero, List.getElem?_cons_succ] at c0 c1 c2 c3 c4 r0 r1 r2 r3 r4
              generalize hE : emp t = E at *
              go_wp2_with fail
              have T := pos8_put RE.out ⟨sva, svn, svc⟩ ⟨fa, rl.length, fc⟩ ⟨u1a, u1n, u1c⟩ ⟨u2a, u2n, u2c⟩ E
              have B5 := below_put (p := w.heap.size + 1) (B7.out.trans (HF.out.bel.mono B7.out.size)) (by omega) ⟨sva, svn, svc⟩ ⟨fa, rl.length, fc⟩ ⟨u1a, u1n, u1c⟩ ⟨u2a, u2n, u2c⟩ E
              have FX := (((((Fx.refl (fun g => g = w.heap.size + 1) wr).setCell (p := ⟨w.heap.size + 1, 0, none⟩) (fun _ => rfl) (.slice sva svn svc)).setCell (p := ⟨w.heap.size + 1, 1, none⟩) (fun _ => rfl) (.bool E)).setCell (p := ⟨w.heap.size + 1, 2, none⟩) (fun _ => rfl) (.slice u1a u1n u1c)).setCell (p := ⟨w.heap.size + 1, 3, none⟩) (fun _ => rfl) (.slice u2a u2n u2c)).setCell (p := ⟨w.heap.size + 1, 4, none⟩) (fun _ => rfl) (.slice fa rl.length fc)
              have HPE := HP.of8 (P7.out.rs.bel HF.out.bel) HF.out FX (fun g hg => by have hh := RE.out; rw [← hg] at hh; exact ⟨_, hh⟩)
              have IPE := isPosR_of P7.out HF.out HLL.out.1 HLL.out.2 (HI.out.trans hin) HN.out
              refine bodyPost_ret (v := .tuple #[PVal ⟨sva, svn, svc⟩ ⟨fa, rl.length, fc⟩ ⟨u1a, u1n, u1c⟩ ⟨u2a, u2n, u2c⟩ E, .int .i64 0]) ?_ rfl (by rw [HPO.out]; exact ⟨B5, Or.inr ⟨HR.out, _, _, _, _, _, _, _, _, _, _, by rw [hE], HPE, IPE⟩⟩)
              have L := run_pos8 (x := ⟨sva, svn, svc⟩) (y := ⟨u1a, u1n, u1c⟩) (z := ⟨u2a, u2n, u2c⟩) (u := ⟨fa, rl.length, fc⟩) T
              clear T B5 FX HPE IPE
              generalize World.setCell _ _ _ = W5 at L ⊢
              simp [results, Tryd.results34]
              exact congrArg (fun r => Result.andThen r fun a w' => Result.ok (Value.tuple #[a, Value.int IntKind.i64 0]) w') L

end Go.Proofs.YtjjlkjfhhpogaaaDoor
