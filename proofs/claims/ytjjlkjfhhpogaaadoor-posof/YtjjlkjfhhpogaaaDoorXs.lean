/-
  A pattern by its positions in memory, as it is put together: what stands where, what turns, what stays.
-/
import Derived.Test.YtjjlkjfhhpogaaaDoorIn
import Derived.Test.YtjjlkjfhhpogaaaDoorGl
import Derived.Lib.JoinLaws
namespace Go.Proofs.YtjjlkjfhhpogaaaDoor
open Go.RowKit

/-- All of a slice behind a row of numbers of the call's own. -/
theorem wp_appI {w : World} {ops : Array Oper} {rest : List Oper} {o : Oper} {a : Act} {Q : Exit → Act → World → Prop} (hgd : o.guard = none) (s x : Operand)
    (ho : o.op = .call { callee := .builtin .append, args := #[s, x], argTypes := #[50, 50] })
    (base : Nat) (v : Value) (L : List Nat) (hs : a.eval s = v) (hown : OwnI base w v L) (u : Value) (M : List Nat) (hx : a.eval x = u) (hu : RowI w u M)
    (hl : L.length + M.length ≤ 1000) (hbase : base ≤ w.heap.size)
    (h : ∀ ao cap w', OwnI base w' (.slice ao (L.length + M.length) cap) (L ++ M) → w.grownBy w' v.ownBlock → ((Value.slice ao (L.length + M.length) cap).ownBlock = v.ownBlock ∨ ∃ g, w.heap.size ≤ g ∧ (Value.slice ao (L.length + M.length) cap).ownBlock = some g) → wpList Tryd.prog ops Q rest (a.put o.dst (.slice ao (L.length + M.length) cap)) w') : wpList Tryd.prog ops Q (o :: rest) a w := by
  obtain ⟨i, hi, hz, hz1, hz2⟩ := info_parts info3
  have hml : maxLen = 9223372036854775807 := rfl
  obtain ⟨ao, cap, rfl, hc, hn'⟩ := hu
  by_cases hm : M = []
  · subst hm
    simp only [List.length_nil, Nat.add_zero, List.append_nil] at hl h hx
    rcases hown.2 with ⟨rfl, h0⟩ | ⟨g, c, cur, rfl, hbg, hg, hn, hmx, hsz, ht⟩
    · have hL : L = [] := List.length_eq_zero_iff.1 h0
      subst hL
      cases ao with
      | none =>
        rw [hn' rfl] at hx
        refine wpList_plain hgd fun K hK' => ?_
        have hrun := run_append_owned_none (P := Tryd.prog) w 0 50 o.type 3 i 1 Tryd.underlying50 hi (.slice none 0 0) 0 [] (World.ownsRow_nil w 0 3 1)
        unfold Oper.wp
        simp [execOp, ho, resolve, invoke, builtin, hs, hx, hrun, Result.andThen]
        exact hK' _ _ (h none 0 w hown (grownBy_same _ _) (Or.inl rfl))
      | some ad =>
        refine wpList_append_own w hgd s x 50 ho w.heap.size 3 i _ 1 8 Tryd.underlying50 hi hz hz1 hz2 rfl (by decide) (.slice none 0 0) 0 [] hs (World.ownsRow_nil w w.heap.size 3 1) ad 0 cap [] hx (by simp) (by simp) (by simp) (by omega) (by omega) (Nat.le_refl _) ?_
        intro v' w' how hgr hv
        have hO : OwnI w.heap.size w' v' ([] : List Nat) := how
        obtain ⟨ao', cap', rfl⟩ := hO.form
        refine h ao' cap' w' (hO.lower hbase) hgr ?_
        cases ao' with
        | none => exact Or.inl rfl
        | some ad' => exact Or.inr ⟨ad'.block, (hO.lt rfl).1, rfl⟩
    · have hsrc : Src Tryd.prog 1 50 (.slice ao 0 cap) 0 [] w := by
        cases ao with
        | none => exact Src.ofNil w Tryd.underlying50 cap
        | some ad => exact Src.ofSlice w Tryd.underlying50 ad 0 cap [] (by simp) (by simp) (by simp)
      refine wpList_append_room1 w hgd s x 50 50 ho 3 _ 8 Tryd.underlying50 info3 g 0 L.length c hs _ hx 0 [] hsrc (by omega) (fun j hj => by simp at hj) (fun j hj => by simp at hj) ?_
      exact h _ _ w hown (grownBy_same _ _) (Or.inl rfl)
  · obtain ⟨b, off, rfl, hb, hcell⟩ := hc hm
    refine wpList_append_lies w hgd s x 50 ho base 3 i _ 1 8 Tryd.underlying50 hi hz hz1 hz2 rfl (by decide) v L.length (cellsOf encI L) hs hown ⟨b, off, none⟩ M.length cap (cellsOf encI M) hx (cellsOf_length encI_len M) ?_ ?_ (by have := List.length_pos_iff.2 hm; omega) (by omega) (by omega) hbase w.heap.size rfl ?_
    · intro j q hq
      rw [add_none]
      have hj : j < M.length := by
        have := (List.getElem?_eq_some_iff.1 hq).1
        rw [cellsOf_length encI_len] at this
        omega
      have e1 := hcell j _ (List.getElem?_eq_getElem hj) 0 _ rfl
      have e2 := cellsOf_at encI_len M j _ (List.getElem?_eq_getElem hj) 0 _ rfl
      rw [Nat.mul_one, Nat.add_zero] at e1 e2
      rw [e1, ← e2, hq]
    · intro q hq
      obtain ⟨y, _, hy⟩ := List.mem_flatMap.1 hq
      exact oneI y q hy
    · intro g cap' w' how hgr hg hlt
      refine h _ cap' w' ?_ hgr ?_
      · show w'.ownsRow base 3 1 _ (L ++ M).length (cellsOf encI (L ++ M))
        rw [cellsOf_append, List.length_append]
        exact how
      · rcases hg with hg | hg
        · exact Or.inl hg.symm
        · exact Or.inr ⟨g, by omega, rfl⟩

def encSl (s : Sl) : List Value := [.slice s.a s.n s.c]
theorem encSl_len (s : Sl) : (encSl s).length = 1 := rfl
theorem oneSl (s : Sl) : ∀ u ∈ encSl s, u.oneCell' = true := by
  intro u hu; simp [encSl] at hu; subst hu; rfl
theorem info22 : (Tryd.prog.info? 22).map (fun i => (i.zero, i.size, i.bytes)) = some (some (.slice none 0 0), 1, 24) := by kernel_rfl
theorem info50 : (Tryd.prog.info? 50).map (fun i => (i.zero, i.size, i.bytes)) = some (some (.slice none 0 0), 1, 24) := by kernel_rfl

theorem Blk.same {w : World} {b : Nat} {cs cs' : Array Value} {t t' : TypeId} (h : Blk w b cs t) (k : Blk w b cs' t') : cs = cs' ∧ t = t' := by
  unfold Blk at h k
  rw [h] at k
  injection k with k
  injection k with k1 k2
  exact ⟨k1, k2⟩
theorem OwnX.blk {α : Type} {f : α → List Value} {n : Nat} {t : TypeId} {base : Nat} {w : World} {v : Value} {l : List α} (h : OwnX f n t base w v l) {g : Nat} (hg : v.ownBlock = some g) : ∃ cs, Blk w g cs t := by
  rcases h.2 with ⟨rfl, _⟩ | ⟨g', cap, cur, rfl, _, hg', _⟩
  · cases hg
  · injection hg with hg
    subst hg
    exact ⟨cur, hg'⟩

/-- What comes of a part: all of the sets from o on are those of t, each in its one form; behind each of its positions come those that Fol tells. -/
def NormOf (s m : List (Int × Int)) : Prop := ((∀ x ∈ m, 0 ≤ x.1 ∧ x.1 ≤ x.2 ∧ x.2 ≤ 4294967295) ∧ m.Pairwise fun a b => a.2 + 2 ≤ b.1) ∧ (∀ n, inSet m n = inSet s n) ∧ m.length ≤ s.length
def SetsOf (S sets : List (List (Int × Int))) : Prop := sets.length = S.length ∧ ∀ (k : Nat) s, S[k]? = some s → ∃ m, sets[k]? = some m ∧ NormOf s m
def RowsOf (n : Nat) (o : Nat) (F : Nat → Nat → Prop) (rows : List (List Nat)) : Prop := rows.length = n ∧ ∀ (k : Nat) L, rows[k]? = some L → ∀ j, j ∈ L ↔ F (o + k) j
def ListOf (F : Nat → Prop) (L : List Nat) : Prop := Rises L ∧ ∀ j, j ∈ L ↔ F j

theorem SetsOf.append {A B a b : List (List (Int × Int))} (h : SetsOf A a) (k : SetsOf B b) : SetsOf (A ++ B) (a ++ b) := by
  refine ⟨by rw [List.length_append, List.length_append, h.1, k.1], fun j s hj => ?_⟩
  by_cases c : j < A.length
  · rw [List.getElem?_append_left c] at hj
    rw [List.getElem?_append_left (by rw [h.1]; exact c)]
    exact h.2 j s hj
  · rw [List.getElem?_append_right (by omega)] at hj
    rw [List.getElem?_append_right (by rw [h.1]; omega), h.1]
    exact k.2 _ s hj

theorem rises_len {L : List Nat} {N : Nat} (h : Rises L) (hn : ∀ x ∈ L, x < N) : L.length ≤ N := by
  have key : ∀ (L : List Nat) (o : Nat), Rises L → (∀ x ∈ L, o ≤ x ∧ x < N) → L.length ≤ N - o := by
    intro L
    induction L with
    | nil => intro o _ _; simp
    | cons a L ih =>
      intro o h1 h2
      rw [Rises, List.pairwise_cons] at h1
      have ha := h2 a (List.mem_cons_self ..)
      have := ih (a + 1) h1.2 (fun x hx => ⟨h1.1 x hx, (h2 x (List.mem_cons_of_mem _ hx)).2⟩)
      simp
      omega
  have := key L 0 h (fun x hx => ⟨Nat.zero_le _, hn x hx⟩)
  omega

/-- The positions so far: block b holds what is put together; ss, rs are the slices of its two rows; sets, rows what they hold. -/
structure XS (w : World) (b B : Nat) (sv fv : Sl) (ss rs : List Sl) (sets : List (List (Int × Int))) (rows : List (List Nat)) : Prop where
  blk : Blk w b #[.slice sv.a sv.n sv.c, .bool false, .slice none 0 0, .slice none 0 0, .slice fv.a fv.n fv.c] 53
  bb : B ≤ b
  so : OwnX encSl 1 22 B w (.slice sv.a sv.n sv.c) ss
  fo : OwnX encSl 1 50 B w (.slice fv.a fv.n fv.c) rs
  sl : ss.length = sets.length
  rl : rs.length = rows.length
  se : ∀ (i : Nat) s m, ss[i]? = some s → sets[i]? = some m → OwnX encS 2 78 B w (Sl.v s) m
  re : ∀ (i : Nat) r L, rs[i]? = some r → rows[i]? = some L → OwnI B w (Sl.v r) L
  ok : ∀ (i : Nat) L, rows[i]? = some L → Rises L ∧ ∀ j ∈ L, j < 200
  sep : ∀ (i j : Nat) r r' g, rs[i]? = some r → rs[j]? = some r' → (Sl.v r).ownBlock = some g → (Sl.v r').ownBlock = some g → i = j

/-- What may turn: block b, and the blocks of its two rows. -/
def Mv (b : Nat) (sv fv : Sl) (g : Nat) : Prop := g = b ∨ (Sl.v sv).ownBlock = some g ∨ (Sl.v fv).ownBlock = some g

/-- All other blocks stay. -/
structure Fx (M : Nat → Prop) (w w' : World) : Prop where
  os : w'.os = w.os
  tape : w'.tape = w.tape
  output : w'.output = w.output
  size : w.heap.size ≤ w'.heap.size
  block : ∀ g, g < w.heap.size → ¬ M g → w'.heap[g]? = w.heap[g]?
theorem Fx.refl (M : Nat → Prop) (w : World) : Fx M w w := ⟨rfl, rfl, rfl, Nat.le_refl _, fun _ _ _ => rfl⟩
theorem Fx.trans {M N : Nat → Prop} {a b c : World} (h : Fx M a b) (k : Fx N b c) (hN : ∀ g, g < a.heap.size → N g → M g) : Fx M a c :=
  ⟨k.os.trans h.os, k.tape.trans h.tape, k.output.trans h.output, Nat.le_trans h.size k.size, fun g h1 h2 => (k.block g (Nat.lt_of_lt_of_le h1 h.size) (fun e => h2 (hN g h1 e))).trans (h.block g h1 h2)⟩
theorem Fx.mono {M N : Nat → Prop} {a b : World} (h : Fx M a b) (hN : ∀ g, M g → N g) : Fx N a b := ⟨h.os, h.tape, h.output, h.size, fun g h1 h2 => h.block g h1 fun e => h2 (hN g e)⟩
theorem Fx.bel {M : Nat → Prop} {a b : World} (h : Below a.heap.size a b) : Fx M a b := ⟨h.os, h.tape, h.output, h.size, fun g h1 _ => h.block g h1⟩
theorem Fx.below {M : Nat → Prop} {B : Nat} {a b : World} (h : Fx M a b) (hM : ∀ g, M g → B ≤ g) (hB : B ≤ a.heap.size) : Below B a b :=
  ⟨h.os, h.tape, h.output, h.size, fun g hg => h.block g (by omega) (fun e => by have := hM g e; omega)⟩
theorem Fx.grown {M : Nat → Prop} {a b c : World} {o : Option Nat} (h : Fx M a b) (k : b.grownBy c o) (ho : ∀ g, o = some g → g < a.heap.size → M g) : Fx M a c :=
  ⟨k.os.trans h.os, k.tape.trans h.tape, k.output.trans h.output, Nat.le_trans h.size k.size, fun g h1 h2 => (k.block g (Nat.lt_of_lt_of_le h1 h.size) (fun e => h2 (ho g e.symm h1))).trans (h.block g h1 h2)⟩
theorem Fx.setCell {M : Nat → Prop} {a b : World} (h : Fx M a b) {p : Addr} (hp : p.block < a.heap.size → M p.block) (v : Value) : Fx M a (b.setCell p v) := by
  have e := (Below.refl 0 b).setCell (p := p) (Nat.zero_le _) v
  refine ⟨e.os.trans h.os, e.tape.trans h.tape, e.output.trans h.output, Nat.le_trans h.size e.size, fun g h1 h2 => ?_⟩
  rw [← h.block g h1 h2]
  exact Below.heap_setCell _ _ _ _ (by rintro rfl; exact h2 (hp h1))
theorem Fx.alloc {M : Nat → Prop} {a b : World} (h : Fx M a b) (o : Obj) : Fx M a (b.alloc o) := h.trans (Fx.bel ((Below.refl _ _).alloc (Nat.le_refl _) o) (M := fun _ => False)) (fun _ _ e => e.elim)
theorem Fx.drewN {M : Nat → Prop} {a b : World} (h : Fx M a b) (n : Nat) : Fx M a (b.drewN n) := ⟨h.os, h.tape, h.output, h.size, h.block⟩

theorem OwnX.fx {α : Type} {f : α → List Value} {n : Nat} {t : TypeId} {base : Nat} {w w' : World} {v : Value} {l : List α} {M : Nat → Prop} (h : OwnX f n t base w v l) (k : Fx M w w') (hM : ∀ g, v.ownBlock = some g → ¬ M g) : OwnX f n t base w' v l :=
  h.same fun g hg => k.block g (h.lt hg).2 (hM g hg)

/-- It stays where only other blocks turn. -/
theorem XS.fx {w w' : World} {b B : Nat} {sv fv : Sl} {ss rs : List Sl} {sets : List (List (Int × Int))} {rows : List (List Nat)} {M : Nat → Prop} (h : XS w b B sv fv ss rs sets rows) (k : Fx M w w')
    (hM : ∀ g, M g → g < w.heap.size → ∀ cs t, Blk w g cs t → t ≠ 53 ∧ t ≠ 22 ∧ t ≠ 50 ∧ t ≠ 78 ∧ (t = 3 → ∀ (i : Nat) r, rs[i]? = some r → (Sl.v r).ownBlock ≠ some g)) : XS w' b B sv fv ss rs sets rows := by
  refine ⟨(k.block b h.blk.lt fun e => (hM b e h.blk.lt _ _ h.blk).1 rfl).trans h.blk, h.bb, h.so.fx k fun g hg e => ?_, h.fo.fx k fun g hg e => ?_, h.sl, h.rl, fun i s m hs hm => (h.se i s m hs hm).fx k fun g hg e => ?_, fun i r L hr hL => (h.re i r L hr hL).fx k fun g hg e => ?_, h.ok, h.sep⟩
  · obtain ⟨cs, hb⟩ := h.so.blk hg
    exact (hM g e hb.lt _ _ hb).2.1 rfl
  · obtain ⟨cs, hb⟩ := h.fo.blk hg
    exact (hM g e hb.lt _ _ hb).2.2.1 rfl
  · obtain ⟨cs, hb⟩ := (h.se i s m hs hm).blk hg
    exact (hM g e hb.lt _ _ hb).2.2.2.1 rfl
  · obtain ⟨cs, hb⟩ := (h.re i r L hr hL).blk hg
    exact (hM g e hb.lt _ _ hb).2.2.2.2 rfl i r hr hg
theorem XS.bel {w w' : World} {b B : Nat} {sv fv : Sl} {ss rs : List Sl} {sets : List (List (Int × Int))} {rows : List (List Nat)} (h : XS w b B sv fv ss rs sets rows) (k : Below w.heap.size w w') : XS w' b B sv fv ss rs sets rows :=
  h.fx (M := fun _ => False) (Fx.bel k) fun _ e => e.elim
theorem XS.mb {w : World} {b B : Nat} {sv fv : Sl} {ss rs : List Sl} {sets : List (List (Int × Int))} {rows : List (List Nat)} (h : XS w b B sv fv ss rs sets rows) : ∀ g, Mv b sv fv g → B ≤ g ∧ g < w.heap.size := by
  rintro g (rfl | e | e)
  · exact ⟨h.bb, h.blk.lt⟩
  · exact h.so.lt e
  · exact h.fo.lt e

/-- A store into a block of another kind. -/
theorem XS.other {w : World} {b B : Nat} {sv fv : Sl} {ss rs : List Sl} {sets : List (List (Int × Int))} {rows : List (List Nat)} (h : XS w b B sv fv ss rs sets rows) {p : Nat} {cs : Array Value} {t : TypeId} (hp : Blk w p cs t) (ht : t ≠ 53 ∧ t ≠ 22 ∧ t ≠ 50 ∧ t ≠ 78 ∧ t ≠ 3) (i : Nat) (v : Value) : XS (w.setCell ⟨p, i, none⟩ v) b B sv fv ss rs sets rows :=
  h.fx (M := fun g => g = p) ((Fx.refl (fun g => g = p) w).setCell (p := ⟨p, i, none⟩) (fun _ => rfl) v) fun g e _ cs' t' hb => by
    subst e
    have := (hb.same hp).2
    subst this
    exact ⟨ht.1, ht.2.1, ht.2.2.1, ht.2.2.2.1, fun e => absurd e ht.2.2.2.2⟩

theorem get_snoc {α : Type} {l : List α} {x y : α} {i : Nat} (h : (l ++ [x])[i]? = some y) : (i < l.length ∧ l[i]? = some y) ∨ (i = l.length ∧ y = x) := by
  by_cases c : i < l.length
  · rw [List.getElem?_append_left c] at h
    exact Or.inl ⟨c, h⟩
  · rw [List.getElem?_append_right (by omega)] at h
    have : i - l.length = 0 := by
      have := (List.getElem?_eq_some_iff.1 h).1
      simp at this
      omega
    rw [this] at h
    simp at h
    exact Or.inr ⟨by omega, h.symm⟩

theorem XS.blkS {w w5 : World} {b B : Nat} {sv fv : Sl} {ss rs : List Sl} {sets : List (List (Int × Int))} {rows : List (List Nat)} (h : XS w b B sv fv ss rs sets rows) (g5 : w.grownBy w5 (Sl.v sv).ownBlock) : Blk w5 b #[.slice sv.a sv.n sv.c, .bool false, .slice none 0 0, .slice none 0 0, .slice fv.a fv.n fv.c] 53 :=
  (g5.block b h.blk.lt fun e => by obtain ⟨cs', hc⟩ := h.so.blk e.symm; exact absurd (hc.same h.blk).2 (by decide)).trans h.blk
theorem XS.blkF {w w5 : World} {b B : Nat} {sv fv : Sl} {ss rs : List Sl} {sets : List (List (Int × Int))} {rows : List (List Nat)} (h : XS w b B sv fv ss rs sets rows) (g5 : w.grownBy w5 (Sl.v fv).ownBlock) : Blk w5 b #[.slice sv.a sv.n sv.c, .bool false, .slice none 0 0, .slice none 0 0, .slice fv.a fv.n fv.c] 53 :=
  (g5.block b h.blk.lt fun e => by obtain ⟨cs', hc⟩ := h.fo.blk e.symm; exact absurd (hc.same h.blk).2 (by decide)).trans h.blk

/-- One set more. -/
theorem XS.addSet {w w5 : World} {b B : Nat} {sv fv : Sl} {ss rs : List Sl} {sets : List (List (Int × Int))} {rows : List (List Nat)} (h : XS w b B sv fv ss rs sets rows) {g cap : Nat} {u : Sl} {m : List (Int × Int)}
    (hm : OwnX encS 2 78 B w (Sl.v u) m) (o5 : OwnX encSl 1 22 B w5 (.slice (some ⟨g, 0, none⟩) (ss.length + 1) cap) (ss ++ [u])) (g5 : w.grownBy w5 (Sl.v sv).ownBlock) :
    XS (w5.setCell ⟨b, 0, none⟩ (.slice (some ⟨g, 0, none⟩) (ss.length + 1) cap)) b B ⟨some ⟨g, 0, none⟩, ss.length + 1, cap⟩ fv (ss ++ [u]) rs (sets ++ [m]) rows ∧ Fx (Mv b sv fv) w (w5.setCell ⟨b, 0, none⟩ (.slice (some ⟨g, 0, none⟩) (ss.length + 1) cap)) := by
  have F5 : Fx (fun g => (Sl.v sv).ownBlock = some g) w w5 := (Fx.refl _ w).grown g5 fun g e _ => e
  have F6 : Fx (fun g => (Sl.v sv).ownBlock = some g ∨ g = b) w (w5.setCell ⟨b, 0, none⟩ (.slice (some ⟨g, 0, none⟩) (ss.length + 1) cap)) := (F5.mono (N := fun g => (Sl.v sv).ownBlock = some g ∨ g = b) fun g e => Or.inl e).setCell (p := ⟨b, 0, none⟩) (fun _ => Or.inr rfl) _
  have ne : ∀ g' cs t, Blk w g' cs t → t ≠ 22 → t ≠ 53 → ¬ ((Sl.v sv).ownBlock = some g' ∨ g' = b) := fun g' cs t hb h1 h2 e => by
    rcases e with e | rfl
    · obtain ⟨cs', hc⟩ := h.so.blk e
      exact h1 (hc.same hb).2.symm
    · exact h2 (h.blk.same hb).2.symm
  have hb5 : Blk w5 b _ 53 := (F5.block b h.blk.lt fun e => by obtain ⟨cs', hc⟩ := h.so.blk e; exact absurd (hc.same h.blk).2 (by decide)).trans h.blk
  refine ⟨⟨?_, h.bb, ?_, ?_, by simp [h.sl], h.rl, ?_, ?_, h.ok, h.sep⟩, F6.mono fun g e => ?_⟩
  · exact hb5.set 0 _
  · have : (Sl.v ⟨some ⟨g, 0, none⟩, ss.length + 1, cap⟩).ownBlock ≠ some b := fun e => by
      obtain ⟨cs, hc⟩ := o5.blk e
      exact absurd (hc.same hb5).2 (by decide)
    exact o5.setOther this _
  · exact h.fo.fx F6 fun g hg => by
      obtain ⟨cs, hc⟩ := h.fo.blk hg
      exact ne _ _ _ hc (by decide) (by decide)
  · intro i s m' hs hm'
    rcases get_snoc hs with ⟨h1, hs⟩ | ⟨h1, rfl⟩ <;> rcases get_snoc hm' with ⟨h2, hm'⟩ | ⟨h2, rfl⟩
    · exact (h.se i s m' hs hm').fx F6 fun g hg => by
        obtain ⟨cs, hc⟩ := (h.se i s m' hs hm').blk hg
        exact ne _ _ _ hc (by decide) (by decide)
    · have := h.sl; omega
    · have := h.sl; omega
    · exact hm.fx F6 fun g hg => by
        obtain ⟨cs, hc⟩ := hm.blk hg
        exact ne _ _ _ hc (by decide) (by decide)
  · intro i r L hr hL
    exact (h.re i r L hr hL).fx F6 fun g hg => by
      obtain ⟨cs, hc⟩ := (h.re i r L hr hL).blk hg
      exact ne _ _ _ hc (by decide) (by decide)
  · rcases e with e | rfl
    · exact Or.inr (Or.inl e)
    · exact Or.inl rfl

/-- One row more, empty. -/
theorem XS.addRow {w w5 : World} {b B : Nat} {sv fv : Sl} {ss rs : List Sl} {sets : List (List (Int × Int))} {rows : List (List Nat)} (h : XS w b B sv fv ss rs sets rows) {g cap : Nat}
    (o5 : OwnX encSl 1 50 B w5 (.slice (some ⟨g, 0, none⟩) (rs.length + 1) cap) (rs ++ [⟨none, 0, 0⟩])) (g5 : w.grownBy w5 (Sl.v fv).ownBlock) :
    XS (w5.setCell ⟨b, 4, none⟩ (.slice (some ⟨g, 0, none⟩) (rs.length + 1) cap)) b B sv ⟨some ⟨g, 0, none⟩, rs.length + 1, cap⟩ ss (rs ++ [⟨none, 0, 0⟩]) sets (rows ++ [[]]) ∧ Fx (Mv b sv fv) w (w5.setCell ⟨b, 4, none⟩ (.slice (some ⟨g, 0, none⟩) (rs.length + 1) cap)) := by
  have F5 : Fx (fun g => (Sl.v fv).ownBlock = some g) w w5 := (Fx.refl _ w).grown g5 fun g e _ => e
  have F6 : Fx (fun g => (Sl.v fv).ownBlock = some g ∨ g = b) w (w5.setCell ⟨b, 4, none⟩ (.slice (some ⟨g, 0, none⟩) (rs.length + 1) cap)) := (F5.mono (N := fun g => (Sl.v fv).ownBlock = some g ∨ g = b) fun g e => Or.inl e).setCell (p := ⟨b, 4, none⟩) (fun _ => Or.inr rfl) _
  have ne : ∀ g' cs t, Blk w g' cs t → t ≠ 50 → t ≠ 53 → ¬ ((Sl.v fv).ownBlock = some g' ∨ g' = b) := fun g' cs t hb h1 h2 e => by
    rcases e with e | rfl
    · obtain ⟨cs', hc⟩ := h.fo.blk e
      exact h1 (hc.same hb).2.symm
    · exact h2 (h.blk.same hb).2.symm
  have hb5 : Blk w5 b _ 53 := (F5.block b h.blk.lt fun e => by obtain ⟨cs', hc⟩ := h.fo.blk e; exact absurd (hc.same h.blk).2 (by decide)).trans h.blk
  have old : ∀ (i : Nat) r r', (rs ++ [(⟨none, 0, 0⟩ : Sl)])[i]? = some r → (Sl.v r).ownBlock = some r' → rs[i]? = some r := fun i r g hr hg => by
    rcases get_snoc hr with ⟨_, hr⟩ | ⟨_, rfl⟩
    · exact hr
    · cases hg
  refine ⟨⟨?_, h.bb, ?_, ?_, h.sl, by simp [h.rl], ?_, ?_, ?_, fun i j r r' g hr hr' hg hg' => h.sep i j r r' g (old i r g hr hg) (old j r' g hr' hg') hg hg'⟩, F6.mono fun g e => ?_⟩
  · exact hb5.set 4 _
  · exact h.so.fx F6 fun g hg => by
      obtain ⟨cs, hc⟩ := h.so.blk hg
      exact ne _ _ _ hc (by decide) (by decide)
  · have : (Sl.v ⟨some ⟨g, 0, none⟩, rs.length + 1, cap⟩).ownBlock ≠ some b := fun e => by
      obtain ⟨cs, hc⟩ := o5.blk e
      exact absurd (hc.same hb5).2 (by decide)
    exact o5.setOther this _
  · intro i s m hs hm
    exact (h.se i s m hs hm).fx F6 fun g hg => by
      obtain ⟨cs, hc⟩ := (h.se i s m hs hm).blk hg
      exact ne _ _ _ hc (by decide) (by decide)
  · intro i r L hr hL
    rcases get_snoc hr with ⟨h1, hr⟩ | ⟨h1, rfl⟩ <;> rcases get_snoc hL with ⟨h2, hL⟩ | ⟨h2, rfl⟩
    · exact (h.re i r L hr hL).fx F6 fun g hg => by
        obtain ⟨cs, hc⟩ := (h.re i r L hr hL).blk hg
        exact ne _ _ _ hc (by decide) (by decide)
    · have := h.rl; omega
    · have := h.rl; omega
    · exact OwnX.nil _ _ _ _ _
  · intro i L hL
    rcases get_snoc hL with ⟨_, hL⟩ | ⟨_, rfl⟩
    · exact h.ok i L hL
    · exact ⟨List.Pairwise.nil, by simp⟩
  · rcases e with e | rfl
    · exact Or.inr (Or.inr e)
    · exact Or.inl rfl

end Go.Proofs.YtjjlkjfhhpogaaaDoor
