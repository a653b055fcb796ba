/-
  A Cat's and an Alt's parts, one behind the other: what stands between two steps.
-/
import Derived.Test.YtjjlkjfhhpogaaaDoorXp
namespace Go.Proofs.YtjjlkjfhhpogaaaDoor
open Go.RowKit

abbrev Own (s : Sl) (g : Nat) : Prop := (Sl.v s).ownBlock = some g

/-- Four rows of numbers of the call's own, apart from one another and from all rows of R. -/
structure L4 (base : Nat) (w : World) (R : List Sl) (f1 l1 f2 l2 : Sl) (F1 L1 F2 L2 : List Nat) : Prop where
  of1 : OwnI base w (Sl.v f1) F1
  ol1 : OwnI base w (Sl.v l1) L1
  of2 : OwnI base w (Sl.v f2) F2
  ol2 : OwnI base w (Sl.v l2) L2
  rows : ∀ (k : Nat) r g, R[k]? = some r → Own r g → ¬ Own f1 g ∧ ¬ Own l1 g ∧ ¬ Own f2 g ∧ ¬ Own l2 g
  f1l1 : ∀ g, Own f1 g → ¬ Own l1 g
  f1f2 : ∀ g, Own f1 g → ¬ Own f2 g
  f1l2 : ∀ g, Own f1 g → ¬ Own l2 g
  l1f2 : ∀ g, Own l1 g → ¬ Own f2 g
  l1l2 : ∀ g, Own l1 g → ¬ Own l2 g
  f2l2 : ∀ g, Own f2 g → ¬ Own l2 g

theorem L4.swap {base : Nat} {w : World} {R : List Sl} {f1 l1 f2 l2 : Sl} {F1 L1 F2 L2 : List Nat} (h : L4 base w R f1 l1 f2 l2 F1 L1 F2 L2) : L4 base w R l1 f1 l2 f2 L1 F1 L2 F2 :=
  ⟨h.ol1, h.of1, h.ol2, h.of2, fun k r g h1 h2 => by obtain ⟨a, b, c, d⟩ := h.rows k r g h1 h2; exact ⟨b, a, d, c⟩, fun g a b => h.f1l1 g b a, fun g a b => h.l1l2 g a b, fun g a b => h.l1f2 g a b, fun g a b => h.f1l2 g a b, fun g a b => h.f1f2 g a b, fun g a b => h.f2l2 g b a⟩
theorem L4.fx {base : Nat} {w w' : World} {R : List Sl} {f1 l1 f2 l2 : Sl} {F1 L1 F2 L2 : List Nat} {M : Nat → Prop} (h : L4 base w R f1 l1 f2 l2 F1 L1 F2 L2) (k : Fx M w w') (hM : ∀ g, M g → ¬ Own f1 g ∧ ¬ Own l1 g ∧ ¬ Own f2 g ∧ ¬ Own l2 g) : L4 base w' R f1 l1 f2 l2 F1 L1 F2 L2 :=
  ⟨h.of1.fx k fun g e m => (hM g m).1 e, h.ol1.fx k fun g e m => (hM g m).2.1 e, h.of2.fx k fun g e m => (hM g m).2.2.1 e, h.ol2.fx k fun g e m => (hM g m).2.2.2 e, h.rows, h.f1l1, h.f1f2, h.f1l2, h.l1f2, h.l1l2, h.f2l2⟩
theorem own_nil (g : Nat) : ¬ Own ⟨none, 0, 0⟩ g := fun e => by cases e
theorem L4.nilL {base : Nat} {w : World} {R : List Sl} {f1 l1 f2 l2 : Sl} {F1 L1 F2 L2 : List Nat} (h : L4 base w R f1 l1 f2 l2 F1 L1 F2 L2) : L4 base w R f1 ⟨none, 0, 0⟩ f2 l2 F1 [] F2 L2 :=
  ⟨h.of1, OwnX.nil _ _ _ _ _, h.of2, h.ol2, fun k r g h1 h2 => by obtain ⟨a, b, c, d⟩ := h.rows k r g h1 h2; exact ⟨a, own_nil g, c, d⟩, fun g _ e => own_nil g e, h.f1f2, h.f1l2, fun g e => absurd e (own_nil g), fun g e => absurd e (own_nil g), h.f2l2⟩
theorem L4.end_ {base : Nat} {w : World} {R : List Sl} {f1 l1 f2 l2 : Sl} {F1 L1 F2 L2 : List Nat} (h : L4 base w R f1 l1 f2 l2 F1 L1 F2 L2) : L4 base w R f1 l1 ⟨none, 0, 0⟩ ⟨none, 0, 0⟩ F1 L1 [] [] :=
  ⟨h.of1, h.ol1, OwnX.nil _ _ _ _ _, OwnX.nil _ _ _ _ _, fun k r g h1 h2 => by obtain ⟨a, b, c, d⟩ := h.rows k r g h1 h2; exact ⟨a, b, own_nil g, own_nil g⟩, h.f1l1, fun g _ e => own_nil g e, fun g _ e => own_nil g e, fun g _ e => own_nil g e, fun g _ e => own_nil g e, fun g e => absurd e (own_nil g)⟩
theorem L4.appF {base : Nat} {w w5 : World} {R : List Sl} {f1 l1 f2 l2 f' : Sl} {F1 L1 F2 L2 F' : List Nat} (h : L4 base w R f1 l1 f2 l2 F1 L1 F2 L2) (hR : ∀ (k : Nat) r g, R[k]? = some r → Own r g → g < w.heap.size)
    (o5 : OwnI base w5 (Sl.v f') F') (g5 : w.grownBy w5 (Sl.v f1).ownBlock) (b5 : (Sl.v f').ownBlock = (Sl.v f1).ownBlock ∨ ∃ g, w.heap.size ≤ g ∧ (Sl.v f').ownBlock = some g) : L4 base w5 R f' l1 f2 l2 F' L1 F2 L2 := by
  have k5 : Fx (fun g => Own f1 g) w w5 := (Fx.refl _ w).grown g5 fun g e _ => e
  have nn : ∀ (s : Sl) L, OwnI base w (Sl.v s) L → (∀ g, Own f1 g → ¬ Own s g) → ∀ g, Own f' g → ¬ Own s g := fun s L hs hne g hg e => by
    rcases b5 with b5 | ⟨g', h1, h2⟩
    · exact hne g (b5.symm.trans hg) e
    · have h3 : some g = some g' := hg.symm.trans h2
      injection h3 with h3
      have := (hs.lt e).2
      omega
  refine ⟨o5, h.ol1.fx k5 fun g e m => h.f1l1 g m e, h.of2.fx k5 fun g e m => h.f1f2 g m e, h.ol2.fx k5 fun g e m => h.f1l2 g m e, fun k r g h1 h2 => ?_, nn _ _ h.ol1 h.f1l1, nn _ _ h.of2 h.f1f2, nn _ _ h.ol2 h.f1l2, h.l1f2, h.l1l2, h.f2l2⟩
  obtain ⟨a, b, c, d⟩ := h.rows k r g h1 h2
  refine ⟨fun e => ?_, b, c, d⟩
  rcases b5 with b5 | ⟨g', h3, h4⟩
  · exact a (b5.symm.trans e)
  · have h5 : some g = some g' := e.symm.trans h4
    injection h5 with h5
    have := hR k r g h1 h2
    omega

/-- Between two steps. -/
structure MX (w : World) (b B : Nat) (sv fv : Sl) (ss rs : List Sl) (sets : List (List (Int × Int))) (rows : List (List Nat)) (sv' fv' : Sl) (ss' rs' : List Sl) (sets' : List (List (Int × Int))) (rows' : List (List Nat)) (f1 l1 f2 l2 : Sl) (F1 L1 F2 L2 : List Nat) (w' : World) : Prop where
  xs : XS w' b B sv' fv' (ss ++ ss') (rs ++ rs') (sets ++ sets') (rows ++ rows')
  fx : Fx (Mv b sv fv) w w'
  mv : ∀ g, Mv b sv' fv' g → Mv b sv fv g ∨ w.heap.size ≤ g
  l4 : L4 w.heap.size w' (rs ++ rs') f1 l1 f2 l2 F1 L1 F2 L2
  new : ∀ (k : Nat) r g, rs'[k]? = some r → Own r g → w.heap.size ≤ g

section
variable {w w' : World} {b B : Nat} {sv fv : Sl} {ss rs : List Sl} {sets : List (List (Int × Int))} {rows : List (List Nat)} {sv' fv' : Sl} {ss' rs' : List Sl} {sets' : List (List (Int × Int))} {rows' : List (List Nat)} {f1 l1 f2 l2 : Sl} {F1 L1 F2 L2 : List Nat}

theorem XS.rlt (h : XS w b B sv fv ss rs sets rows) (k : Nat) (r : Sl) (g : Nat) (hr : rs[k]? = some r) (hg : Own r g) : B ≤ g ∧ g < w.heap.size := by
  obtain ⟨L, hL⟩ : ∃ L, rows[k]? = some L := ⟨_, List.getElem?_eq_getElem (by have := (List.getElem?_eq_some_iff.1 hr).1; have := h.rl; omega)⟩
  exact (h.re k r L hr hL).lt hg

theorem MX.bel {w2 : World} (h : MX w b B sv fv ss rs sets rows sv' fv' ss' rs' sets' rows' f1 l1 f2 l2 F1 L1 F2 L2 w') (k : Below w'.heap.size w' w2) : MX w b B sv fv ss rs sets rows sv' fv' ss' rs' sets' rows' f1 l1 f2 l2 F1 L1 F2 L2 w2 :=
  ⟨h.xs.bel k, h.fx.trans (Fx.bel (M := fun _ => False) k) fun _ _ e => e.elim, h.mv, h.l4.fx (Fx.bel (M := fun _ => False) k) fun _ e => e.elim, h.new⟩
theorem own3 {base : Nat} {s : Sl} {L : List Nat} (h : OwnI base w (Sl.v s) L) {p : Nat} {cs : Array Value} {t : TypeId} (hp : Blk w p cs t) (ht : t ≠ 3) : ¬ Own s p := fun e => by
  obtain ⟨cs', hc⟩ := h.blk e
  exact ht (hp.same hc).2
/-- A store into a block of told, a new one. -/
theorem MX.other (h : MX w b B sv fv ss rs sets rows sv' fv' ss' rs' sets' rows' f1 l1 f2 l2 F1 L1 F2 L2 w') {p : Nat} {cs : Array Value} (hp : Blk w' p cs 89) (hn : w.heap.size ≤ p) (i : Nat) (v : Value) : MX w b B sv fv ss rs sets rows sv' fv' ss' rs' sets' rows' f1 l1 f2 l2 F1 L1 F2 L2 (w'.setCell ⟨p, i, none⟩ v) := by
  refine ⟨h.xs.other hp (by decide) i v, h.fx.setCell (p := ⟨p, i, none⟩) (fun e => by exact absurd e (by show ¬ p < _; omega)) v, h.mv, h.l4.fx (M := fun g => g = p) ((Fx.refl (fun g => g = p) w').setCell (p := ⟨p, i, none⟩) (fun _ => rfl) v) fun g e => ?_, h.new⟩
  subst e
  exact ⟨own3 h.l4.of1 hp (by decide), own3 h.l4.ol1 hp (by decide), own3 h.l4.of2 hp (by decide), own3 h.l4.ol2 hp (by decide)⟩
theorem MX.nilL (h : MX w b B sv fv ss rs sets rows sv' fv' ss' rs' sets' rows' f1 l1 f2 l2 F1 L1 F2 L2 w') : MX w b B sv fv ss rs sets rows sv' fv' ss' rs' sets' rows' f1 ⟨none, 0, 0⟩ f2 l2 F1 [] F2 L2 w' := ⟨h.xs, h.fx, h.mv, h.l4.nilL, h.new⟩
theorem MX.end_ (h : MX w b B sv fv ss rs sets rows sv' fv' ss' rs' sets' rows' f1 l1 f2 l2 F1 L1 F2 L2 w') : MX w b B sv fv ss rs sets rows sv' fv' ss' rs' sets' rows' f1 l1 ⟨none, 0, 0⟩ ⟨none, 0, 0⟩ F1 L1 [] [] w' := ⟨h.xs, h.fx, h.mv, h.l4.end_, h.new⟩
theorem MX.swap (h : MX w b B sv fv ss rs sets rows sv' fv' ss' rs' sets' rows' f1 l1 f2 l2 F1 L1 F2 L2 w') : MX w b B sv fv ss rs sets rows sv' fv' ss' rs' sets' rows' l1 f1 l2 f2 L1 F1 L2 F2 w' := ⟨h.xs, h.fx, h.mv, h.l4.swap, h.new⟩
theorem MX.appF {w5 : World} {f' : Sl} {F' : List Nat} (h : MX w b B sv fv ss rs sets rows sv' fv' ss' rs' sets' rows' f1 l1 f2 l2 F1 L1 F2 L2 w') (o5 : OwnI w.heap.size w5 (Sl.v f') F') (g5 : w'.grownBy w5 (Sl.v f1).ownBlock) (b5 : (Sl.v f').ownBlock = (Sl.v f1).ownBlock ∨ ∃ g, w'.heap.size ≤ g ∧ (Sl.v f').ownBlock = some g) :
    MX w b B sv fv ss rs sets rows sv' fv' ss' rs' sets' rows' f' l1 f2 l2 F' L1 F2 L2 w5 := by
  refine ⟨h.xs.fx (M := fun g => Own f1 g) ((Fx.refl _ w').grown g5 fun g e _ => e) fun g e _ cs t hb => ?_, h.fx.grown g5 fun g e hlt => ?_, h.mv, h.l4.appF (fun k r g h1 h2 => (h.xs.rlt k r g h1 h2).2) o5 g5 b5, h.new⟩
  · obtain ⟨cs', hc⟩ := h.l4.of1.blk e
    have ht := (hb.same hc).2
    subst ht
    exact ⟨by decide, by decide, by decide, by decide, fun _ i r hr hg => (h.l4.rows i r g hr hg).1 e⟩
  · have := (h.l4.of1.lt e).1
    omega
theorem MX.appL {w5 : World} {l' : Sl} {L' : List Nat} (h : MX w b B sv fv ss rs sets rows sv' fv' ss' rs' sets' rows' f1 l1 f2 l2 F1 L1 F2 L2 w') (o5 : OwnI w.heap.size w5 (Sl.v l') L') (g5 : w'.grownBy w5 (Sl.v l1).ownBlock) (b5 : (Sl.v l').ownBlock = (Sl.v l1).ownBlock ∨ ∃ g, w'.heap.size ≤ g ∧ (Sl.v l').ownBlock = some g) :
    MX w b B sv fv ss rs sets rows sv' fv' ss' rs' sets' rows' f1 l' f2 l2 F1 L' F2 L2 w5 := (h.swap.appF o5 g5 b5).swap

theorem PX.mx {S : List (List (Int × Int))} {F : Nat → Nat → Prop} {Fi La : Nat → Prop} {fi la : Sl} {Lf Ll : List Nat} (h0 : XS w b B sv fv ss rs sets rows) (h : PX w b B sv fv ss rs sets rows S F Fi La sv' fv' fi la ss' rs' sets' rows' Lf Ll w') :
    MX w b B sv fv ss rs sets rows sv' fv' ss' rs' sets' rows' fi la ⟨none, 0, 0⟩ ⟨none, 0, 0⟩ Lf Ll [] [] w' := by
  refine ⟨h.xs, h.fx, h.mv, ⟨h.ofi, h.ola, OwnX.nil _ _ _ _ _, OwnX.nil _ _ _ _ _, fun k r g h1 h2 => ?_, h.apart, fun g _ e => own_nil g e, fun g _ e => own_nil g e, fun g _ e => own_nil g e, fun g _ e => own_nil g e, fun g e => absurd e (own_nil g)⟩, fun k r g h1 h2 => (h.new k r g h1 h2).1⟩
  by_cases c : k < rs.length
  · rw [List.getElem?_append_left c] at h1
    have := (h0.rlt k r g h1 h2).2
    exact ⟨fun e => by have := (h.ofi.lt e).1; omega, fun e => by have := (h.ola.lt e).1; omega, own_nil g, own_nil g⟩
  · rw [List.getElem?_append_right (by omega)] at h1
    obtain ⟨_, a, b⟩ := h.new _ r g h1 h2
    exact ⟨a, b, own_nil g, own_nil g⟩

/-- A part asked: its positions behind. -/
theorem MX.part {w2 w3 : World} {sv2 fv2 fi la : Sl} {ss2 rs2 : List Sl} {sets2 : List (List (Int × Int))} {rows2 : List (List Nat)} {S : List (List (Int × Int))} {F : Nat → Nat → Prop} {Fi La : Nat → Prop} {Lf Ll : List Nat}
    (h : MX w b B sv fv ss rs sets rows sv' fv' ss' rs' sets' rows' f1 l1 ⟨none, 0, 0⟩ ⟨none, 0, 0⟩ F1 L1 [] [] w2)
    (p : PX w2 b B sv' fv' (ss ++ ss') (rs ++ rs') (sets ++ sets') (rows ++ rows') S F Fi La sv2 fv2 fi la ss2 rs2 sets2 rows2 Lf Ll w3) :
    MX w b B sv fv ss rs sets rows sv2 fv2 (ss' ++ ss2) (rs' ++ rs2) (sets' ++ sets2) (rows' ++ rows2) f1 l1 fi la F1 L1 Lf Ll w3 := by
  have hsz := h.fx.size
  have kp : ∀ (s : Sl) L, OwnI w.heap.size w2 (Sl.v s) L → OwnI w.heap.size w3 (Sl.v s) L := fun s L hs => hs.fx p.fx fun g hg => by
    obtain ⟨cs, hc⟩ := hs.blk hg
    exact h.xs.notMv hc (by decide) (by decide) (by decide)
  have old : ∀ (s : Sl) L, OwnI w.heap.size w2 (Sl.v s) L → (∀ g, Own s g → ¬ Own fi g) ∧ ∀ g, Own s g → ¬ Own la g := fun s L hs =>
    ⟨fun g e e' => by have := (hs.lt e).2; have := (p.ofi.lt e').1; omega, fun g e e' => by have := (hs.lt e).2; have := (p.ola.lt e').1; omega⟩
  have hr2 : ∀ (k : Nat) r g, (rs ++ (rs' ++ rs2))[k]? = some r → Own r g → (∃ j, (rs ++ rs')[j]? = some r) ∨ ∃ j, rs2[j]? = some r := fun k r g h1 _ => by
    rw [← List.append_assoc] at h1
    by_cases c : k < (rs ++ rs').length
    · rw [List.getElem?_append_left c] at h1; exact Or.inl ⟨k, h1⟩
    · rw [List.getElem?_append_right (by omega)] at h1; exact Or.inr ⟨_, h1⟩
  refine ⟨by rw [← List.append_assoc, ← List.append_assoc, ← List.append_assoc, ← List.append_assoc]; exact p.xs, h.fx.trans p.fx fun g hg e => ?_, fun g e => ?_, ⟨kp _ _ h.l4.of1, kp _ _ h.l4.ol1, p.ofi.lower hsz, p.ola.lower hsz, fun k r g h1 h2 => ?_, h.l4.f1l1, (old _ _ h.l4.of1).1, (old _ _ h.l4.of1).2, (old _ _ h.l4.ol1).1, (old _ _ h.l4.ol1).2, p.apart⟩, fun k r g h1 h2 => ?_⟩
  · rcases h.mv g e with e | e
    · exact e
    · omega
  · rcases p.mv g e with e | e
    · exact h.mv g e
    · right; omega
  · rcases hr2 k r g h1 h2 with ⟨j, hj⟩ | ⟨j, hj⟩
    · obtain ⟨a, b, _, _⟩ := h.l4.rows j r g hj h2
      have := (h.xs.rlt j r g hj h2).2
      exact ⟨a, b, fun e => by have := (p.ofi.lt e).1; omega, fun e => by have := (p.ola.lt e).1; omega⟩
    · obtain ⟨a, c, d⟩ := p.new j r g hj h2
      exact ⟨fun e => by have := (h.l4.of1.lt e).2; omega, fun e => by have := (h.l4.ol1.lt e).2; omega, c, d⟩
  · by_cases c : k < rs'.length
    · rw [List.getElem?_append_left c] at h1
      exact h.new k r g h1 h2
    · rw [List.getElem?_append_right (by omega)] at h1
      have := (p.new _ r g h1 h2).1
      omega

theorem split_at {α : Type} {a l' l : List α} (hl : l'.length = (a ++ l).length) (h : ∀ k, k < a.length → l'[k]? = (a ++ l)[k]?) : ∃ l2, l' = a ++ l2 ∧ l2.length = l.length := by
  refine ⟨l'.drop a.length, ?_, by rw [List.length_drop, hl, List.length_append]; omega⟩
  apply List.ext_getElem?
  intro k
  by_cases c : k < a.length
  · rw [h k c, List.getElem?_append_left c, List.getElem?_append_left c]
  · rw [List.getElem?_append_right (by omega), List.getElem?_drop]
    congr 1
    omega

/-- The next part's First put behind the last ones so far. -/
theorem MX.join {w3 : World} {A C : List Nat} {va vc : Value} {rs3 : List Sl} {rows3 : List (List Nat)} (h : MX w b B sv fv ss rs sets rows sv' fv' ss' rs' sets' rows' f1 l1 f2 l2 F1 L1 F2 L2 w')
    (j : JI w' b B sv' fv' (ss ++ ss') (rs ++ rs') (sets ++ sets') (rows ++ rows') va vc A C A.length 0 rs3 rows3 w3) (hA : ∀ a ∈ A, rows.length ≤ a) (h0 : rs.length = rows.length) :
    ∃ rs2 rows2, MX w b B sv fv ss rs sets rows sv' fv' ss' rs2 sets' rows2 f1 l1 f2 l2 F1 L1 F2 L2 w3 ∧ rows2.length = rows'.length ∧
      ∀ (k : Nat) L, rows'[k]? = some L → ∃ L', rows2[k]? = some L' ∧ ∀ x, x ∈ L' ↔ x ∈ L ∨ (rows.length + k ∈ A ∧ x ∈ C) := by
  have hsz := h.fx.size
  have hrl3 := j.xs.rl
  have hrl := h.xs.rl
  obtain ⟨rs2, hrs2, hrs2l⟩ := split_at (a := rs) j.len fun k hk => (j.keep k fun e => by have := hA k e; omega).1
  obtain ⟨rows2, hrows2, hrows2l⟩ := split_at (a := rows) (l := rows') (l' := rows3) (by have := j.len; omega) fun k hk => (j.keep k fun e => by have := hA k e; omega).2
  subst hrs2 hrows2
  have F3 := j.fx
  have mrow : ∀ g, ((Sl.v fv').ownBlock = some g ∨ ∃ a r, a ∈ A ∧ (rs ++ rs')[a]? = some r ∧ (Sl.v r).ownBlock = some g) → g < w.heap.size → Mv b sv fv g := fun g e hg => by
    rcases e with e | ⟨a, r, ha, hr, e⟩
    · rcases h.mv g (Or.inr (Or.inr e)) with e | e
      · exact e
      · omega
    · have := hA a ha
      rw [List.getElem?_append_right (by omega)] at hr
      have := h.new _ r g hr e
      omega
  refine ⟨rs2, rows2, ⟨j.xs, h.fx.trans F3 fun g hg e => mrow g e hg, h.mv, ?_, fun k r g h1 h2 => ?_⟩, hrows2l, fun k L hL => ?_⟩
  · have L4' := h.l4.fx F3 fun g e => by
      rcases e with e | ⟨a, r, ha, hr, e⟩
      · obtain ⟨cs, hc⟩ := h.xs.fo.blk e
        exact ⟨own3 h.l4.of1 hc (by decide), own3 h.l4.ol1 hc (by decide), own3 h.l4.of2 hc (by decide), own3 h.l4.ol2 hc (by decide)⟩
      · exact h.l4.rows a r g hr e
    refine ⟨L4'.of1, L4'.ol1, L4'.of2, L4'.ol2, fun k r g h1 h2 => ?_, L4'.f1l1, L4'.f1f2, L4'.f1l2, L4'.l1f2, L4'.l1l2, L4'.f2l2⟩
    obtain ⟨r0, hr0⟩ : ∃ r0, (rs ++ rs')[k]? = some r0 := ⟨_, List.getElem?_eq_getElem (by have := (List.getElem?_eq_some_iff.1 h1).1; have := j.len; omega)⟩
    rcases j.own k r0 r g hr0 h1 h2 with e | e
    · exact h.l4.rows k r0 g hr0 e
    · exact ⟨fun e' => by have := (h.l4.of1.lt e').2; omega, fun e' => by have := (h.l4.ol1.lt e').2; omega, fun e' => by have := (h.l4.of2.lt e').2; omega, fun e' => by have := (h.l4.ol2.lt e').2; omega⟩
  · have h1' : (rs ++ rs2)[rs.length + k]? = some r := by rw [List.getElem?_append_right (by omega)]; simpa using h1
    obtain ⟨r0, hr0⟩ : ∃ r0, rs'[k]? = some r0 := ⟨_, List.getElem?_eq_getElem (by have := (List.getElem?_eq_some_iff.1 h1).1; omega)⟩
    have hr0' : (rs ++ rs')[rs.length + k]? = some r0 := by rw [List.getElem?_append_right (by omega)]; simpa using hr0
    rcases j.own _ r0 r g hr0' h1' h2 with e | e
    · exact h.new k r0 g hr0 e
    · omega
  · have hL' : (rows ++ rows')[rows.length + k]? = some L := by rw [List.getElem?_append_right (by omega)]; simpa using hL
    obtain ⟨L', h1, h2⟩ := j.mem _ L hL'
    rw [List.getElem?_append_right (by omega)] at h1
    refine ⟨L', by simpa using h1, fun x => (h2 x).trans ?_⟩
    rw [List.take_length, List.getElem?_eq_none (Nat.le_refl _)]
    simp

/-- What a part tells, out of what stands in the end. -/
theorem MX.px {S : List (List (Int × Int))} {F : Nat → Nat → Prop} {Fi La : Nat → Prop} (h : MX w b B sv fv ss rs sets rows sv' fv' ss' rs' sets' rows' f1 l1 f2 l2 F1 L1 F2 L2 w') (hf : ListOf Fi F1) (hl : ListOf La L1) (hs : SetsOf S sets') (hr : RowsOf S.length sets.length F rows') :
    PX w b B sv fv ss rs sets rows S F Fi La sv' fv' f1 l1 ss' rs' sets' rows' F1 L1 w' :=
  ⟨h.xs, h.fx, h.mv, h.l4.of1, h.l4.ol1, hf, hl, hs, hr, fun k r g h1 h2 => by
    have h1' : (rs ++ rs')[rs.length + k]? = some r := by rw [List.getElem?_append_right (by omega)]; simpa using h1
    obtain ⟨a, c, _, _⟩ := h.l4.rows _ r g h1' h2
    exact ⟨h.new k r g h1 h2, a, c⟩, h.l4.f1l1⟩
end

theorem ListOf.append {Fi Gi : Nat → Prop} {L M : List Nat} {m : Nat} (h : ListOf Fi L) (k : ListOf Gi M) (h1 : ∀ i, Fi i → i < m) (h2 : ∀ i, Gi i → m ≤ i) : ListOf (fun i => Fi i ∨ Gi i) (L ++ M) := by
  refine ⟨?_, fun j => by rw [List.mem_append, h.2 j, k.2 j]⟩
  rw [Rises, List.pairwise_append]
  exact ⟨h.1, k.1, fun a ha b hb => by have := h1 a ((h.2 a).1 ha); have := h2 b ((k.2 b).1 hb); omega⟩
theorem ListOf.iff {Fi Gi : Nat → Prop} {L : List Nat} (h : ListOf Fi L) (k : ∀ i, Fi i ↔ Gi i) : ListOf Gi L := ⟨h.1, fun j => (h.2 j).trans (k j)⟩
theorem ListOf.nil {Fi : Nat → Prop} (h : ∀ i, ¬ Fi i) : ListOf Fi [] := ⟨List.Pairwise.nil, fun j => by simp [h j]⟩
theorem RowsOf.append {n m o : Nat} {F G : Nat → Nat → Prop} {A C : List (List Nat)} (h : RowsOf n o F A) (k : RowsOf m (o + n) G C) : RowsOf (n + m) o (fun i j => (i < o + n ∧ F i j) ∨ (o + n ≤ i ∧ G i j)) (A ++ C) := by
  refine ⟨by rw [List.length_append, h.1, k.1], fun i L hL j => ?_⟩
  by_cases c : i < n
  · rw [List.getElem?_append_left (by rw [h.1]; exact c)] at hL
    rw [h.2 i L hL j]
    constructor
    · exact fun e => Or.inl ⟨by omega, e⟩
    · rintro (⟨_, e⟩ | ⟨e, _⟩)
      · exact e
      · omega
  · rw [List.getElem?_append_right (by rw [h.1]; omega), h.1] at hL
    rw [k.2 _ L hL j, show o + n + (i - n) = o + i by omega]
    constructor
    · exact fun e => Or.inr ⟨by omega, e⟩
    · rintro (⟨e, _⟩ | ⟨_, e⟩)
      · omega
      · exact e
theorem RowsOf.iff {n o : Nat} {F G : Nat → Nat → Prop} {A : List (List Nat)} (h : RowsOf n o F A) (k : ∀ i j, o ≤ i → i < o + n → (F i j ↔ G i j)) : RowsOf n o G A :=
  ⟨h.1, fun i L hL j => (h.2 i L hL j).trans (k _ _ (by omega) (by have := (List.getElem?_eq_some_iff.1 hL).1; have := h.1; omega))⟩

end Go.Proofs.YtjjlkjfhhpogaaaDoor
