/-
  The walk of join: behind each of some positions comes each one of some others.
-/
import Derived.Test.YtjjlkjfhhpogaaaDoorXs
import Derived.Deep.RegionHeld3
namespace Go.Proofs.YtjjlkjfhhpogaaaDoor
open Go.RowKit

theorem OwnX.drewN {α : Type} {f : α → List Value} {n : Nat} {t : TypeId} {base : Nat} {w : World} {v : Value} {l : List α} (h : OwnX f n t base w v l) (k : Nat) : OwnX f n t base (w.drewN k) v l := h
theorem cellsOf_set1 (rs : List Sl) (a : Nat) (r : Sl) : (cellsOf encSl rs).set a (.slice r.a r.n r.c) = cellsOf encSl (rs.set a r) := by
  induction rs generalizing a with
  | nil => rfl
  | cons s rs ih =>
    cases a with
    | zero => rfl
    | succ a =>
      show (encSl s ++ cellsOf encSl rs).set (a + 1) _ = encSl s ++ cellsOf encSl (rs.set a r)
      rw [← ih]
      rfl

/-- A row's header, taken apart. -/
theorem OwnX.head {α : Type} {f : α → List Value} {n : Nat} {t : TypeId} {base : Nat} {w : World} {s : Sl} {l : List α} (h : OwnX f n t base w (.slice s.a s.n s.c) l) (hne : l ≠ []) : ∃ g, s.a = some ⟨g, 0, none⟩ ∧ s.n = l.length := by
  rcases h.2 with ⟨_, h0⟩ | ⟨g, cap, cur, hv, _⟩
  · exact absurd (List.length_eq_zero_iff.1 h0) hne
  · injection hv with h1 h2 _
    exact ⟨g, h1, h2⟩

theorem set_get {α : Type} {l : List α} {a i : Nat} {x y : α} (h : (l.set a x)[i]? = some y) : (i = a ∧ y = x) ∨ (i ≠ a ∧ l[i]? = some y) := by
  by_cases c : i = a
  · subst c
    by_cases d : i < l.length
    · rw [List.getElem?_set_self d] at h
      injection h with h
      exact Or.inl ⟨rfl, h.symm⟩
    · rw [List.getElem?_eq_none (by simp; omega)] at h
      cases h
  · rw [List.getElem?_set_ne (fun e => c e.symm)] at h
    exact Or.inr ⟨c, h⟩

theorem set_here {α : Type} {l : List α} {i : Nat} {x y : α} (h : l[i]? = some x) : (l.set i y)[i]? = some y := by
  have := (List.getElem?_eq_some_iff.1 h).1
  simp [this]
/-- One of the rows turned, and its slice put back. -/
theorem XS.put {w w5 : World} {b B : Nat} {sv fv : Sl} {ss rs : List Sl} {sets : List (List (Int × Int))} {rows : List (List Nat)} (h : XS w b B sv fv ss rs sets rows) {a gf : Nat} {r r' : Sl} {L L' : List Nat}
    (hr : rs[a]? = some r) (hL : rows[a]? = some L) (hg : fv.a = some ⟨gf, 0, none⟩) (_hB : B ≤ w.heap.size) (o5 : OwnI B w5 (Sl.v r') L') (g5 : w.grownBy w5 (Sl.v r).ownBlock) (b5 : (Sl.v r').ownBlock = (Sl.v r).ownBlock ∨ ∃ g, w.heap.size ≤ g ∧ (Sl.v r').ownBlock = some g)
    (hok : Rises L' ∧ ∀ j ∈ L', j < 200) :
    XS (w5.setCell ⟨gf, a, none⟩ (.slice r'.a r'.n r'.c)) b B sv fv ss (rs.set a r') sets (rows.set a L') ∧ Fx (fun g => (Sl.v r).ownBlock = some g ∨ g = gf) w (w5.setCell ⟨gf, a, none⟩ (.slice r'.a r'.n r'.c)) := by
  have hfo := h.fo
  have hgf : (Value.slice fv.a fv.n fv.c).ownBlock = some gf := by rw [hg]; rfl
  obtain ⟨cf, hbf⟩ := hfo.blk hgf
  have own_r := h.re a r L hr hL
  have rb : ∀ g, (Sl.v r).ownBlock = some g → ∃ cs, Blk w g cs 3 := fun g hg => own_r.blk hg
  have hbf5 : Blk w5 gf cf 50 := (g5.block gf hbf.lt (fun e => by obtain ⟨cs, hc⟩ := rb gf e.symm; exact absurd (hc.same hbf).2 (by decide))).trans hbf
  have F5 : Fx (fun g => (Sl.v r).ownBlock = some g) w w5 := (Fx.refl _ w).grown g5 fun g e _ => e
  have F6 : Fx (fun g => (Sl.v r).ownBlock = some g ∨ g = gf) w (w5.setCell ⟨gf, a, none⟩ (.slice r'.a r'.n r'.c)) := (F5.mono (N := fun g => (Sl.v r).ownBlock = some g ∨ g = gf) fun g e => Or.inl e).setCell (p := ⟨gf, a, none⟩) (fun _ => Or.inr rfl) _
  have ne3 : ∀ g cs t, Blk w g cs t → t ≠ 3 → ¬ ((Sl.v r).ownBlock = some g) := fun g cs t hb ht e => by
    obtain ⟨cs', hc⟩ := rb g e
    exact ht (hc.same hb).2.symm
  have nef : ∀ g cs t, Blk w g cs t → t ≠ 50 → g ≠ gf := fun g cs t hb ht e => by
    subst e
    exact ht (hbf.same hb).2.symm
  refine ⟨⟨?_, h.bb, ?_, ?_, h.sl, by rw [List.length_set, List.length_set]; exact h.rl, ?_, ?_, ?_, ?_⟩, F6⟩
  · exact (F6.block b h.blk.lt fun e => e.elim (ne3 _ _ _ h.blk (by decide)) (nef _ _ _ h.blk (by decide))).trans h.blk
  · exact h.so.fx F6 fun g hg e => by
      obtain ⟨cs, hb⟩ := h.so.blk hg
      exact e.elim (ne3 _ _ _ hb (by decide)) (nef _ _ _ hb (by decide))
  · have o1 : OwnX encSl 1 50 B w5 (.slice fv.a fv.n fv.c) rs := hfo.fx F5 fun g hg e => by
      obtain ⟨cs, hb⟩ := hfo.blk hg
      exact ne3 _ _ _ hb (by decide) e
    have hn : fv.n = rs.length := by
      obtain ⟨_, _, e⟩ := hfo.form
      injection e
    have o2 : w5.ownsRow B 50 1 (.slice (some ⟨gf, 0, none⟩) rs.length fv.c) rs.length (cellsOf encSl rs) := by
      have := o1
      unfold OwnX at this
      rw [hg, hn] at this
      exact this
    have o3 := owns_set o2 a (.slice r'.a r'.n r'.c)
    rw [cellsOf_set1] at o3
    unfold OwnX
    rw [hg, hn, List.length_set]
    exact o3
  · exact fun i s m hs hm => (h.se i s m hs hm).fx F6 fun g hg e => by
      obtain ⟨cs, hb⟩ := (h.se i s m hs hm).blk hg
      exact e.elim (ne3 _ _ _ hb (by decide)) (nef _ _ _ hb (by decide))
  · intro i x y hx hy
    rcases set_get hx with ⟨rfl, rfl⟩ | ⟨hi, hx⟩
    · rcases set_get hy with ⟨_, rfl⟩ | ⟨hi, _⟩
      · exact o5.setOther (fun e => by
          obtain ⟨cs, hb⟩ := o5.blk e
          exact absurd (hb.same hbf5).2 (by decide)) _
      · exact absurd rfl hi
    · rcases set_get hy with ⟨hi', _⟩ | ⟨_, hy⟩
      · exact absurd hi' hi
      · exact (h.re i x y hx hy).fx F6 fun g hg e => by
          obtain ⟨cs, hb⟩ := (h.re i x y hx hy).blk hg
          rcases e with e | e
          · exact hi (h.sep i a x r g hx hr hg e)
          · exact nef _ _ _ hb (by decide) e
  · intro i y hy
    rcases set_get hy with ⟨_, rfl⟩ | ⟨_, hy⟩
    · exact hok
    · exact h.ok i y hy
  · intro i j x y g hx hy hg1 hg2
    have old : ∀ (i : Nat) z, rs[i]? = some z → (Sl.v z).ownBlock = some g → g < w.heap.size := fun i z hz hgz => by
      obtain ⟨L0, hL0⟩ : ∃ L0, rows[i]? = some L0 := ⟨_, List.getElem?_eq_getElem (by have := (List.getElem?_eq_some_iff.1 hz).1; have := h.rl; omega)⟩
      exact ((h.re i z L0 hz hL0).lt hgz).2
    rcases set_get hx with ⟨ei, ex⟩ | ⟨hi, hx'⟩ <;> rcases set_get hy with ⟨ej, ey⟩ | ⟨hj, hy'⟩
    · rw [ei, ej]
    · rw [ex] at hg1
      rw [ei]
      rcases b5 with b5 | ⟨g', h1, h2⟩
      · exact h.sep _ _ _ _ g hr hy' (b5.symm.trans hg1) hg2
      · rw [hg1] at h2
        injection h2 with h2
        have := old j y hy' hg2
        omega
    · rw [ey] at hg2
      rw [ej]
      rcases b5 with b5 | ⟨g', h1, h2⟩
      · exact h.sep _ _ _ _ g hx' hr hg1 (b5.symm.trans hg2)
      · rw [hg2] at h2
        injection h2 with h2
        have := old i x hx' hg1
        omega
    · exact h.sep i j x y g hx' hy' hg1 hg2

/-- The state of join: behind the first i of A comes all of C, behind the next one the first j. -/
structure JI (w : World) (b B : Nat) (sv fv : Sl) (ss rs : List Sl) (sets : List (List (Int × Int))) (rows : List (List Nat)) (va vc : Value) (A C : List Nat) (i j : Nat) (rs' : List Sl) (rows' : List (List Nat)) (wr : World) : Prop where
  xs : XS wr b B sv fv ss rs' sets rows'
  fx : Fx (fun g => (Sl.v fv).ownBlock = some g ∨ ∃ a r, a ∈ A ∧ rs[a]? = some r ∧ (Sl.v r).ownBlock = some g) w wr
  oa : OwnI 0 wr va A
  oc : OwnI 0 wr vc C
  len : rs'.length = rs.length
  keep : ∀ (k : Nat), k ∉ A → rs'[k]? = rs[k]? ∧ rows'[k]? = rows[k]?
  own : ∀ (k : Nat) r r' g, rs[k]? = some r → rs'[k]? = some r' → (Sl.v r').ownBlock = some g → (Sl.v r).ownBlock = some g ∨ w.heap.size ≤ g
  mem : ∀ (k : Nat) L, rows[k]? = some L → ∃ L', rows'[k]? = some L' ∧ ∀ x, x ∈ L' ↔ x ∈ L ∨ (k ∈ A.take i ∧ x ∈ C) ∨ (A[i]? = some k ∧ x ∈ C.take j)

theorem mem_take_succ {α : Type} {l : List α} {i : Nat} {x y : α} (h : l[i]? = some x) : y ∈ l.take (i + 1) ↔ y ∈ l.take i ∨ y = x := by
  rw [take_succ_of h, List.mem_append, List.mem_singleton]

theorem JI.next {w : World} {b B : Nat} {sv fv : Sl} {ss rs : List Sl} {sets : List (List (Int × Int))} {rows : List (List Nat)} {va vc : Value} {A C : List Nat} {i : Nat} {rs' : List Sl} {rows' : List (List Nat)} {wr : World}
    (h : JI w b B sv fv ss rs sets rows va vc A C i C.length rs' rows' wr) (a : Nat) (ha : A[i]? = some a) : JI w b B sv fv ss rs sets rows va vc A C (i + 1) 0 rs' rows' wr := by
  refine ⟨h.xs, h.fx, h.oa, h.oc, h.len, h.keep, h.own, fun k L hL => ?_⟩
  obtain ⟨L', h1, h2⟩ := h.mem k L hL
  refine ⟨L', h1, fun x => (h2 x).trans ?_⟩
  rw [List.take_length, mem_take_succ ha, ha]
  simp
  constructor
  · rintro (h | ⟨h3, h4⟩ | ⟨h3, h4⟩)
    · exact Or.inl h
    · exact Or.inr ⟨Or.inl h3, h4⟩
    · exact Or.inr ⟨Or.inr h3.symm, h4⟩
  · rintro (h | ⟨h3 | h3, h4⟩)
    · exact Or.inl h
    · exact Or.inr (Or.inl ⟨h3, h4⟩)
    · exact Or.inr (Or.inr ⟨h3.symm, h4⟩)

theorem JI.put {w : World} {b B : Nat} {sv fv : Sl} {ss rs : List Sl} {sets : List (List (Int × Int))} {rows : List (List Nat)} {va vc : Value} {A C : List Nat} {i j : Nat} {rs' : List Sl} {rows' : List (List Nat)} {wr w5 : World}
    (h : JI w b B sv fv ss rs sets rows va vc A C i j rs' rows' wr) (hA : ∀ (k : Nat) r g, rs[k]? = some r → (Sl.v r).ownBlock = some g → va.ownBlock ≠ some g ∧ vc.ownBlock ≠ some g) (hva : ∀ g, va.ownBlock = some g → g < w.heap.size) (hvc : ∀ g, vc.ownBlock = some g → g < w.heap.size)
    {a x gf : Nat} {r r' : Sl} {L : List Nat}
    (ha : A[i]? = some a) (hx : C[j]? = some x) (hx2 : x < 200) (hr : rs'[a]? = some r) (hL : rows'[a]? = some L) (hg : fv.a = some ⟨gf, 0, none⟩) (hB : B ≤ wr.heap.size) (o5 : OwnI B w5 (Sl.v r') (insR L x)) (g5 : wr.grownBy w5 (Sl.v r).ownBlock) (b5 : (Sl.v r').ownBlock = (Sl.v r).ownBlock ∨ ∃ g, wr.heap.size ≤ g ∧ (Sl.v r').ownBlock = some g) :
    JI w b B sv fv ss rs sets rows va vc A C i (j + 1) (rs'.set a r') (rows'.set a (insR L x)) (w5.setCell ⟨gf, a, none⟩ (.slice r'.a r'.n r'.c)) := by
  have hok := h.xs.ok a L hL
  obtain ⟨X6, F6⟩ := h.xs.put hr hL hg hB o5 g5 b5 ⟨insR_rises hok.1, fun y hy => by
    rcases (insR_mem L x y).1 hy with hy | rfl
    · exact hok.2 y hy
    · exact hx2⟩
  have hgf : (Value.slice fv.a fv.n fv.c).ownBlock = some gf := by rw [hg]; rfl
  obtain ⟨cf, hbf⟩ := h.xs.fo.blk hgf
  have hal : a < rs.length := by rw [← h.len]; exact (List.getElem?_eq_some_iff.1 hr).1
  obtain ⟨r0, hr0⟩ : ∃ r0, rs[a]? = some r0 := ⟨_, List.getElem?_eq_getElem hal⟩
  have hsz := h.fx.size
  have keep : ∀ (v : Value) (D : List Nat), OwnI 0 wr v D → (∀ g, v.ownBlock = some g → g < w.heap.size) → (∀ (k : Nat) r g, rs[k]? = some r → (Sl.v r).ownBlock = some g → v.ownBlock ≠ some g) → OwnI 0 (w5.setCell ⟨gf, a, none⟩ (.slice r'.a r'.n r'.c)) v D := fun v D hv hlt hne => hv.fx F6 fun g hg e => by
    obtain ⟨cs, hb⟩ := hv.blk hg
    rcases e with e | rfl
    · rcases h.own a r0 r g hr0 hr e with e | e
      · exact hne a r0 g hr0 e hg
      · have := hlt g hg; omega
    · exact absurd (hb.same hbf).2 (by decide)
  refine ⟨X6, ?_, keep va A h.oa hva fun k r g h1 h2 => (hA k r g h1 h2).1, keep vc C h.oc hvc fun k r g h1 h2 => (hA k r g h1 h2).2, by rw [List.length_set]; exact h.len, fun k hk => ?_, ?_, ?_⟩
  · refine h.fx.trans F6 fun g hgl e => ?_
    rcases e with e | rfl
    · rcases h.own a r0 r g hr0 hr e with e | e
      · exact Or.inr ⟨a, r0, List.mem_of_getElem? ha, hr0, e⟩
      · omega
    · exact Or.inl hgf
  · have hka : k ≠ a := fun e => hk (e ▸ List.mem_of_getElem? ha)
    rw [List.getElem?_set_ne (fun e => hka e.symm), List.getElem?_set_ne (fun e => hka e.symm)]
    exact h.keep k hk
  · intro k q q' g hq hq' hg'
    rcases set_get hq' with ⟨rfl, rfl⟩ | ⟨_, hq'⟩
    · rcases b5 with b5 | ⟨g', h1, h2⟩
      · exact h.own k q r g hq hr (b5.symm.trans hg')
      · rw [hg'] at h2
        injection h2 with h2
        right; omega
    · exact h.own k q q' g hq hq' hg'
  · intro k K hK
    obtain ⟨K', h1, h2⟩ := h.mem k K hK
    by_cases c : k = a
    · subst c
      rw [hL] at h1
      injection h1 with h1
      subst h1
      refine ⟨insR L x, set_here hL, fun y => ?_⟩
      rw [insR_mem, h2 y, mem_take_succ hx]
      simp only [ha]
      constructor
      · rintro ((h | h | h) | h)
        · exact Or.inl h
        · exact Or.inr (Or.inl h)
        · exact Or.inr (Or.inr ⟨by trivial, Or.inl h.2⟩)
        · exact Or.inr (Or.inr ⟨by trivial, Or.inr h⟩)
      · rintro (h | h | ⟨_, h | h⟩)
        · exact Or.inl (Or.inl h)
        · exact Or.inl (Or.inr (Or.inl h))
        · exact Or.inl (Or.inr (Or.inr ⟨by trivial, h⟩))
        · exact Or.inr h
    · refine ⟨K', by rw [List.getElem?_set_ne (fun e => c e.symm)]; exact h1, fun y => (h2 y).trans ?_⟩
      rw [ha]
      have : ∀ z, ¬ (some a = some k ∧ z) := fun z e => c (by injection e.1 with e; exact e.symm)
      constructor
      · rintro (h | h | h)
        · exact Or.inl h
        · exact Or.inr (Or.inl h)
        · exact absurd h (this _)
      · rintro (h | h | h)
        · exact Or.inl h
        · exact Or.inr (Or.inl h)
        · exact absurd h (this _)

set_option maxRecDepth 100000 in
set_option maxHeartbeats 4000000 in
theorem join_any (w : World) (b B : Nat) (sv fv : Sl) (ss rs : List Sl) (sets : List (List (Int × Int))) (rows : List (List Nat)) (va vc : Value) (A C : List Nat) (hX : XS w b B sv fv ss rs sets rows) (hB : B ≤ w.heap.size) (oa : OwnI 0 w va A) (oc : OwnI 0 w vc C)
    (hne : ∀ (k : Nat) r g, rs[k]? = some r → (Sl.v r).ownBlock = some g → va.ownBlock ≠ some g ∧ vc.ownBlock ≠ some g) (hA : ∀ a ∈ A, a < rows.length) (hC : ∀ x ∈ C, x < 200) (hAl : A.length ≤ 1000) (hCl : C.length ≤ 1000) :
    Calls Tryd.prog 91 #[.pointer (some ⟨b, 0, none⟩), va, vc] w fun e w' => (∃ v, e = .returned v) ∧ ∃ rs' rows', JI w b B sv fv ss rs sets rows va vc A C A.length 0 rs' rows' w' := by
  have HN : Hid (∀ (k : Nat) r g, rs[k]? = some r → (Sl.v r).ownBlock = some g → va.ownBlock ≠ some g ∧ vc.ownBlock ≠ some g) := hne
  have HVA : Hid (∀ g, va.ownBlock = some g → g < w.heap.size) := fun g hg => (oa.lt hg).2
  have HVC : Hid (∀ g, vc.ownBlock = some g → g < w.heap.size) := fun g hg => (oc.lt hg).2
  have HA : Hid (∀ a ∈ A, a < rows.length) := hA
  have HC : Hid (∀ x ∈ C, x < 200) := hC
  have J0 : Hid (JI w b B sv fv ss rs sets rows va vc A C 0 0 rs rows w) := ⟨hX, Fx.refl _ _, oa, oc, rfl, fun _ _ => ⟨rfl, rfl⟩, fun k r r' g h1 h2 h3 => Or.inl (by rw [h1] at h2; injection h2 with h2; rw [h2]; exact h3), fun k L hL => ⟨L, hL, fun x => by simp⟩⟩
  have HRL : Hid (rs.length = rows.length) := hX.rl
  obtain ⟨aa, ac, rfl⟩ := oa.form
  obtain ⟨ca, cc, rfl⟩ := oc.form
  obtain ⟨NA, hNA⟩ : ∃ N : Nat, N = A.length := ⟨_, rfl⟩
  obtain ⟨NC, hNC⟩ : ∃ N : Nat, N = C.length := ⟨_, rfl⟩
  have HNA : Hid (NA = A.length) := hNA
  have HNC : Hid (NC = C.length) := hNC
  rw [← hNA] at J0 HN HVA ⊢
  rw [← hNC] at J0 HN HVC ⊢
  rw [← hNA] at hAl
  rw [← hNC] at hCl
  clear hne hA hC hX oa oc hNA hNC
  go_enter Tryd.func91, Tryd.ntmps91
  go_wp2_with fail
  go_loopw [12] (fun vi wr => ∃ (i : Nat) (rs' : List Sl) (rows' : List (List Nat)), i ≤ NA ∧ vi = .int .i64 i ∧ Hid (JI w b B sv fv ss rs sets rows (.slice aa NA ac) (.slice ca NC cc) A C i 0 rs' rows' wr)) (fun vi _ => NA - (intOf vi).toNat)
  case atStart => exact ⟨0, rs, rows, Nat.zero_le _, rfl, J0⟩
  case round =>
    clear J0
    obtain ⟨i, rs1, rows1, hi, rfl, HJ⟩ := hrel
    by_cases hlt : i < NA
    case neg =>
      have e : i = NA := by omega
      subst e
      go_wp2_with fail
      go_end0
      have h := HJ.out
      rw [HNA.out] at h ⊢
      exact ⟨⟨_, rfl⟩, rs1, rows1, h⟩
    obtain ⟨a, ha⟩ : ∃ a, A[i]? = some a := ⟨_, List.getElem?_eq_getElem (by have := HNA.out; omega)⟩
    have HAi : Hid (A[i]? = some a) := ha
    obtain ⟨ba, oa, rfl, hba, c1⟩ := (HJ.out.oa.row encI_len).csI ha
    clear ha
    go_wp2_with fail
    go_loopw [18] (fun vj wr => ∃ (j : Nat) (rs' : List Sl) (rows' : List (List Nat)), j ≤ NC ∧ vj = .int .i64 j ∧ Hid (JI w b B sv fv ss rs sets rows (.slice (some ⟨ba, oa, none⟩) NA ac) (.slice ca NC cc) A C i j rs' rows' wr)) (fun vj _ => NC - (intOf vj).toNat)
    case atStart => exact ⟨0, rs1, rows1, Nat.zero_le _, rfl, HJ⟩
    case round =>
      clear HJ c1 rs1 rows1 hba
      obtain ⟨j, rs1, rows1, hj, rfl, HJ⟩ := hrel
      by_cases hltj : j < NC
      case neg =>
        have e : j = NC := by omega
        subst e
        go_wp2_with fail
        go_roundw
        case rel => exact ⟨i + 1, rs1, rows1, by omega, by go_num, JI.next (by have h := HJ.out; rw [HNC.out] at h ⊢; exact h) a HAi.out⟩
        case measure => simp [intOf]; omega
      obtain ⟨x, hx⟩ : ∃ x, C[j]? = some x := ⟨_, List.getElem?_eq_getElem (by have := HNC.out; omega)⟩
      have HCj : Hid (C[j]? = some x) := hx
      obtain ⟨bc, oc, rfl, hbc, c2⟩ := (HJ.out.oc.row encI_len).csI hx
      have hal : a < rs1.length := by have := HA.out a (List.mem_of_getElem? HAi.out); have := HJ.out.len; have := HRL.out; omega
      have hrl := HJ.out.xs.rl
      obtain ⟨r, hr⟩ : ∃ r, rs1[a]? = some r := ⟨_, List.getElem?_eq_getElem hal⟩
      obtain ⟨L, hL⟩ : ∃ L, rows1[a]? = some L := ⟨_, List.getElem?_eq_getElem (by omega)⟩
      have HR : Hid (rs1[a]? = some r) := hr
      have HL : Hid (rows1[a]? = some L) := hL
      obtain ⟨gf, hgf, hfn⟩ := HJ.out.xs.fo.head (by intro e; rw [e] at hal; simp at hal)
      have HG : Hid (fv.a = some ⟨gf, 0, none⟩) := hgf
      have c3 := HJ.out.xs.blk.c 4
      have hfo := HJ.out.xs.fo
      obtain ⟨fa, fn, fc⟩ := fv
      simp only at hgf hfn c3 hfo
      subst hgf
      subst hfn
      obtain ⟨cf, hbf⟩ := hfo.blk (g := gf) rfl
      have c4 := hbf.c a
      obtain ⟨_, _, e, _, hc4⟩ := (hfo.row encSl_len).at hr
      injection e with e
      injection e with e1 e2
      subst e1 e2
      have c5 := hc4 0 _ rfl
      simp only [Nat.zero_add, Nat.mul_one, Nat.add_zero] at c5
      have hbfz := hbf.frozen a
      have hBw : B ≤ wr.heap.size := Nat.le_trans hB HJ.out.fx.size
      have hok := HJ.out.xs.ok a L hL
      have kp := put_any B (Sl.v r) L x (wr.drewN 1) hok.1 (by have := rises_len hok.1 hok.2; omega) hBw ((HJ.out.xs.re a r L hr hL).drewN 1)
      have KP : Hid (Calls Tryd.prog 102 #[Sl.v r, .int .i64 x] (wr.drewN 1) fun e w' => PostN B (wr.drewN 1) (Sl.v r) (insR L x) e w') := kp
      have HB5 : Hid (∀ w5, (wr.drewN 1).grownBy w5 (Sl.v r).ownBlock → w5.cell? ⟨b, 4, none⟩ = wr.cell? ⟨b, 4, none⟩ ∧ w5.cell? ⟨gf, a, none⟩ = wr.cell? ⟨gf, a, none⟩ ∧ w5.frozen? ⟨gf, a, none⟩ = false) := fun w5 g5 => by
        have own_r := HJ.out.xs.re a r L HR.out HL.out
        have n1 : some b ≠ (Sl.v r).ownBlock := fun e => by obtain ⟨cs, hb⟩ := own_r.blk e.symm; exact absurd (hb.same HJ.out.xs.blk).2 (by decide)
        have n2 : some gf ≠ (Sl.v r).ownBlock := fun e => by obtain ⟨cs, hb⟩ := own_r.blk e.symm; exact absurd (hb.same hbf).2 (by decide)
        have e1 := g5.block b HJ.out.xs.blk.lt n1
        have e2 := g5.block gf hbf.lt n2
        exact ⟨World.cell?_of_block e1, World.cell?_of_block e2, by rw [World.frozen?_of_block e2]; exact hbfz⟩
      rw [show (#[Value.slice sv.a sv.n sv.c, Value.bool false, Value.slice none 0 0, Value.slice none 0 0, Value.slice (some ⟨gf, 0, none⟩) rs1.length fc] : Array Value)[4]? = some (.slice (some ⟨gf, 0, none⟩) rs1.length fc) from rfl] at c3
      have hIa : (a : Int) < rs1.length := by omega
      clear kp c4 hc4 hr hL hx hok hfo hbf cf
      obtain ⟨ra, rn, rc⟩ := r
      simp only at c5
      go_wp2_with fail
      go_region_with
        (go_at_call 102; refine KP.out.mono ?_; rintro _ w5 ⟨v5, rfl, o5, g5, d5, b5⟩; obtain ⟨a5, c5', rfl⟩ := o5.form; have O5 : Hid (OwnI B w5 (.slice a5 (insR L x).length c5') (insR L x)) := o5; have G5 : Hid ((wr.drewN 1).grownBy w5 (Sl.v ⟨ra, rn, rc⟩).ownBlock) := g5; have B5 : Hid ((Value.slice a5 (insR L x).length c5').ownBlock = (Sl.v ⟨ra, rn, rc⟩).ownBlock ∨ ∃ g, (wr.drewN 1).heap.size ≤ g ∧ (Value.slice a5 (insR L x).length c5').ownBlock = some g) := b5; obtain ⟨d1, d2, d3⟩ := HB5.out w5 g5; rw [c3] at d1; rw [c5] at d2; clear o5 g5 d5 b5)
      all_goals
        have J2 := JI.put HJ.out HN.out HVA.out HVC.out HAi.out HCj.out (HC.out x (List.mem_of_getElem? HCj.out)) HR.out HL.out rfl hBw (r' := ⟨a5, (insR L x).length, c5'⟩) O5.out ⟨G5.out.os, G5.out.tape, G5.out.output, G5.out.size, G5.out.block⟩ B5.out
        have HJ2 : Hid (JI w b B sv ⟨some ⟨gf, 0, none⟩, rs1.length, fc⟩ ss rs sets rows (.slice (some ⟨ba, oa, none⟩) NA ac) (.slice (some ⟨bc, oc, none⟩) NC cc) A C i (j + 1) (rs1.set a ⟨a5, (insR L x).length, c5'⟩) (rows1.set a (insR L x)) (w5.setCell ⟨gf, a, none⟩ (.slice a5 (insR L x).length c5'))) := J2
        clear J2
        go_wp2_with fail
        go_roundw
        case rel => exact ⟨j + 1, _, _, by omega, by go_num, HJ2⟩
        case measure => simp [intOf]; omega
end Go.Proofs.YtjjlkjfhhpogaaaDoor
