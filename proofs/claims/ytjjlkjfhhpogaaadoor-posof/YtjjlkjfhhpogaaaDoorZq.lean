/-
  A region that draws its order and ends in one operation that waits for all others: the last one set apart.
  The walk of the document's 'of', of a Star.
  The walk of the document's 'of', of a Cat.
  The walk of the document's 'of', of an Alt.
  The walk of the document's 'of', of any right pattern; the rows as they are laid ahead of it.
-/
import Derived.Deep.RegionHeld3
import Derived.Test.YtjjlkjfhhpogaaaDoorTree
import Derived.Test.YtjjlkjfhhpogaaaDoorZx
import Derived.Test.YtjjlkjfhhpogaaaDoorKd
import Derived.Test.YtjjlkjfhhpogaaaDoorOf
namespace Go.Proofs.YtjjlkjfhhpogaaaDoor
open Go

section
variable {P : Program} {ops : Array Oper} {st : Oper} {Q : Exit → Act → World → Prop} {md : Region.Mode}

/-- Each operation waits for elder ones alone, and asks elder ones alone whether it is wanted; the last one waits for all, and is wanted. -/
structure LastOf (md : Region.Mode) (ops : Array Oper) (st : Oper) : Prop where
  ord : ∀ (i : Nat) o, ops[i]? = some o → ∀ e ∈ o.after, Region.binds md e = true → e.on < i
  grd : ∀ (i : Nat) o, ops[i]? = some o → ∀ y y' : Nat → Option Bool, (∀ j, j < ops.size → y j = y' j) → Region.wanted o y = Region.wanted o y'
  lst : ∀ i, i < ops.size → ∃ e ∈ st.after, Region.binds md e = true ∧ e.on = i
  lin : ∀ e ∈ st.after, Region.binds md e = true → e.on < ops.size
  lwt : ∀ y, Region.wanted st y = true

theorem getD_push (l : Array Bool) (x d : Bool) (i : Nat) (h : i < l.size) : (l.push x).getD i d = l.getD i d := by
  simp [Array.getElem?_push, Nat.ne_of_lt h]
theorem set_push (l : Array Bool) (x : Bool) (i : Nat) (h : i < l.size) : (l.push x).setIfInBounds i true = (l.setIfInBounds i true).push x := by
  apply Array.ext_getElem?
  intro j
  rw [Array.getElem?_setIfInBounds, Array.getElem?_push, Array.getElem?_push, Array.getElem?_setIfInBounds, Array.size_push, Array.size_setIfInBounds]
  by_cases c : i = j
  · subst c
    rw [if_pos rfl, if_pos (by omega), if_neg (by omega), if_pos rfl, if_pos h]
  · rw [if_neg c, if_neg c]
theorem set_last (l : Array Bool) (x : Bool) (n : Nat) (h : l.size = n) : (l.push x).setIfInBounds n true = l.push true := by
  subst h
  apply Array.ext_getElem?
  intro j
  rw [Array.getElem?_setIfInBounds, Array.getElem?_push, Array.getElem?_push, Array.size_push]
  by_cases c : l.size = j
  · subst c
    rw [if_pos rfl, if_pos (by omega), if_pos rfl]
  · rw [if_neg c, if_neg (fun e => c e.symm), if_neg (fun e => c e.symm)]
theorem yielded_push (t : Array Value) (j : Nat) (h : j < ops.size) : yielded (ops.push st) t j = yielded ops t j := by
  unfold yielded
  rw [Array.getElem?_push, if_neg (by omega)]

/-- Nothing may come up: all have. -/
theorem all_listed (L : LastOf md ops st) {listed : Array Bool} (hs : listed.size = ops.size) (h : Region.ready md ops listed = []) : ∀ i, i < ops.size → listed.getD i false = true := by
  intro i
  induction i using Nat.strongRecOn with
  | ind i ih =>
    intro hi
    cases c : listed.getD i false with
    | true => rfl
    | false =>
      have : i ∈ Region.ready md ops listed := mem_ready.2 ⟨by simpa [hs, hi] using c, ops[i], Array.getElem?_eq_getElem hi, fun e he hb => ih e.on (L.ord i _ (Array.getElem?_eq_getElem hi) e he hb) (by have := L.ord i _ (Array.getElem?_eq_getElem hi) e he hb; omega)⟩
      rw [h] at this
      cases this

theorem ready_push (L : LastOf md ops st) {listed : Array Bool} (hs : listed.size = ops.size) {i : Nat} (hi : i < ops.size) : i ∈ Region.ready md (ops.push st) (listed.push false) ↔ i ∈ Region.ready md ops listed := by
  rw [mem_ready, mem_ready, getD_push _ _ _ _ (by omega)]
  have e : (ops.push st)[i]? = ops[i]? := by rw [Array.getElem?_push, if_neg (by omega)]
  rw [e]
  constructor
  · rintro ⟨h1, o, h2, h3⟩
    exact ⟨h1, o, h2, fun e he hb => by have := h3 e he hb; rwa [getD_push _ _ _ _ (by have := L.ord i o h2 e he hb; omega)] at this⟩
  · rintro ⟨h1, o, h2, h3⟩
    exact ⟨h1, o, h2, fun e he hb => by rw [getD_push _ _ _ _ (by have := L.ord i o h2 e he hb; omega)]; exact h3 e he hb⟩
theorem ready_last (L : LastOf md ops st) {listed : Array Bool} (hs : listed.size = ops.size) : ops.size ∈ Region.ready md (ops.push st) (listed.push false) ↔ ∀ i, i < ops.size → listed.getD i false = true := by
  rw [mem_ready]
  have e : (ops.push st)[ops.size]? = some st := by simp
  rw [e]
  constructor
  · rintro ⟨_, o, h2, h3⟩ i hi
    injection h2 with h2
    subst h2
    obtain ⟨e, he, hb, rfl⟩ := L.lst i hi
    have := h3 e he hb
    rwa [getD_push _ _ _ _ (by omega)] at this
  · intro h
    refine ⟨by rw [← hs]; simp, st, rfl, fun e he hb => ?_⟩
    have := L.lin e he hb
    rw [getD_push _ _ _ _ (by omega)]
    exact h _ this
theorem none_ready (_L : LastOf md ops st) {listed : Array Bool} (hs : listed.size = ops.size) (h : ∀ i, i < ops.size → listed.getD i false = true) : Region.ready md (ops.push st) (listed.push true) = [] := by
  cases c : Region.ready md (ops.push st) (listed.push true) with
  | nil => rfl
  | cons i l =>
    have hm : i ∈ Region.ready md (ops.push st) (listed.push true) := by rw [c]; exact List.mem_cons_self ..
    obtain ⟨h1, o, h2, _⟩ := mem_ready.1 hm
    have hlt := (Array.getElem?_eq_some_iff.1 h2).1
    simp at hlt
    by_cases e : i < ops.size
    · rw [getD_push _ _ _ _ (by omega)] at h1
      have := h i e
      simp [hs, e] at h1 this
      rw [h1] at this
      cases this
    · have : i = listed.size := by omega
      subst this
      simp at h1

/-- Behind the others: the last one. -/
def Behind (P : Program) (st : Oper) (Q : Exit → Act → World → Prop) : Act → World → Prop := fun a w => st.wp P a w (Q .normal) Q

theorem letsOut_then {K : Act → World → Prop} (h : LetsOut (Exit.then K Q)) : LetsOut Q := h

theorem wp_then {o : Oper} {K : Act → World → Prop} {N : Act → World → Prop} {a : Act} {w : World} (h : o.wp P a w N (Exit.then K Q)) : o.wp P a w N Q := by
  unfold Oper.wp at *
  generalize (execOp a.eval o).run P w = r at *
  cases r with
  | ok n w' =>
    cases n <;> simp only [Oper.upon] at h ⊢ <;>
      first
        | exact h
        | exact Calls.mono h (fun e w'' he => by cases e <;> exact he)
  | halt x w' => cases x <;> simp only [Oper.upon] at h ⊢ <;> exact h

theorem wpAny_last (L : LastOf md ops st) : ∀ (fuel : Nat) (listed : Array Bool) (a : Act) (w : World), listed.size = ops.size →
    wpAny P md ops (Exit.then (Behind P st Q) Q) fuel listed a w → wpAny P md (ops.push st) Q (fuel + 1) (listed.push false) a w := by
  intro fuel
  have fin : ∀ (fuel : Nat) (listed : Array Bool) (a : Act) (w : World), listed.size = ops.size → Region.ready md ops listed = [] → Behind P st Q a w → wpAny P md (ops.push st) Q (fuel + 1) (listed.push false) a w := by
    intro fuel listed a w hs hr hb
    have ha := all_listed L hs hr
    refine ⟨fun h => ?_, fun i hi => ?_⟩
    · have := (ready_last L hs).2 ha
      rw [h] at this
      cases this
    · have hin : i = ops.size := by
        by_cases c : i < ops.size
        · have := (ready_push L hs c).1 hi
          rw [hr] at this
          cases this
        · obtain ⟨_, o, h2, _⟩ := mem_ready.1 hi
          have := (Array.getElem?_eq_some_iff.1 h2).1
          simp at this
          omega
      subst hin
      unfold wpOp
      simp only [Array.getElem?_push_size]
      rw [if_pos (L.lwt _)]
      refine Or.inl (Oper.wp_mono (fun a' w' hq => ?_) hb)
      have hz : (listed.push false).setIfInBounds ops.size true = listed.push true := set_last _ _ _ hs
      rw [hz]
      have hn := none_ready L hs ha
      cases fuel with
      | zero => exact ⟨hn, hq⟩
      | succ fuel => exact ⟨fun _ => hq, fun i hi => by rw [hn] at hi; cases hi⟩
  induction fuel with
  | zero => intro listed a w hs h; exact fin 0 listed a w hs h.1 h.2
  | succ fuel ih =>
    intro listed a w hs h
    by_cases hr : Region.ready md ops listed = []
    · exact fin (fuel + 1) listed a w hs hr (h.1 hr)
    refine ⟨fun h0 => ?_, fun i hi => ?_⟩
    · cases c : Region.ready md ops listed with
      | nil => exact absurd c hr
      | cons i l =>
        have hm : i ∈ Region.ready md ops listed := by rw [c]; exact List.mem_cons_self ..
        obtain ⟨_, o, h2, _⟩ := mem_ready.1 hm
        have := (ready_push L hs (Array.getElem?_eq_some_iff.1 h2).1).2 hm
        rw [h0] at this
        cases this
    · have hil : i < ops.size := by
        by_cases c : i < ops.size
        · exact c
        · obtain ⟨_, o, h2, _⟩ := mem_ready.1 hi
          have h3 := (Array.getElem?_eq_some_iff.1 h2).1
          simp at h3
          have : i = ops.size := by omega
          subst this
          have hall := (ready_last L hs).1 hi
          exfalso
          apply hr
          cases c2 : Region.ready md ops listed with
          | nil => rfl
          | cons j l =>
            have hm : j ∈ Region.ready md ops listed := by rw [c2]; exact List.mem_cons_self ..
            obtain ⟨h4, o', h5, _⟩ := mem_ready.1 hm
            have hj := (Array.getElem?_eq_some_iff.1 h5).1
            have h6 := hall j hj
            simp [hs, hj] at h4 h6
            rw [h4] at h6
            cases h6
      have h1 := h.2 i ((ready_push L hs hil).1 hi)
      unfold wpOp at h1 ⊢
      have e : (ops.push st)[i]? = ops[i]? := by rw [Array.getElem?_push, if_neg (by omega)]
      rw [e]
      cases ho : ops[i]? with
      | none => rw [Array.getElem?_eq_getElem hil] at ho; cases ho
      | some o =>
        rw [ho] at h1
        simp only at h1 ⊢
        rw [L.grd i o ho _ (yielded ops a.tmps) (fun j hj => yielded_push _ j hj)]
        split
        · rename_i hw
          rw [if_pos hw] at h1
          refine h1.imp (fun h2 => Oper.wp_mono (fun a' w' h3 => ?_) (wp_then h2)) fun h2 => ⟨h2.1, letsOut_then h2.2⟩
          rw [set_push _ _ _ (by omega)]
          exact ih _ _ _ (by simpa using hs) h3
        · rename_i hw
          rw [if_neg hw] at h1
          rw [set_push _ _ _ (by omega)]
          exact ih _ _ _ (by simpa using hs) h1

/-- **THE LAST ONE SET APART.** -/
theorem wp_region_last {id : Nat} {a : Act} {w : World} {S : World → Prop} {l : List Oper} (hm : P.follows .mixedOrders = true) (L : LastOf .any l.toArray st) (hS : S w.drew)
    (h : S w.drew → wpAnyH P .any l.toArray (Exit.then (Behind P st Q) Q) S l.length (Array.replicate l.length false) a w.drew) : (Code.region id (l ++ [st]).toArray true).wp P Q a w := by
  have h2 : (Code.region id (l.toArray.push st) true).wp P Q a w := by
    refine wp_region_any hm ?_
    have e : Array.replicate (l.toArray.push st).size false = (Array.replicate l.toArray.size false).push false := by
      rw [Array.size_push, Array.replicate_succ]
    rw [e, Array.size_push]
    exact wpAny_last L _ _ _ _ (by simp) (wpAny_of_held _ _ _ _ (h hS))
  rwa [List.push_toArray] at h2
theorem behind_step {a : Act} {w : World} (h : ∀ K : Act → World → Prop, (∀ a w, Q .normal a w → K a w) → st.wp P a w K Q) : Behind P st Q a w := h _ fun _ _ h => h
end

/-- The same, by a look at each operation. -/
def lastB (md : Region.Mode) (l : List Oper) (st : Oper) : Bool :=
  ((List.range l.length).all fun i => match l[i]? with
    | some o => (o.after.all fun e => !Region.binds md e || decide (e.on < i)) && (match o.guard with | none => true | some (j, _) => decide (j < l.length))
    | none => true) &&
  ((List.range l.length).all fun i => st.after.toList.any fun e => Region.binds md e && decide (e.on = i)) &&
  (st.after.all fun e => !Region.binds md e || decide (e.on < l.length)) && st.guard.isNone
theorem lastOf {md : Region.Mode} {l : List Oper} {st : Oper} (h : lastB md l st = true) : LastOf md l.toArray st := by
  unfold lastB at h
  simp only [Bool.and_eq_true, List.all_eq_true, List.mem_range, Array.all_eq_true_iff_forall_mem, Bool.or_eq_true, Bool.not_eq_true', decide_eq_true_eq, List.any_eq_true] at h
  obtain ⟨⟨⟨h1, h2⟩, h3⟩, h4⟩ := h
  refine ⟨fun i o ho e he hb => ?_, fun i o ho y y' hy => ?_, fun i hi => ?_, fun e he hb => ?_, fun y => ?_⟩
  · have hl : l[i]? = some o := by simpa using ho
    have := h1 i (List.getElem?_eq_some_iff.1 hl).1
    rw [hl] at this
    simp only [Bool.and_eq_true, Array.all_eq_true_iff_forall_mem, Bool.or_eq_true, Bool.not_eq_true', decide_eq_true_eq] at this
    exact (this.1 e he).resolve_left (by simp [hb])
  · have hl : l[i]? = some o := by simpa using ho
    have := h1 i (List.getElem?_eq_some_iff.1 hl).1
    rw [hl] at this
    simp only [Bool.and_eq_true] at this
    unfold Region.wanted
    cases hg : o.guard with
    | none => rfl
    | some g =>
      obtain ⟨j, b⟩ := g
      have h5 := this.2
      rw [hg] at h5
      simp only [decide_eq_true_eq] at h5
      simp only [hy j (by simpa using h5)]
  · obtain ⟨e, he, hb⟩ := h2 i (by simpa using hi)
    exact ⟨e, Array.mem_toList_iff.1 he, hb.1, hb.2⟩
  · exact (h3 e he).resolve_left (by simp [hb])
  · unfold Region.wanted
    rw [Option.isNone_iff_eq_none.1 h4]

section
variable {P : Program} {Q : Exit → Act → World → Prop} {md : Region.Mode} {l : List Oper} {S : World → Prop} {fuel : Nat} {listed : Array Bool} {a : Act} {w : World} {oi : Oper} {rest : List Oper}
theorem at_drop {i : Nat} (hi : l.drop i = oi :: rest) : l.toArray[i]? = some oi := by
  have : (l.drop i)[0]? = some oi := by rw [hi]; rfl
  rw [List.getElem?_drop] at this
  simpa using this
/-- An operation that yields its value wherever S holds is taken first. -/
theorem take_pure (i : Nat) (v : Value) (hi : l.drop i = oi :: rest) (hs : Region.noSelect l.toArray = true) (hf : Region.free md l.toArray listed i = true) (hr : (Region.ready md l.toArray listed).contains i = true)
    (hQ : ∀ c a w, Q (.panic c) (a.put oi.dst v) w → Q (.panic c) a w) (hw : Region.wanted oi (yielded l.toArray a.tmps) = true) (hS : S w) (hy : ∀ w, S w → (execOp a.eval oi).run P w = .ok (.value v) w)
    (h : wpAnyH P md l.toArray Q S fuel (listed.setIfInBounds i true) (a.put oi.dst v) w) : wpAnyH P md l.toArray Q S (fuel + 1) listed a w :=
  wpAnyH_take (at_drop hi) hs hf hr hQ (Or.inl ⟨hw, hy⟩) hS h
/-- One that is not wanted. -/
theorem take_off (i : Nat) (hi : l.drop i = oi :: rest) (hs : Region.noSelect l.toArray = true) (hf : Region.free md l.toArray listed i = true) (hr : (Region.ready md l.toArray listed).contains i = true)
    (hQ : ∀ c a w, Q (.panic c) (a.put oi.dst undef) w → Q (.panic c) a w) (hw : Region.wanted oi (yielded l.toArray a.tmps) = false) (hS : S w)
    (h : wpAnyH P md l.toArray Q S fuel (listed.setIfInBounds i true) (a.put oi.dst undef) w) : wpAnyH P md l.toArray Q S (fuel + 1) listed a w :=
  wpAnyH_take (at_drop hi) hs hf hr hQ (Or.inr ⟨hw, rfl⟩) hS h
/-- One alone may come up. -/
theorem take_one (i : Nat) (hi : l.drop i = oi :: rest) (hr : Region.ready md l.toArray listed = [i])
    (h : ∀ K' : Act → World → Prop, Shut (∀ a w, S w → (S w → wpAnyH P md l.toArray Q S fuel (listed.setIfInBounds i true) a w) → K' a w) → if Region.wanted oi (yielded l.toArray a.tmps) = true then Oper.wp P oi a w K' Q else K' (a.put oi.dst undef) w) : wpAnyH P md l.toArray Q S (fuel + 1) listed a w :=
  wpAnyH_ready hr (by simp) (AllReadyH.cons (at_drop hi) h AllReadyH.nil)
/-- One of two comes up. -/
theorem take_two {oj : Oper} {rest' : List Oper} (i j : Nat) (hi : l.drop i = oi :: rest) (hj : l.drop j = oj :: rest') (hr : Region.ready md l.toArray listed = [i, j])
    (h : ∀ K' : Act → World → Prop, Shut (∀ a w, S w → (S w → wpAnyH P md l.toArray Q S fuel (listed.setIfInBounds i true) a w) → K' a w) → if Region.wanted oi (yielded l.toArray a.tmps) = true then Oper.wp P oi a w K' Q else K' (a.put oi.dst undef) w)
    (h' : ∀ K' : Act → World → Prop, Shut (∀ a w, S w → (S w → wpAnyH P md l.toArray Q S fuel (listed.setIfInBounds j true) a w) → K' a w) → if Region.wanted oj (yielded l.toArray a.tmps) = true then Oper.wp P oj a w K' Q else K' (a.put oj.dst undef) w) : wpAnyH P md l.toArray Q S (fuel + 1) listed a w :=
  wpAnyH_ready hr (by simp) (AllReadyH.cons (at_drop hi) h (AllReadyH.cons (at_drop hj) h' AllReadyH.nil))
end

end Go.Proofs.YtjjlkjfhhpogaaaDoor

namespace Go.Proofs.YtjjlkjfhhpogaaaDoor
open Go.RowKit

theorem BI.blk {w w' : World} {b B N : Nat} {sv fv : Sl} {ss rs : List Sl} {sets : List (List (Int × Int))} {fs : List (List Bool)} {A C : List Bool} {k : Nat} {rs' : List Sl} {fs' : List (List Bool)} (h : BI w b B N sv fv ss rs sets fs A C k rs' fs' w') (h0 : RS w b B N sv fv ss rs sets fs) {p : Nat} {cs : Array Value} {t : TypeId} (hp : Blk w p cs t) (h1 : t ≠ 95) (h2 : t ≠ 22) (h3 : t ≠ 96) : Blk w' p cs t :=
  (h.fx.block p hp.lt (h0.notMv hp h1 h2 h3)).trans hp

set_option maxRecDepth 100000 in
set_option maxHeartbeats 8000000 in
theorem of8_star (w0 : World) (N : Nat) (hN : N ≤ 200) (set : List (Int × Int)) (s : Tree) (hE : CPR w0 N s) : CPR w0 N (.mk 4 set [s]) := by
  intro w b B sv fv ss rs sets fs x hX hB hw h0 hT hk hsz hg hl
  obtain ⟨k, set', subs', xs, sa, sc, ba, bc, he, rfl, hS, hR, hs⟩ := hT.parts
  injection he with e1 e2 e3
  subst e1 e2 e3
  rw [kindsT_mk] at hk
  simp only [Bool.and_eq_true] at hk
  rw [goodT_mk] at hg
  have hks : kindsT s = true := by have := hk.2; rw [kindsL_cons] at this; simp at this; exact this.1
  have hgs : goodT s := goodL.at hg.2 (i := 0) rfl
  have hss : size s ≤ 200 := by rw [size_mk, sizeL_cons] at hsz; omega
  obtain ⟨y, hy, hTy⟩ := hs.at (i := 0) (t := s) rfl
  have e1 : emp (.mk 4 set [s]) = true := by rw [emp_mk]; rfl
  have e2 : setsT (.mk 4 set [s]) = setsT s := by rw [setsT_mk, if_neg (by omega), setsL_cons, setsL_nil, List.append_nil]
  have e3 : Fol (.mk 4 set [s]) sets.length = fun i j => Fol s sets.length i j ∨ (Las s sets.length i ∧ Fir s sets.length j) := by
    funext i j
    rw [Fol, if_neg (by omega), if_neg (by omega), if_neg (by omega), FolA_cons, FolA_nil, LasA_cons, LasA_nil, FirA_cons, FirA_nil, or_false, or_false, or_false]
  have e4 : Fir (.mk 4 set [s]) sets.length = Fir s sets.length := by funext i; rw [Fir, if_neg (by omega), if_neg (by omega), FirA_cons, FirA_nil, or_false]
  have e5 : Las (.mk 4 set [s]) sets.length = Las s sets.length := by funext i; rw [Las, if_neg (by omega), if_neg (by omega), LasA_cons, LasA_nil, or_false]
  rw [e1, e2, e3, e4, e5]
  rw [ones_mk, if_neg (by omega), onesL_cons, onesL_nil, Nat.add_zero] at hl
  have HEN := EN.of hX ⟨4, ⟨sa, set.length, sc⟩, ⟨ba, ([s] : List Tree).length, bc⟩⟩
  have HRW : Hid (RowT w0 (.slice ba ([s] : List Tree).length bc) xs) := hR
  have HY : Hid (xs[0]? = some y) := hy
  have H0 : Hid (Below w0.heap.size w0 w) := h0
  have HB : Hid (w0.heap.size ≤ w.heap.size ∧ B ≤ w.heap.size ∧ w0.heap.size ≤ B) := ⟨by omega, hB, hw⟩
  have HTy : Hid (HT w0 s y) := hTy
  have HKS : Hid (kindsT s = true ∧ size s ≤ 200 ∧ goodT s ∧ sets.length + ones s ≤ N) := ⟨hks, hss, hgs, hl⟩
  have HEs : Hid (CPR w0 N s) := hE
  have mk : ∀ W : World, (Instr.makeSlice 96 (.int .i64 N) (.int .i64 N)).run Tryd.prog W = .ok (.slice (some ⟨W.heap.size, 0, none⟩) N N) (W.alloc (.cells (brow (List.replicate N false)) 4)) := fun W => make4 N (by omega) W
  have q0 := hX.blk.c 0
  have hbl := hX.blk.lt
  simp only [List.getElem?_toArray, List.getElem?_cons_zero] at q0
  have hsl1 : ([s] : List Tree).length = 1 := rfl
  rw [hsl1] at HEN HRW ⊢
  generalize set.length = sl at *
  clear hX hB hw h0 hT hk hsz hg hS hR hs e1 e2 e3 e4 e5 hks hgs hss hy hTy hE hl hsl1
  go_enter Tryd.func56, Tryd.ntmps56
  go_upto_region 2 with fail
  generalize hW : World.alloc _ _ = W2
  have HE : Hid (EN w b B N sv fv ss rs sets fs ⟨4, ⟨sa, sl, sc⟩, ⟨ba, 1, bc⟩⟩ W2) := by rw [← hW]; exact HEN
  clear hW HEN q0 mk
  obtain ⟨x0, x1, x2⟩ := BlkT.cs HE.out.box
  simp only at x0 x1 x2
  obtain ⟨b9, off, rfl, hb9, c0, c1, c2⟩ := HRW.out.cs3 HY.out
  have h02 := H0.out.trans (HE.out.bel.mono HB.out.1)
  have r0 := (h02.cell (by exact hb9)).trans c0
  have r1 := (h02.cell (by exact hb9)).trans c1
  have r2 := (h02.cell (by exact hb9)).trans c2
  simp only [Nat.zero_mul, Nat.add_zero] at r0 r1 r2
  obtain ⟨yk, ⟨y1, y2, y3⟩, y4, y5, y6⟩ := y
  simp only at r0 r1 r2
  have KE : Hid (Calls Tryd.prog 56 #[.pointer (some ⟨b, 0, none⟩), .agg #[.int .i64 yk, .slice y1 y2 y3, .slice y4 y5 y6]] W2 (PostR W2 b B N sv fv ss sets fs (emp s) (setsT s) (Fol s sets.length) (Fir s sets.length) (Las s sets.length))) :=
    HEs.out W2 b B sv fv ss rs sets fs ⟨yk, ⟨y1, y2, y3⟩, y4, y5, y6⟩ HE.out.rs (by have := HE.out.bel.size; have := HB.out; omega) HB.out.2.2 h02 HTy.out HKS.out.1 HKS.out.2.1 HKS.out.2.2.1 HKS.out.2.2.2
  clear c0 c1 c2 hb9 h02
  go_upto_region 34 with (go_at_call 56; refine KE.out.mono ?_; rintro _ w3 ⟨sv1, ss1, rs1, sets1, fs1, gf, gl, Bf, Bl, rfl, px⟩; have P1 : Hid _ := px; clear px)
  have R3 := P1.out.blk HE.out.rs HE.out.res (by decide) (by decide) (by decide)
  generalize hW3 : World.alloc _ _ = W3
  have P3 : Hid (RX w b B N sv fv ss sets fs (setsT s) (Fol s sets.length) (Fir s sets.length) (Las s sets.length) sv1 ss1 rs1 sets1 fs1 gf gl Bf Bl W3) := by rw [← hW3]; exact (P1.out.lower HE.out.bel).bel ((Below.refl _ _).alloc (Nat.le_refl _) _)
  have HR3 : Hid (Blk W3 (w.heap.size + 1) #[.bool false, .slice none 0 0, .slice none 0 0] 98) := by rw [← hW3]; exact R3.alloc _
  have HO3 : Hid (Blk W3 w3.heap.size #[.bool (emp s), .slice (some ⟨gf, 0, none⟩) N N, .slice (some ⟨gl, 0, none⟩) N N] 98) := by rw [← hW3]; exact Blk.new _ _ _
  have HS3 : Hid (w.heap.size + 1 < w3.heap.size) := R3.lt
  clear hW3 P1 R3 KE r0 r1 r2 x0 x1 x2 HE
  generalize w3.heap.size = p8 at HO3 HS3 ⊢
  clear w3
  have KJ := behind8_any W3 b B N sv1 fv (ss ++ ss1) rs1 (sets ++ sets1) fs1 gl gf Bl Bf hN P3.out.rs P3.out.bl P3.out.bf P3.out.ll P3.out.lf
  have o1 := HO3.out.c 1
  have o2 := HO3.out.c 2
  simp only [List.getElem?_toArray, List.getElem?_cons_zero, List.getElem?_cons_succ] at o1 o2
  go_upto_region 35 with (go_at_call 80; refine KJ.mono ?_; rintro _ w4 ⟨⟨v4, rfl⟩, rs3, fs3, ji⟩; have J4 : Hid _ := ji; clear ji)
  have P4 : Hid _ := P3.out.behind J4.out P3.out.ll
  have HR4 : Hid (Blk w4 (w.heap.size + 1) #[.bool false, .slice none 0 0, .slice none 0 0] 98) := J4.out.blk P3.out.rs HR3.out (by decide) (by decide) (by decide)
  have HO4 : Hid (Blk w4 p8 #[.bool (emp s), .slice (some ⟨gf, 0, none⟩) N N, .slice (some ⟨gl, 0, none⟩) N N] 98) := J4.out.blk P3.out.rs HO3.out (by decide) (by decide) (by decide)
  have HON : Hid ((∀ j, On Bf j ↔ Fir s sets.length j) ∧ ∀ j, On Bl j ↔ Las s sets.length j) := ⟨P3.out.onf, P3.out.onl⟩
  clear KJ J4 P3 HR3 HO3 o1 o2
  have o0 := HO4.out.c 0
  have o1 := HO4.out.c 1
  have o2 := HO4.out.c 2
  have of := HO4.out.frozen
  have q0 := HR4.out.c 0
  have q1 := HR4.out.c 1
  have q2 := HR4.out.c 2
  have qf := HR4.out.frozen
  simp only [List.getElem?_toArray, List.getElem?_cons_zero, List.getElem?_cons_succ] at o0 o1 o2 q0 q1 q2
  have n58 : p8 ≠ w.heap.size + 1 := by have := HS3.out; omega
  have n85 : w.heap.size + 1 ≠ p8 := fun e => n58 e.symm
  go_wp2_with fail
  have M5 := P4.out.other HO4.out ne98 (by have := HS3.out; omega) 0 (.bool true)
  have R5 := HR4.out.other (p := ⟨p8, 0, none⟩) n85 (.bool true)
  obtain ⟨P, T⟩ := M5.put R5 (by omega) true ⟨some ⟨gf, 0, none⟩, N, N⟩ ⟨some ⟨gl, 0, none⟩, N, N⟩
  refine bodyPost_ret (v := .agg #[.bool true, .slice (some ⟨gf, 0, none⟩) N N, .slice (some ⟨gl, 0, none⟩) N N]) ?_ rfl ⟨_, _, _, _, _, gf, gl, Bf, Bl, rfl, P.told rfl (fun i j => by rw [HON.out.1, HON.out.2]) (fun _ => Iff.rfl) (fun _ => Iff.rfl)⟩
  simp [results, Tryd.results56]
  exact run_part8 (x := ⟨some ⟨gf, 0, none⟩, N, N⟩) (y := ⟨some ⟨gl, 0, none⟩, N, N⟩) T

end Go.Proofs.YtjjlkjfhhpogaaaDoor

namespace Go.Proofs.YtjjlkjfhhpogaaaDoor
open Go.RowKit

/-- Between two rounds. -/
structure TI8 (w : World) (b B N : Nat) (sv fv : Sl) (ss : List Sl) (sets : List (List (Int × Int))) (fs : List (List Bool)) (po : Nat) (E : Bool) (S : List (List (Int × Int))) (Fi La : Nat → Prop) (Fo : Nat → Nat → Prop)
    (sv' : Sl) (ss' rs' : List Sl) (sets' : List (List (Int × Int))) (fs' : List (List Bool)) (gf gl : Nat) (Bf Bl : List Bool) (wr : World) : Prop where
  rx : RX w b B N sv fv ss sets fs S Fo Fi La sv' ss' rs' sets' fs' gf gl Bf Bl wr
  out : Blk wr po #[.bool E, .slice (some ⟨gf, 0, none⟩) N N, .slice (some ⟨gl, 0, none⟩) N N] 98
  res : Blk wr (w.heap.size + 1) #[.bool false, .slice none 0 0, .slice none 0 0] 98

/-- The memory a part is asked in. -/
theorem bel08 {w0 w wr : World} {b B N : Nat} {sv fv : Sl} {ss rs : List Sl} {sets : List (List (Int × Int))} {fs : List (List Bool)} (hX : RS w b B N sv fv ss rs sets fs) (hw : w0.heap.size ≤ B) (hB : B ≤ w.heap.size) (h0 : Below w0.heap.size w0 w) (hf : Fx (Mv b sv fv) w wr) : Below w0.heap.size w0 wr :=
  h0.trans (hf.below (fun g e => Nat.le_trans hw (hX.mb g e).1) (Nat.le_trans hw hB))

set_option maxRecDepth 100000 in
set_option maxHeartbeats 8000000 in
theorem of8_cat (w0 : World) (N : Nat) (hN : N ≤ 200) (set : List (Int × Int)) (ts : List Tree) (hE : ∀ (i : Nat) s, ts[i]? = some s → CPR w0 N s) : CPR w0 N (.mk 2 set ts) := by
  intro w b B sv fv ss rs sets fs x hX hB hw h0 hT hk hsz hg hl
  obtain ⟨k, set', subs', xs, sa, sc, ba, bc, he, rfl, hS, hR, hs⟩ := hT.parts
  injection he with e1 e2 e3
  subst e1 e2 e3
  rw [kindsT_mk] at hk
  simp only [Bool.and_eq_true] at hk
  rw [goodT_mk] at hg
  rw [size_mk] at hsz
  have e1 : emp (.mk 2 set ts) = empC ts := by rw [emp_mk]; rfl
  have e2 : setsT (.mk 2 set ts) = setsL ts := by rw [setsT_mk]; rfl
  have e3 : Fol (.mk 2 set ts) sets.length = FolC ts sets.length := by funext i j; rw [Fol]; rfl
  have e4 : Fir (.mk 2 set ts) sets.length = FirC ts sets.length := by funext i; rw [Fir]; rfl
  have e5 : Las (.mk 2 set ts) sets.length = LasC ts sets.length := by funext i; rw [Las]; rfl
  rw [e1, e2, e3, e4, e5]
  rw [ones_mk, if_neg (by omega)] at hl
  have HEN := EN.of hX ⟨2, ⟨sa, set.length, sc⟩, ⟨ba, ts.length, bc⟩⟩
  obtain ⟨M, hM⟩ : ∃ M : Nat, M = ts.length := ⟨_, rfl⟩
  have HM : Hid (M = ts.length) := hM
  have HX : Hid (RS w b B N sv fv ss rs sets fs) := hX
  have HROW : Hid (RowT w0 (.slice ba M bc) xs) := by rw [hM]; exact hR
  have HTS : Hid (HTs w0 ts xs) := hs
  have H0 : Hid (Below w0.heap.size w0 w) := h0
  have HB : Hid (w0.heap.size ≤ w.heap.size ∧ B ≤ w.heap.size ∧ w0.heap.size ≤ B) := ⟨by omega, hB, hw⟩
  have HK : Hid (kindsL ts = true ∧ sizeL ts ≤ 200 ∧ goodL ts ∧ sets.length + onesL ts ≤ N) := ⟨hk.2, by omega, hg.2, hl⟩
  have HEs : Hid (∀ (i : Nat) s, ts[i]? = some s → CPR w0 N s) := hE
  have hM2 : M ≤ 200 := by have := length_le_sizeL ts; omega
  have mk : ∀ W : World, (Instr.makeSlice 96 (.int .i64 N) (.int .i64 N)).run Tryd.prog W = .ok (.slice (some ⟨W.heap.size, 0, none⟩) N N) (W.alloc (.cells (brow (List.replicate N false)) 4)) := fun W => make4 N (by omega) W
  have q0 := hX.blk.c 0
  have hbl := hX.blk.lt
  simp only [List.getElem?_toArray, List.getElem?_cons_zero] at q0
  rw [← hM] at HEN ⊢
  generalize set.length = sl at *
  clear hX hB hw h0 hT hk hsz hg hS hR hs e1 e2 e3 e4 e5 hE hl hM
  go_enter Tryd.func56, Tryd.ntmps56
  go_upto_region 2 with fail
  generalize hW : World.alloc _ _ = W2
  have HE : Hid (EN w b B N sv fv ss rs sets fs ⟨2, ⟨sa, sl, sc⟩, ⟨ba, M, bc⟩⟩ W2) := by rw [← hW]; exact HEN
  clear hW HEN q0 mk
  obtain ⟨x0, x1, x2⟩ := BlkT.cs HE.out.box
  have hbx := HE.out.box.lt
  simp only at x0 x1 x2
  go_upto_region 11 with fail
  generalize hW3 : World.alloc _ _ = W3
  have I0 : Hid (TI8 w b B N sv fv ss sets fs W2.heap.size (empC (ts.take 0)) (setsL (ts.take 0)) (FirC (ts.take 0) sets.length) (LasC (ts.take 0) sets.length) (FolC (ts.take 0) sets.length) sv [] rs [] fs (w.heap.size + 2) (w.heap.size + 2) (List.replicate N false) (List.replicate N false) W3) := by
    rw [← hW3, List.take_zero]
    have h1 := (RX.start HE.out.rs HE.out.bel HE.out.non).bel ((Below.refl _ _).alloc (Nat.le_refl _) (.cells #[.bool true, .slice (some ⟨w.heap.size + 2, 0, none⟩) N N, .slice (some ⟨w.heap.size + 2, 0, none⟩) N N] 98))
    refine ⟨h1.told setsL_nil.symm (fun i j => (FolC_nil _ _ _).symm) (fun j => (FirC_nil _ _).symm) (fun j => (LasC_nil _ _).symm), ?_, HE.out.res.alloc _⟩
    rw [empC_nil]
    exact Blk.new _ _ _
  have B3 : Hid (Below W2.heap.size W2 W3) := by rw [← hW3]; exact (Below.refl _ _).alloc (Nat.le_refl _) _
  have HPO : Hid (w.heap.size + 2 < W2.heap.size) := HE.out.non.lt
  clear x0 x1 x2
  obtain ⟨x0, x1, x2⟩ := BlkT.cs (HE.out.box.bel B3.out)
  simp only at x0 x1 x2
  clear hW3 hbx
  generalize W2.heap.size = po at I0 HPO ⊢
  go_wp2_with fail
  clear x0 x1 x2 B3 HE
  go_loopw [62] (fun vi wr => ∃ (i : Nat) (sv' : Sl) (ss' rs' : List Sl) (sets' : List (List (Int × Int))) (fs' : List (List Bool)) (gf gl : Nat) (Bf Bl : List Bool), i ≤ M ∧ vi = .int .i64 i ∧ Hid (TI8 w b B N sv fv ss sets fs po (empC (ts.take i)) (setsL (ts.take i)) (FirC (ts.take i) sets.length) (LasC (ts.take i) sets.length) (FolC (ts.take i) sets.length) sv' ss' rs' sets' fs' gf gl Bf Bl wr)) (fun vi _ => M - (intOf vi).toNat)
  case atStart => exact ⟨0, _, _, _, _, _, _, _, _, _, Nat.zero_le _, rfl, I0⟩
  case round =>
    clear I0
    obtain ⟨i, sv1, ss1, rs1, sets1, fs1, gf, gl, Bf, Bl, hi, rfl, HI⟩ := hrel
    by_cases hlt : i < M
    case neg =>
      have e : i = M := by omega
      subst e
      have he : ts.take i = ts := by rw [HM.out, List.take_length]
      rw [he] at HI
      have o0 := HI.out.out.c 0
      have o1 := HI.out.out.c 1
      have o2 := HI.out.out.c 2
      have q0 := HI.out.res.c 0
      have q1 := HI.out.res.c 1
      have q2 := HI.out.res.c 2
      have qf := HI.out.res.frozen
      simp only [List.getElem?_toArray, List.getElem?_cons_zero, List.getElem?_cons_succ] at o0 o1 o2 q0 q1 q2
      have n1 : po ≠ w.heap.size + 1 := by have := HPO.out; omega
      go_wp2_with fail
      obtain ⟨P, T⟩ := HI.out.rx.put HI.out.res (by omega) (empC ts) ⟨some ⟨gf, 0, none⟩, N, N⟩ ⟨some ⟨gl, 0, none⟩, N, N⟩
      refine bodyPost_ret (v := .agg #[.bool (empC ts), .slice (some ⟨gf, 0, none⟩) N N, .slice (some ⟨gl, 0, none⟩) N N]) ?_ rfl ⟨_, _, _, _, _, gf, gl, Bf, Bl, rfl, P⟩
      simp [results, Tryd.results56]
      exact run_part8 (x := ⟨some ⟨gf, 0, none⟩, N, N⟩) (y := ⟨some ⟨gl, 0, none⟩, N, N⟩) T
    obtain ⟨s, hs⟩ : ∃ s, ts[i]? = some s := ⟨_, List.getElem?_eq_getElem (by have := HM.out; omega)⟩
    obtain ⟨x, hx, hT⟩ := HTS.out.at hs
    obtain ⟨b9, off, rfl, hb9, c0, c1, c2⟩ := HROW.out.cs3 hx
    have hbr := bel08 HX.out HB.out.2.2 HB.out.2.1 H0.out HI.out.rx.fx
    have r0 := (hbr.cell (by exact hb9)).trans c0
    have r1 := (hbr.cell (by exact hb9)).trans c1
    have r2 := (hbr.cell (by exact hb9)).trans c2
    have HS : Hid (ts[i]? = some s) := hs
    have hon : onesL (ts.take i) + ones s ≤ onesL ts := by
      have h1 := onesL_append (ts.take i) (ts.drop i)
      rw [List.take_append_drop, drop_of hs, onesL_cons] at h1
      omega
    have hl1 : sets1.length = onesL (ts.take i) := by have := HI.out.rx.sts.1; rw [setsL_len] at this; exact this
    have HL1 : Hid (sets1.length = onesL (ts.take i)) := hl1
    obtain ⟨xk, ⟨x1, x2, x3⟩, x4, x5, x6⟩ := x
    simp only at r0 r1 r2
    have KE : Hid (Calls Tryd.prog 56 #[.pointer (some ⟨b, 0, none⟩), .agg #[.int .i64 xk, .slice x1 x2 x3, .slice x4 x5 x6]] (wr.alloc (.cells #[.int .i64 xk, .slice x1 x2 x3, .slice x4 x5 x6] 25)) (PostR (wr.alloc (.cells #[.int .i64 xk, .slice x1 x2 x3, .slice x4 x5 x6] 25)) b B N sv1 fv (ss ++ ss1) (sets ++ sets1) fs1 (emp s) (setsT s) (Fol s (sets ++ sets1).length) (Fir s (sets ++ sets1).length) (Las s (sets ++ sets1).length))) :=
      HEs.out i s hs _ b B sv1 fv _ rs1 _ fs1 ⟨xk, ⟨x1, x2, x3⟩, x4, x5, x6⟩ (HI.out.rx.rs.bel ((Below.refl _ _).alloc (Nat.le_refl _) _)) (by have := HI.out.rx.fx.size; have := HB.out; simp; omega) HB.out.2.2 (hbr.alloc (by have := hbr.size; omega) _) hT (kindsT_of_at HK.out.1 hs) (Nat.le_trans (size_le_of_at hs) HK.out.2.1) (goodL.at HK.out.2.2.1 hs) (by rw [List.length_append, hl1]; have := HK.out.2.2.2; omega)
    have hi2 : (i : Int) < M := by omega
    clear c0 c1 c2 hbr hs hx hT hon hl1 hb9
    go_upto_region 15 with (go_at_call 56; refine KE.out.mono ?_; rintro _ w3 ⟨sv2, ss2, rs2, sets2, fs2, gf2, gl2, Bf2, Bl2, rfl, px⟩; have P2 : Hid _ := px; clear px)
    have HRX := ((HI.out.rx.bel ((Below.refl _ _).alloc (Nat.le_refl _) (.cells #[.int .i64 xk, .slice x1 x2 x3, .slice x4 x5 x6] 25))).part P2.out)
    have hrs0 := HI.out.rx.rs.bel ((Below.refl _ _).alloc (Nat.le_refl _) (.cells #[.int .i64 xk, .slice x1 x2 x3, .slice x4 x5 x6] 25))
    have o3 := P2.out.blk hrs0 (HI.out.out.alloc _) (by decide) (by decide) (by decide)
    have q3 := P2.out.blk hrs0 (HI.out.res.alloc _) (by decide) (by decide) (by decide)
    generalize hW3 : World.alloc _ _ = W3
    have b3 : Below w3.heap.size w3 W3 := by rw [← hW3]; exact (Below.refl _ _).alloc (Nat.le_refl _) _
    have HR3 : Hid (RX w b B N sv fv ss sets fs (setsL (ts.take i) ++ setsT s) (fun i' j => FolC (ts.take i) sets.length i' j ∨ Fol s (sets ++ sets1).length i' j) (FirC (ts.take i) sets.length) (LasC (ts.take i) sets.length) sv2 (ss1 ++ ss2) rs2 (sets1 ++ sets2) fs2 gf gl Bf Bl W3) := HRX.bel b3
    obtain ⟨q1, hq1⟩ : ∃ q1, q1 = empC (ts.take i) := ⟨_, rfl⟩
    obtain ⟨q2, hq2⟩ : ∃ q2, q2 = emp s := ⟨_, rfl⟩
    rw [← hq1] at o3
    have HO3 : Hid (Blk W3 po #[.bool q1, .slice (some ⟨gf, 0, none⟩) N N, .slice (some ⟨gl, 0, none⟩) N N] 98) := o3.bel b3
    have HQ3 : Hid (Blk W3 (w.heap.size + 1) #[.bool false, .slice none 0 0, .slice none 0 0] 98) := q3.bel b3
    have HP3 : Hid (Blk W3 w3.heap.size #[.bool q2, .slice (some ⟨gf2, 0, none⟩) N N, .slice (some ⟨gl2, 0, none⟩) N N] 98) := by rw [← hW3, hq2]; exact Blk.new _ _ _
    have HT3 : Hid (Blk W3 gf2 (brow Bf2) 4 ∧ Bf2.length = N ∧ (∀ j, On Bf2 j ↔ Fir s (sets ++ sets1).length j) ∧ Blk W3 gl2 (brow Bl2) 4 ∧ Bl2.length = N ∧ (∀ j, On Bl2 j ↔ Las s (sets ++ sets1).length j)) := ⟨P2.out.bf.bel b3, P2.out.lf, P2.out.onf, P2.out.bl.bel b3, P2.out.ll, P2.out.onl⟩
    have HQ1 : Hid (q1 = empC (ts.take i)) := hq1
    have HQ2 : Hid (q2 = emp s) := hq2
    have hs3 : po < w3.heap.size := o3.lt
    clear HRX hrs0 o3 q3 hW3 b3 HI KE P2 r0 r1 r2 hq1 hq2
    generalize w3.heap.size = p8 at HP3 hs3 ⊢
    clear w3
    have hlen : (sets ++ sets1).length = sets.length + onesL (ts.take i) := by rw [List.length_append, HL1.out]
    rw [hlen] at HR3 HT3
    have et := take_succ_of HS.out
    have KJ := behind8_any W3 b B N sv2 fv _ rs2 _ fs2 gl gf2 Bl Bf2 hN HR3.out.rs HR3.out.bl HT3.out.1 HR3.out.ll HT3.out.2.1
    have o2 := HO3.out.c 2
    have p1 := HP3.out.c 1
    simp only [List.getElem?_toArray, List.getElem?_cons_zero, List.getElem?_cons_succ] at o2 p1
    go_upto_region 16 with (go_at_call 80; refine KJ.mono ?_; rintro _ w4 ⟨⟨v4, rfl⟩, rs3, fs3, ji⟩; have J4 : Hid _ := ji; clear ji)
    have R4 := HR3.out.behind J4.out HR3.out.ll
    have HR4 : Hid (RX w b B N sv fv ss sets fs (setsL (ts.take (i + 1))) (FolC (ts.take (i + 1)) sets.length) (FirC (ts.take i) sets.length) (LasC (ts.take i) sets.length) sv2 (ss1 ++ ss2) rs3 (sets1 ++ sets2) fs3 gf gl Bf Bl w4) := by
      refine R4.told (by rw [et, setsL_append, setsL_cons, setsL_nil, List.append_nil]) (fun i' j => ?_) (fun _ => Iff.rfl) (fun _ => Iff.rfl)
      rw [et, FolC_snoc, HR3.out.onl, HT3.out.2.2.1, or_assoc]
    have HO4 : Hid (Blk w4 po #[.bool q1, .slice (some ⟨gf, 0, none⟩) N N, .slice (some ⟨gl, 0, none⟩) N N] 98) := J4.out.blk HR3.out.rs HO3.out (by decide) (by decide) (by decide)
    have HQ4 : Hid (Blk w4 (w.heap.size + 1) #[.bool false, .slice none 0 0, .slice none 0 0] 98) := J4.out.blk HR3.out.rs HQ3.out (by decide) (by decide) (by decide)
    have HP4 : Hid (Blk w4 p8 #[.bool q2, .slice (some ⟨gf2, 0, none⟩) N N, .slice (some ⟨gl2, 0, none⟩) N N] 98) := J4.out.blk HR3.out.rs HP3.out (by decide) (by decide) (by decide)
    have HT4 : Hid (Blk w4 gf2 (brow Bf2) 4 ∧ Bf2.length = N ∧ (∀ j, On Bf2 j ↔ Fir s (sets.length + onesL (ts.take i)) j) ∧ Blk w4 gl2 (brow Bl2) 4 ∧ Bl2.length = N ∧ (∀ j, On Bl2 j ↔ Las s (sets.length + onesL (ts.take i)) j)) := ⟨J4.out.blk HR3.out.rs HT3.out.1 (by decide) (by decide) (by decide), HT3.out.2.1, HT3.out.2.2.1, J4.out.blk HR3.out.rs HT3.out.2.2.2.1 (by decide) (by decide) (by decide), HT3.out.2.2.2.2⟩
    have HET : Hid (ts.take (i + 1) = ts.take i ++ [s]) := et
    clear KJ J4 R4 HR3 HO3 HQ3 HP3 HT3 o2 p1 et hlen
    have n1 : p8 ≠ po := by omega
    have o0 := HO4.out.c 0
    have o1 := HO4.out.c 1
    have p1 := HP4.out.c 1
    have of := HO4.out.frozen
    simp only [List.getElem?_toArray, List.getElem?_cons_zero, List.getElem?_cons_succ] at o0 o1 p1
    have K1 := join8_any N hN gf gf2 Bf Bf2 w4 HR4.out.bf HT4.out.1 HR4.out.lf HT4.out.2.1
    cases q1
    case false =>
      go_upto_region 18 with fail
      have A9 : ∃ (wx : World) (gf9 : Nat) (Bf9 : List Bool), Hid (RX w b B N sv fv ss sets fs (setsL (ts.take (i + 1))) (FolC (ts.take (i + 1)) sets.length) (FirC (ts.take (i + 1)) sets.length) (LasC (ts.take i) sets.length) sv2 (ss1 ++ ss2) rs3 (sets1 ++ sets2) fs3 gf9 gl Bf9 Bl wx) ∧ Hid (Blk wx po #[.bool false, .slice (some ⟨gf9, 0, none⟩) N N, .slice (some ⟨gl, 0, none⟩) N N] 98) ∧ Hid (Blk wx (w.heap.size + 1) #[.bool false, .slice none 0 0, .slice none 0 0] 98) ∧ Hid (Blk wx p8 #[.bool q2, .slice (some ⟨gf2, 0, none⟩) N N, .slice (some ⟨gl2, 0, none⟩) N N] 98) ∧ Hid (Blk wx gl2 (brow Bl2) 4) ∧ wx = w4 :=
        ⟨w4, gf, Bf, HR4.out.told rfl (fun _ _ => Iff.rfl) (fun j => by rw [HET.out, FirC_snoc, ← HQ1.out]; simp) (fun _ => Iff.rfl), HO4, HQ4, HP4, HT4.out.2.2.2.1, rfl⟩
      obtain ⟨wx, gf9, Bf9, HR9, HO9, HQ9, HP9, HL9, e9⟩ := A9
      subst e9
      have HTL : Hid (Bl2.length = N ∧ ∀ j, On Bl2 j ↔ Las s (sets.length + onesL (ts.take i)) j) := HT4.out.2.2.2.2
      clear HR4 HO4 HQ4 HP4 HT4 K1 o0 o1 p1 of
      have o0 := HO9.out.c 0
      have o2 := HO9.out.c 2
      have p0 := HP9.out.c 0
      have p2 := HP9.out.c 2
      have of := HO9.out.frozen
      simp only [List.getElem?_toArray, List.getElem?_cons_zero, List.getElem?_cons_succ] at o0 o2 p0 p2
      have K2 := join8_any N hN gl gl2 Bl Bl2 wx HR9.out.bl HL9.out HR9.out.ll HTL.out.1
      have HPO2 := HPO.out
      cases q2
      case' false =>
        go_upto_region 21 with fail
        generalize hW6 : World.setCell _ _ _ = w6
        have A10 : ∃ (wy : World) (gl9 : Nat) (Bl9 : List Bool), Hid (RX w b B N sv fv ss sets fs (setsL (ts.take (i + 1))) (FolC (ts.take (i + 1)) sets.length) (FirC (ts.take (i + 1)) sets.length) (LasC (ts.take (i + 1)) sets.length) sv2 (ss1 ++ ss2) rs3 (sets1 ++ sets2) fs3 gf9 gl9 Bf9 Bl9 wy) ∧ Hid (Blk wy po #[.bool false, .slice (some ⟨gf9, 0, none⟩) N N, .slice (some ⟨gl9, 0, none⟩) N N] 98) ∧ Hid (Blk wy (w.heap.size + 1) #[.bool false, .slice none 0 0, .slice none 0 0] 98) ∧ Hid (Blk wy p8 #[.bool false, .slice (some ⟨gf2, 0, none⟩) N N, .slice (some ⟨gl2, 0, none⟩) N N] 98) ∧ wy = w6 := by
          have F5 := HR9.out.withL (La2 := LasC (ts.take (i + 1)) sets.length) HL9.out HTL.out.1 (fun j => by rw [HTL.out.2, HET.out, LasC_snoc, ← HQ2.out]; simp)
          refine ⟨w6, gl2, Bl2, ?_, ?_, ?_, ?_, rfl⟩
          · rw [← hW6]; exact F5.other HO9.out ne98 (by omega) 2 _
          · rw [← hW6]; exact HO9.out.set 2 _
          · rw [← hW6]; exact HQ9.out.other (p := ⟨po, 2, none⟩) (by show w.heap.size + 1 ≠ po; omega) _
          · rw [← hW6]; exact HP9.out.other (p := ⟨po, 2, none⟩) n1 _
        clear hW6
      case' true =>
        go_upto_region 21 with (go_at_call 81; refine K2.mono ?_; rintro _ w5 ⟨ob, os, rfl, hob, bo, lo, oo, g5⟩; have G5 : Hid (Gr wx w5) := g5; have BO : Hid (Blk w5 ob (brow os) 4 ∧ os.length = N ∧ ∀ j, On os j ↔ On Bl j ∨ On Bl2 j) := ⟨bo, lo, oo⟩; have HO5 : Hid (Blk w5 po #[.bool false, .slice (some ⟨gf9, 0, none⟩) N N, .slice (some ⟨gl, 0, none⟩) N N] 98) := HO9.out.gr g5; have o52 := HO5.out.c 2; have of5 := HO5.out.frozen; simp only [List.getElem?_toArray, List.getElem?_cons_zero, List.getElem?_cons_succ] at o52; clear hob bo lo oo g5)
        generalize hW6 : World.setCell _ _ _ = w6
        have A10 : ∃ (wy : World) (gl9 : Nat) (Bl9 : List Bool), Hid (RX w b B N sv fv ss sets fs (setsL (ts.take (i + 1))) (FolC (ts.take (i + 1)) sets.length) (FirC (ts.take (i + 1)) sets.length) (LasC (ts.take (i + 1)) sets.length) sv2 (ss1 ++ ss2) rs3 (sets1 ++ sets2) fs3 gf9 gl9 Bf9 Bl9 wy) ∧ Hid (Blk wy po #[.bool false, .slice (some ⟨gf9, 0, none⟩) N N, .slice (some ⟨gl9, 0, none⟩) N N] 98) ∧ Hid (Blk wy (w.heap.size + 1) #[.bool false, .slice none 0 0, .slice none 0 0] 98) ∧ Hid (Blk wy p8 #[.bool true, .slice (some ⟨gf2, 0, none⟩) N N, .slice (some ⟨gl2, 0, none⟩) N N] 98) ∧ wy = w6 := by
          have F5 := (HR9.out.bel G5.out.below).withL (La2 := LasC (ts.take (i + 1)) sets.length) BO.out.1 BO.out.2.1 (fun j => by rw [BO.out.2.2, HR9.out.onl, HTL.out.2, HET.out, LasC_snoc, ← HQ2.out]; simp)
          refine ⟨w6, ob, os, ?_, ?_, ?_, ?_, rfl⟩
          · rw [← hW6]; exact F5.other HO5.out ne98 (by omega) 2 _
          · rw [← hW6]; exact HO5.out.set 2 _
          · rw [← hW6]; exact (HQ9.out.gr G5.out).other (p := ⟨po, 2, none⟩) (by show w.heap.size + 1 ≠ po; omega) _
          · rw [← hW6]; exact (HP9.out.gr G5.out).other (p := ⟨po, 2, none⟩) n1 _
        clear hW6 G5 BO HO5 o52 of5
      all_goals
        obtain ⟨wy, gl9, Bl9, HR10, HO10, HQ10, HP10, e10⟩ := A10
        subst e10
        have HEE : Hid (empC (ts.take (i + 1)) = (empC (ts.take i) && emp s)) := by show _ = _; rw [HET.out, empC_append, empC_cons, empC_nil, Bool.and_true]
        clear HR9 HO9 HQ9 HP9 HL9 HTL K2 o0 o2 p0 p2 of
        have o0 := HO10.out.c 0
        have p0 := HP10.out.c 0
        have of := HO10.out.frozen
        simp only [List.getElem?_toArray, List.getElem?_cons_zero] at o0 p0
        go_wp2_with fail
        go_roundw
        case rel =>
          refine ⟨i + 1, _, _, _, _, _, gf9, gl9, Bf9, Bl9, by omega, by go_num, (⟨HR10.out.other HO10.out ne98 (by omega) 0 _, ?_, HQ10.out.other (p := ⟨po, 0, none⟩) (by show w.heap.size + 1 ≠ po; omega) _⟩ : TI8 _ _ _ _ _ _ _ _ _ _ _ _ _ _ _ _ _ _ _ _ _ _ _ _ _)⟩
          rw [HEE.out, ← HQ1.out, ← HQ2.out]
          exact HO10.out.set 0 _
        case measure => simp [intOf]; omega
    case true =>
      go_upto_region 18 with (go_at_call 81; refine K1.mono ?_; rintro _ w5 ⟨ob, os, rfl, hob, bo, lo, oo, g5⟩; have G5 : Hid (Gr w4 w5) := g5; have BO : Hid (Blk w5 ob (brow os) 4 ∧ os.length = N ∧ ∀ j, On os j ↔ On Bf j ∨ On Bf2 j) := ⟨bo, lo, oo⟩; have HO5 : Hid (Blk w5 po #[.bool true, .slice (some ⟨gf, 0, none⟩) N N, .slice (some ⟨gl, 0, none⟩) N N] 98) := HO4.out.gr g5; have o51 := HO5.out.c 1; have of5 := HO5.out.frozen; simp only [List.getElem?_toArray, List.getElem?_cons_zero, List.getElem?_cons_succ] at o51; clear hob bo lo oo g5)
      generalize hW6 : World.setCell _ _ _ = w6
      have A9 : ∃ (wx : World) (gf9 : Nat) (Bf9 : List Bool), Hid (RX w b B N sv fv ss sets fs (setsL (ts.take (i + 1))) (FolC (ts.take (i + 1)) sets.length) (FirC (ts.take (i + 1)) sets.length) (LasC (ts.take i) sets.length) sv2 (ss1 ++ ss2) rs3 (sets1 ++ sets2) fs3 gf9 gl Bf9 Bl wx) ∧ Hid (Blk wx po #[.bool true, .slice (some ⟨gf9, 0, none⟩) N N, .slice (some ⟨gl, 0, none⟩) N N] 98) ∧ Hid (Blk wx (w.heap.size + 1) #[.bool false, .slice none 0 0, .slice none 0 0] 98) ∧ Hid (Blk wx p8 #[.bool q2, .slice (some ⟨gf2, 0, none⟩) N N, .slice (some ⟨gl2, 0, none⟩) N N] 98) ∧ Hid (Blk wx gl2 (brow Bl2) 4) ∧ wx = w6 := by
        have F5 := (HR4.out.bel G5.out.below).withF (Fi2 := FirC (ts.take (i + 1)) sets.length) BO.out.1 BO.out.2.1 (fun j => by rw [BO.out.2.2, HR4.out.onf, HT4.out.2.2.1, HET.out, FirC_snoc, ← HQ1.out]; simp)
        refine ⟨w6, ob, os, ?_, ?_, ?_, ?_, ?_, rfl⟩
        · rw [← hW6]; exact F5.other HO5.out ne98 (by have := HPO.out; omega) 1 _
        · rw [← hW6]; exact HO5.out.set 1 _
        · rw [← hW6]; exact (HQ4.out.gr G5.out).other (p := ⟨po, 1, none⟩) (by have := HPO.out; show w.heap.size + 1 ≠ po; omega) _
        · rw [← hW6]; exact (HP4.out.gr G5.out).other (p := ⟨po, 1, none⟩) n1 _
        · rw [← hW6]; exact (HT4.out.2.2.2.1.gr G5.out).other (p := ⟨po, 1, none⟩) (fun e => by
            have e : gl2 = po := e
            subst e
            exact absurd ((HT4.out.2.2.2.1.gr G5.out).same HO5.out).2 (by decide)) _
      clear hW6 G5 BO HO5 o51 of5
      obtain ⟨wx, gf9, Bf9, HR9, HO9, HQ9, HP9, HL9, e9⟩ := A9
      subst e9
      have HTL : Hid (Bl2.length = N ∧ ∀ j, On Bl2 j ↔ Las s (sets.length + onesL (ts.take i)) j) := HT4.out.2.2.2.2
      clear HR4 HO4 HQ4 HP4 HT4 K1 o0 o1 p1 of
      have o0 := HO9.out.c 0
      have o2 := HO9.out.c 2
      have p0 := HP9.out.c 0
      have p2 := HP9.out.c 2
      have of := HO9.out.frozen
      simp only [List.getElem?_toArray, List.getElem?_cons_zero, List.getElem?_cons_succ] at o0 o2 p0 p2
      have K2 := join8_any N hN gl gl2 Bl Bl2 wx HR9.out.bl HL9.out HR9.out.ll HTL.out.1
      have HPO2 := HPO.out
      cases q2
      case' false =>
        go_upto_region 21 with fail
        generalize hW6 : World.setCell _ _ _ = w6
        have A10 : ∃ (wy : World) (gl9 : Nat) (Bl9 : List Bool), Hid (RX w b B N sv fv ss sets fs (setsL (ts.take (i + 1))) (FolC (ts.take (i + 1)) sets.length) (FirC (ts.take (i + 1)) sets.length) (LasC (ts.take (i + 1)) sets.length) sv2 (ss1 ++ ss2) rs3 (sets1 ++ sets2) fs3 gf9 gl9 Bf9 Bl9 wy) ∧ Hid (Blk wy po #[.bool true, .slice (some ⟨gf9, 0, none⟩) N N, .slice (some ⟨gl9, 0, none⟩) N N] 98) ∧ Hid (Blk wy (w.heap.size + 1) #[.bool false, .slice none 0 0, .slice none 0 0] 98) ∧ Hid (Blk wy p8 #[.bool false, .slice (some ⟨gf2, 0, none⟩) N N, .slice (some ⟨gl2, 0, none⟩) N N] 98) ∧ wy = w6 := by
          have F5 := HR9.out.withL (La2 := LasC (ts.take (i + 1)) sets.length) HL9.out HTL.out.1 (fun j => by rw [HTL.out.2, HET.out, LasC_snoc, ← HQ2.out]; simp)
          refine ⟨w6, gl2, Bl2, ?_, ?_, ?_, ?_, rfl⟩
          · rw [← hW6]; exact F5.other HO9.out ne98 (by omega) 2 _
          · rw [← hW6]; exact HO9.out.set 2 _
          · rw [← hW6]; exact HQ9.out.other (p := ⟨po, 2, none⟩) (by show w.heap.size + 1 ≠ po; omega) _
          · rw [← hW6]; exact HP9.out.other (p := ⟨po, 2, none⟩) n1 _
        clear hW6
      case' true =>
        go_upto_region 21 with (go_at_call 81; refine K2.mono ?_; rintro _ w5 ⟨ob, os, rfl, hob, bo, lo, oo, g5⟩; have G5 : Hid (Gr wx w5) := g5; have BO : Hid (Blk w5 ob (brow os) 4 ∧ os.length = N ∧ ∀ j, On os j ↔ On Bl j ∨ On Bl2 j) := ⟨bo, lo, oo⟩; have HO5 : Hid (Blk w5 po #[.bool true, .slice (some ⟨gf9, 0, none⟩) N N, .slice (some ⟨gl, 0, none⟩) N N] 98) := HO9.out.gr g5; have o52 := HO5.out.c 2; have of5 := HO5.out.frozen; simp only [List.getElem?_toArray, List.getElem?_cons_zero, List.getElem?_cons_succ] at o52; clear hob bo lo oo g5)
        generalize hW6 : World.setCell _ _ _ = w6
        have A10 : ∃ (wy : World) (gl9 : Nat) (Bl9 : List Bool), Hid (RX w b B N sv fv ss sets fs (setsL (ts.take (i + 1))) (FolC (ts.take (i + 1)) sets.length) (FirC (ts.take (i + 1)) sets.length) (LasC (ts.take (i + 1)) sets.length) sv2 (ss1 ++ ss2) rs3 (sets1 ++ sets2) fs3 gf9 gl9 Bf9 Bl9 wy) ∧ Hid (Blk wy po #[.bool true, .slice (some ⟨gf9, 0, none⟩) N N, .slice (some ⟨gl9, 0, none⟩) N N] 98) ∧ Hid (Blk wy (w.heap.size + 1) #[.bool false, .slice none 0 0, .slice none 0 0] 98) ∧ Hid (Blk wy p8 #[.bool true, .slice (some ⟨gf2, 0, none⟩) N N, .slice (some ⟨gl2, 0, none⟩) N N] 98) ∧ wy = w6 := by
          have F5 := (HR9.out.bel G5.out.below).withL (La2 := LasC (ts.take (i + 1)) sets.length) BO.out.1 BO.out.2.1 (fun j => by rw [BO.out.2.2, HR9.out.onl, HTL.out.2, HET.out, LasC_snoc, ← HQ2.out]; simp)
          refine ⟨w6, ob, os, ?_, ?_, ?_, ?_, rfl⟩
          · rw [← hW6]; exact F5.other HO5.out ne98 (by omega) 2 _
          · rw [← hW6]; exact HO5.out.set 2 _
          · rw [← hW6]; exact (HQ9.out.gr G5.out).other (p := ⟨po, 2, none⟩) (by show w.heap.size + 1 ≠ po; omega) _
          · rw [← hW6]; exact (HP9.out.gr G5.out).other (p := ⟨po, 2, none⟩) n1 _
        clear hW6 G5 BO HO5 o52 of5
      all_goals
        obtain ⟨wy, gl9, Bl9, HR10, HO10, HQ10, HP10, e10⟩ := A10
        subst e10
        have HEE : Hid (empC (ts.take (i + 1)) = (empC (ts.take i) && emp s)) := by show _ = _; rw [HET.out, empC_append, empC_cons, empC_nil, Bool.and_true]
        clear HR9 HO9 HQ9 HP9 HL9 HTL K2 o0 o2 p0 p2 of
        have o0 := HO10.out.c 0
        have p0 := HP10.out.c 0
        have of := HO10.out.frozen
        simp only [List.getElem?_toArray, List.getElem?_cons_zero] at o0 p0
        go_wp2_with fail
        go_roundw
        case rel =>
          refine ⟨i + 1, _, _, _, _, _, gf9, gl9, Bf9, Bl9, by omega, by go_num, (⟨HR10.out.other HO10.out ne98 (by omega) 0 _, ?_, HQ10.out.other (p := ⟨po, 0, none⟩) (by show w.heap.size + 1 ≠ po; omega) _⟩ : TI8 _ _ _ _ _ _ _ _ _ _ _ _ _ _ _ _ _ _ _ _ _ _ _ _ _)⟩
          rw [HEE.out, ← HQ1.out, ← HQ2.out]
          exact HO10.out.set 0 _
        case measure => simp [intOf]; omega

end Go.Proofs.YtjjlkjfhhpogaaaDoor

namespace Go.Proofs.YtjjlkjfhhpogaaaDoor
open Go.RowKit

set_option maxRecDepth 100000 in
set_option maxHeartbeats 8000000 in
theorem of8_alt (w0 : World) (N : Nat) (hN : N ≤ 200) (set : List (Int × Int)) (ts : List Tree) (hE : ∀ (i : Nat) s, ts[i]? = some s → CPR w0 N s) : CPR w0 N (.mk 3 set ts) := by
  intro w b B sv fv ss rs sets fs x hX hB hw h0 hT hk hsz hg hl
  obtain ⟨k, set', subs', xs, sa, sc, ba, bc, he, rfl, hS, hR, hs⟩ := hT.parts
  injection he with e1 e2 e3
  subst e1 e2 e3
  rw [kindsT_mk] at hk
  simp only [Bool.and_eq_true] at hk
  rw [goodT_mk] at hg
  rw [size_mk] at hsz
  have e1 : emp (.mk 3 set ts) = empA ts := by rw [emp_mk]; rfl
  have e2 : setsT (.mk 3 set ts) = setsL ts := by rw [setsT_mk]; rfl
  have e3 : Fol (.mk 3 set ts) sets.length = FolA ts sets.length := by funext i j; rw [Fol]; rfl
  have e4 : Fir (.mk 3 set ts) sets.length = FirA ts sets.length := by funext i; rw [Fir]; rfl
  have e5 : Las (.mk 3 set ts) sets.length = LasA ts sets.length := by funext i; rw [Las]; rfl
  rw [e1, e2, e3, e4, e5]
  rw [ones_mk, if_neg (by omega)] at hl
  have HEN := EN.of hX ⟨3, ⟨sa, set.length, sc⟩, ⟨ba, ts.length, bc⟩⟩
  obtain ⟨M, hM⟩ : ∃ M : Nat, M = ts.length := ⟨_, rfl⟩
  have HM : Hid (M = ts.length) := hM
  have HX : Hid (RS w b B N sv fv ss rs sets fs) := hX
  have HROW : Hid (RowT w0 (.slice ba M bc) xs) := by rw [hM]; exact hR
  have HTS : Hid (HTs w0 ts xs) := hs
  have H0 : Hid (Below w0.heap.size w0 w) := h0
  have HB : Hid (w0.heap.size ≤ w.heap.size ∧ B ≤ w.heap.size ∧ w0.heap.size ≤ B) := ⟨by omega, hB, hw⟩
  have HK : Hid (kindsL ts = true ∧ sizeL ts ≤ 200 ∧ goodL ts ∧ sets.length + onesL ts ≤ N) := ⟨hk.2, by omega, hg.2, hl⟩
  have HEs : Hid (∀ (i : Nat) s, ts[i]? = some s → CPR w0 N s) := hE
  have hM2 : M ≤ 200 := by have := length_le_sizeL ts; omega
  have mk : ∀ W : World, (Instr.makeSlice 96 (.int .i64 N) (.int .i64 N)).run Tryd.prog W = .ok (.slice (some ⟨W.heap.size, 0, none⟩) N N) (W.alloc (.cells (brow (List.replicate N false)) 4)) := fun W => make4 N (by omega) W
  have q0 := hX.blk.c 0
  have hbl := hX.blk.lt
  simp only [List.getElem?_toArray, List.getElem?_cons_zero] at q0
  rw [← hM] at HEN ⊢
  generalize set.length = sl at *
  clear hX hB hw h0 hT hk hsz hg hS hR hs e1 e2 e3 e4 e5 hE hl hM
  go_enter Tryd.func56, Tryd.ntmps56
  go_upto_region 2 with fail
  generalize hW : World.alloc _ _ = W2
  have HE : Hid (EN w b B N sv fv ss rs sets fs ⟨3, ⟨sa, sl, sc⟩, ⟨ba, M, bc⟩⟩ W2) := by rw [← hW]; exact HEN
  clear hW HEN q0 mk
  obtain ⟨x0, x1, x2⟩ := BlkT.cs HE.out.box
  have hbx := HE.out.box.lt
  simp only at x0 x1 x2
  go_upto_region 26 with fail
  generalize hW3 : World.alloc _ _ = W3
  have I0 : Hid (TI8 w b B N sv fv ss sets fs W2.heap.size (empA (ts.take 0)) (setsL (ts.take 0)) (FirA (ts.take 0) sets.length) (LasA (ts.take 0) sets.length) (FolA (ts.take 0) sets.length) sv [] rs [] fs (w.heap.size + 2) (w.heap.size + 2) (List.replicate N false) (List.replicate N false) W3) := by
    rw [← hW3, List.take_zero]
    have h1 := (RX.start HE.out.rs HE.out.bel HE.out.non).bel ((Below.refl _ _).alloc (Nat.le_refl _) (.cells #[.bool false, .slice (some ⟨w.heap.size + 2, 0, none⟩) N N, .slice (some ⟨w.heap.size + 2, 0, none⟩) N N] 98))
    refine ⟨h1.told setsL_nil.symm (fun i j => (FolA_nil _ _ _).symm) (fun j => (FirA_nil _ _).symm) (fun j => (LasA_nil _ _).symm), ?_, HE.out.res.alloc _⟩
    rw [empA_nil]
    exact Blk.new _ _ _
  have B3 : Hid (Below W2.heap.size W2 W3) := by rw [← hW3]; exact (Below.refl _ _).alloc (Nat.le_refl _) _
  have HPO : Hid (w.heap.size + 2 < W2.heap.size) := HE.out.non.lt
  clear x0 x1 x2
  obtain ⟨x0, x1, x2⟩ := BlkT.cs (HE.out.box.bel B3.out)
  simp only at x0 x1 x2
  clear hW3 hbx
  generalize W2.heap.size = po at I0 HPO ⊢
  go_wp2_with fail
  clear x0 x1 x2 B3 HE
  go_loopw [111] (fun vi wr => ∃ (i : Nat) (sv' : Sl) (ss' rs' : List Sl) (sets' : List (List (Int × Int))) (fs' : List (List Bool)) (gf gl : Nat) (Bf Bl : List Bool), i ≤ M ∧ vi = .int .i64 i ∧ Hid (TI8 w b B N sv fv ss sets fs po (empA (ts.take i)) (setsL (ts.take i)) (FirA (ts.take i) sets.length) (LasA (ts.take i) sets.length) (FolA (ts.take i) sets.length) sv' ss' rs' sets' fs' gf gl Bf Bl wr)) (fun vi _ => M - (intOf vi).toNat)
  case atStart => exact ⟨0, _, _, _, _, _, _, _, _, _, Nat.zero_le _, rfl, I0⟩
  case round =>
    clear I0
    obtain ⟨i, sv1, ss1, rs1, sets1, fs1, gf, gl, Bf, Bl, hi, rfl, HI⟩ := hrel
    by_cases hlt : i < M
    case neg =>
      have e : i = M := by omega
      subst e
      have he : ts.take i = ts := by rw [HM.out, List.take_length]
      rw [he] at HI
      have o0 := HI.out.out.c 0
      have o1 := HI.out.out.c 1
      have o2 := HI.out.out.c 2
      have q0 := HI.out.res.c 0
      have q1 := HI.out.res.c 1
      have q2 := HI.out.res.c 2
      have qf := HI.out.res.frozen
      simp only [List.getElem?_toArray, List.getElem?_cons_zero, List.getElem?_cons_succ] at o0 o1 o2 q0 q1 q2
      have n1 : po ≠ w.heap.size + 1 := by have := HPO.out; omega
      go_wp2_with fail
      obtain ⟨P, T⟩ := HI.out.rx.put HI.out.res (by omega) (empA ts) ⟨some ⟨gf, 0, none⟩, N, N⟩ ⟨some ⟨gl, 0, none⟩, N, N⟩
      refine bodyPost_ret (v := .agg #[.bool (empA ts), .slice (some ⟨gf, 0, none⟩) N N, .slice (some ⟨gl, 0, none⟩) N N]) ?_ rfl ⟨_, _, _, _, _, gf, gl, Bf, Bl, rfl, P⟩
      simp [results, Tryd.results56]
      exact run_part8 (x := ⟨some ⟨gf, 0, none⟩, N, N⟩) (y := ⟨some ⟨gl, 0, none⟩, N, N⟩) T
    obtain ⟨s, hs⟩ : ∃ s, ts[i]? = some s := ⟨_, List.getElem?_eq_getElem (by have := HM.out; omega)⟩
    obtain ⟨x, hx, hT⟩ := HTS.out.at hs
    obtain ⟨b9, off, rfl, hb9, c0, c1, c2⟩ := HROW.out.cs3 hx
    have hbr := bel08 HX.out HB.out.2.2 HB.out.2.1 H0.out HI.out.rx.fx
    have r0 := (hbr.cell (by exact hb9)).trans c0
    have r1 := (hbr.cell (by exact hb9)).trans c1
    have r2 := (hbr.cell (by exact hb9)).trans c2
    have HS : Hid (ts[i]? = some s) := hs
    have hon : onesL (ts.take i) + ones s ≤ onesL ts := by
      have h1 := onesL_append (ts.take i) (ts.drop i)
      rw [List.take_append_drop, drop_of hs, onesL_cons] at h1
      omega
    have hl1 : sets1.length = onesL (ts.take i) := by have := HI.out.rx.sts.1; rw [setsL_len] at this; exact this
    have HL1 : Hid (sets1.length = onesL (ts.take i)) := hl1
    obtain ⟨xk, ⟨x1, x2, x3⟩, x4, x5, x6⟩ := x
    simp only at r0 r1 r2
    have KE : Hid (Calls Tryd.prog 56 #[.pointer (some ⟨b, 0, none⟩), .agg #[.int .i64 xk, .slice x1 x2 x3, .slice x4 x5 x6]] (wr.alloc (.cells #[.int .i64 xk, .slice x1 x2 x3, .slice x4 x5 x6] 25)) (PostR (wr.alloc (.cells #[.int .i64 xk, .slice x1 x2 x3, .slice x4 x5 x6] 25)) b B N sv1 fv (ss ++ ss1) (sets ++ sets1) fs1 (emp s) (setsT s) (Fol s (sets ++ sets1).length) (Fir s (sets ++ sets1).length) (Las s (sets ++ sets1).length))) :=
      HEs.out i s hs _ b B sv1 fv _ rs1 _ fs1 ⟨xk, ⟨x1, x2, x3⟩, x4, x5, x6⟩ (HI.out.rx.rs.bel ((Below.refl _ _).alloc (Nat.le_refl _) _)) (by have := HI.out.rx.fx.size; have := HB.out; simp; omega) HB.out.2.2 (hbr.alloc (by have := hbr.size; omega) _) hT (kindsT_of_at HK.out.1 hs) (Nat.le_trans (size_le_of_at hs) HK.out.2.1) (goodL.at HK.out.2.2.1 hs) (by rw [List.length_append, hl1]; have := HK.out.2.2.2; omega)
    have hi2 : (i : Int) < M := by omega
    clear c0 c1 c2 hbr hs hx hT hon hl1 hb9
    go_upto_region 30 with (go_at_call 56; refine KE.out.mono ?_; rintro _ w3 ⟨sv2, ss2, rs2, sets2, fs2, gf2, gl2, Bf2, Bl2, rfl, px⟩; have P2 : Hid _ := px; clear px)
    have HRX := ((HI.out.rx.bel ((Below.refl _ _).alloc (Nat.le_refl _) (.cells #[.int .i64 xk, .slice x1 x2 x3, .slice x4 x5 x6] 25))).part P2.out)
    have hrs0 := HI.out.rx.rs.bel ((Below.refl _ _).alloc (Nat.le_refl _) (.cells #[.int .i64 xk, .slice x1 x2 x3, .slice x4 x5 x6] 25))
    have o3 := P2.out.blk hrs0 (HI.out.out.alloc _) (by decide) (by decide) (by decide)
    have q3 := P2.out.blk hrs0 (HI.out.res.alloc _) (by decide) (by decide) (by decide)
    generalize hW3 : World.alloc _ _ = W3
    have b3 : Below w3.heap.size w3 W3 := by rw [← hW3]; exact (Below.refl _ _).alloc (Nat.le_refl _) _
    have HR3 : Hid (RX w b B N sv fv ss sets fs (setsL (ts.take i) ++ setsT s) (fun i' j => FolA (ts.take i) sets.length i' j ∨ Fol s (sets ++ sets1).length i' j) (FirA (ts.take i) sets.length) (LasA (ts.take i) sets.length) sv2 (ss1 ++ ss2) rs2 (sets1 ++ sets2) fs2 gf gl Bf Bl W3) := HRX.bel b3
    obtain ⟨q1, hq1⟩ : ∃ q1, q1 = empA (ts.take i) := ⟨_, rfl⟩
    obtain ⟨q2, hq2⟩ : ∃ q2, q2 = emp s := ⟨_, rfl⟩
    rw [← hq1] at o3
    have HO3 : Hid (Blk W3 po #[.bool q1, .slice (some ⟨gf, 0, none⟩) N N, .slice (some ⟨gl, 0, none⟩) N N] 98) := o3.bel b3
    have HQ3 : Hid (Blk W3 (w.heap.size + 1) #[.bool false, .slice none 0 0, .slice none 0 0] 98) := q3.bel b3
    have HP3 : Hid (Blk W3 w3.heap.size #[.bool q2, .slice (some ⟨gf2, 0, none⟩) N N, .slice (some ⟨gl2, 0, none⟩) N N] 98) := by rw [← hW3, hq2]; exact Blk.new _ _ _
    have HT3 : Hid (Blk W3 gf2 (brow Bf2) 4 ∧ Bf2.length = N ∧ (∀ j, On Bf2 j ↔ Fir s (sets ++ sets1).length j) ∧ Blk W3 gl2 (brow Bl2) 4 ∧ Bl2.length = N ∧ (∀ j, On Bl2 j ↔ Las s (sets ++ sets1).length j)) := ⟨P2.out.bf.bel b3, P2.out.lf, P2.out.onf, P2.out.bl.bel b3, P2.out.ll, P2.out.onl⟩
    have HQ1 : Hid (q1 = empA (ts.take i)) := hq1
    have HQ2 : Hid (q2 = emp s) := hq2
    have hs3 : po < w3.heap.size := o3.lt
    clear HRX hrs0 o3 q3 hW3 b3 HI KE P2 r0 r1 r2 hq1 hq2
    generalize w3.heap.size = p8 at HP3 hs3 ⊢
    clear w3
    have K1 := join8_any N hN gf gf2 Bf Bf2 (W3.drew) (HR3.out.bf.drewN 1) (HT3.out.1.drewN 1) HR3.out.lf HT3.out.2.1
    have K2 : Hid (∀ W, Gr (W3.drew) W → Calls Tryd.prog 81 #[.slice (some ⟨gl, 0, none⟩) N N, .slice (some ⟨gl2, 0, none⟩) N N] W (PostJ N Bl Bl2 W)) := fun W g => join8_any N hN gl gl2 Bl Bl2 W ((HR3.out.bl.drewN 1).gr g) ((HT3.out.2.2.2.1.drewN 1).gr g) HR3.out.ll HT3.out.2.2.2.2.1
    have o0 := HO3.out.c 0
    have o1 := HO3.out.c 1
    have o2 := HO3.out.c 2
    have p0 := HP3.out.c 0
    have p1 := HP3.out.c 1
    have p2 := HP3.out.c 2
    simp only [List.getElem?_toArray, List.getElem?_cons_zero, List.getElem?_cons_succ] at o0 o1 o2 p0 p1 p2
    have HB5 : Hid (∀ w5, Gr (W3.drew) w5 → Blk w5 po #[.bool q1, .slice (some ⟨gf, 0, none⟩) N N, .slice (some ⟨gl, 0, none⟩) N N] 98 ∧ Blk w5 p8 #[.bool q2, .slice (some ⟨gf2, 0, none⟩) N N, .slice (some ⟨gl2, 0, none⟩) N N] 98) := fun w5 g5 => ⟨(HO3.out.drewN 1).gr g5, (HP3.out.drewN 1).gr g5⟩
    cases q1
    case false =>
      refine wp_region_last (l := [_, _, _, _, _, _, _, _, _, _, _, _, _, _, _, _, _]) (st := _) (S := fun W => W.cell? ⟨po, 0, none⟩ = some (.bool false) ∧ W.cell? ⟨po, 1, none⟩ = some (.slice (some ⟨gf, 0, none⟩) N N) ∧ W.cell? ⟨po, 2, none⟩ = some (.slice (some ⟨gl, 0, none⟩) N N) ∧ W.cell? ⟨p8, 0, none⟩ = some (.bool q2) ∧ W.cell? ⟨p8, 1, none⟩ = some (.slice (some ⟨gf2, 0, none⟩) N N) ∧ W.cell? ⟨p8, 2, none⟩ = some (.slice (some ⟨gl2, 0, none⟩) N N)) (by kernel_rfl) (lastOf (by kernel_rfl)) ⟨o0, o1, o2, p0, p1, p2⟩ (fun hHeld => ?_)
      refine take_pure 0 ?vf0 rfl (by kernel_rfl) (by kernel_rfl) (by kernel_rfl) (fun _ _ _ h => h) (by rfl) (by assumption) ?hyf0 ?hf0
      case hyf0 => (intro w hSw; (try dsimp only at hSw); obtain ⟨s0, s1, s2, s3, s4, s5⟩ := hSw; (try go_simp); (try with_reducible rfl))
      try simp only [Act.put, List.setIfInBounds_toArray, List.set_cons_zero, List.set_cons_succ]
      refine take_pure 1 ?vf1 rfl (by kernel_rfl) (by kernel_rfl) (by kernel_rfl) (fun _ _ _ h => h) (by rfl) (by assumption) ?hyf1 ?hf1
      case hyf1 => (intro w hSw; (try dsimp only at hSw); obtain ⟨s0, s1, s2, s3, s4, s5⟩ := hSw; (try go_simp); (try with_reducible rfl))
      try simp only [Act.put, List.setIfInBounds_toArray, List.set_cons_zero, List.set_cons_succ]
      refine take_pure 2 ?vf2 rfl (by kernel_rfl) (by kernel_rfl) (by kernel_rfl) (fun _ _ _ h => h) (by rfl) (by assumption) ?hyf2 ?hf2
      case hyf2 => (intro w hSw; (try dsimp only at hSw); obtain ⟨s0, s1, s2, s3, s4, s5⟩ := hSw; (try go_simp); (try with_reducible rfl))
      try simp only [Act.put, List.setIfInBounds_toArray, List.set_cons_zero, List.set_cons_succ]
      refine take_pure 3 ?vf3 rfl (by kernel_rfl) (by kernel_rfl) (by kernel_rfl) (fun _ _ _ h => h) (by rfl) (by assumption) ?hyf3 ?hf3
      case hyf3 => (intro w hSw; (try dsimp only at hSw); obtain ⟨s0, s1, s2, s3, s4, s5⟩ := hSw; (try go_simp); (try with_reducible rfl))
      try simp only [Act.put, List.setIfInBounds_toArray, List.set_cons_zero, List.set_cons_succ]
      refine take_pure 4 ?vf4 rfl (by kernel_rfl) (by kernel_rfl) (by kernel_rfl) (fun _ _ _ h => h) (by rfl) (by assumption) ?hyf4 ?hf4
      case hyf4 => (intro w hSw; (try dsimp only at hSw); obtain ⟨s0, s1, s2, s3, s4, s5⟩ := hSw; (try go_simp); (try with_reducible rfl))
      try simp only [Act.put, List.setIfInBounds_toArray, List.set_cons_zero, List.set_cons_succ]
      refine take_pure 5 ?vf5 rfl (by kernel_rfl) (by kernel_rfl) (by kernel_rfl) (fun _ _ _ h => h) (by rfl) (by assumption) ?hyf5 ?hf5
      case hyf5 => (intro w hSw; (try dsimp only at hSw); obtain ⟨s0, s1, s2, s3, s4, s5⟩ := hSw; (try go_simp); (try with_reducible rfl))
      try simp only [Act.put, List.setIfInBounds_toArray, List.set_cons_zero, List.set_cons_succ]
      refine take_pure 6 ?vf6 rfl (by kernel_rfl) (by kernel_rfl) (by kernel_rfl) (fun _ _ _ h => h) (by rfl) (by assumption) ?hyf6 ?hf6
      case hyf6 => (intro w hSw; (try dsimp only at hSw); obtain ⟨s0, s1, s2, s3, s4, s5⟩ := hSw; (try go_simp); (try with_reducible rfl))
      try simp only [Act.put, List.setIfInBounds_toArray, List.set_cons_zero, List.set_cons_succ]
      refine take_pure 7 ?vf7 rfl (by kernel_rfl) (by kernel_rfl) (by kernel_rfl) (fun _ _ _ h => h) (by rfl) (by assumption) ?hyf7 ?hf7
      case hyf7 => (intro w hSw; (try dsimp only at hSw); obtain ⟨s0, s1, s2, s3, s4, s5⟩ := hSw; (try go_simp); (try with_reducible rfl))
      try simp only [Act.put, List.setIfInBounds_toArray, List.set_cons_zero, List.set_cons_succ]
      refine take_pure 8 ?vf8 rfl (by kernel_rfl) (by kernel_rfl) (by kernel_rfl) (fun _ _ _ h => h) (by rfl) (by assumption) ?hyf8 ?hf8
      case hyf8 => (intro w hSw; (try dsimp only at hSw); obtain ⟨s0, s1, s2, s3, s4, s5⟩ := hSw; (try go_simp); (try with_reducible rfl))
      try simp only [Act.put, List.setIfInBounds_toArray, List.set_cons_zero, List.set_cons_succ]
      refine take_pure 9 ?vf9 rfl (by kernel_rfl) (by kernel_rfl) (by kernel_rfl) (fun _ _ _ h => h) (by rfl) (by assumption) ?hyf9 ?hf9
      case hyf9 => (intro w hSw; (try dsimp only at hSw); obtain ⟨s0, s1, s2, s3, s4, s5⟩ := hSw; (try go_simp); (try with_reducible rfl))
      try simp only [Act.put, List.setIfInBounds_toArray, List.set_cons_zero, List.set_cons_succ]
      refine take_pure 11 ?vf11 rfl (by kernel_rfl) (by kernel_rfl) (by kernel_rfl) (fun _ _ _ h => h) (by rfl) (by assumption) ?hyf11 ?hf11
      case hyf11 => (intro w hSw; (try dsimp only at hSw); obtain ⟨s0, s1, s2, s3, s4, s5⟩ := hSw; (try go_simp); (try with_reducible rfl))
      try simp only [Act.put, List.setIfInBounds_toArray, List.set_cons_zero, List.set_cons_succ]
      refine take_pure 12 ?vf12 rfl (by kernel_rfl) (by kernel_rfl) (by kernel_rfl) (fun _ _ _ h => h) (by rfl) (by assumption) ?hyf12 ?hf12
      case hyf12 => (intro w hSw; (try dsimp only at hSw); obtain ⟨s0, s1, s2, s3, s4, s5⟩ := hSw; (try go_simp); (try with_reducible rfl))
      try simp only [Act.put, List.setIfInBounds_toArray, List.set_cons_zero, List.set_cons_succ]
      refine take_pure 13 ?vf13 rfl (by kernel_rfl) (by kernel_rfl) (by kernel_rfl) (fun _ _ _ h => h) (by rfl) (by assumption) ?hyf13 ?hf13
      case hyf13 => (intro w hSw; (try dsimp only at hSw); obtain ⟨s0, s1, s2, s3, s4, s5⟩ := hSw; (try go_simp); (try with_reducible rfl))
      try simp only [Act.put, List.setIfInBounds_toArray, List.set_cons_zero, List.set_cons_succ]
      refine take_pure 14 ?vf14 rfl (by kernel_rfl) (by kernel_rfl) (by kernel_rfl) (fun _ _ _ h => h) (by rfl) (by assumption) ?hyf14 ?hf14
      case hyf14 => (intro w hSw; (try dsimp only at hSw); obtain ⟨s0, s1, s2, s3, s4, s5⟩ := hSw; (try go_simp); (try with_reducible rfl))
      try simp only [Act.put, List.setIfInBounds_toArray, List.set_cons_zero, List.set_cons_succ]
      refine take_one 10 rfl (by kernel_rfl) (fun K hK => ?_)
      go_simp
      go_at_call 81
      refine K1.mono ?_
      rintro _ w5 ⟨ob, os, rfl, hob, bo, lo, oo, g5⟩
      have G5 : Hid (Gr W3.drew w5) := g5
      have BO : Hid (Blk w5 ob (brow os) 4 ∧ os.length = N ∧ ∀ j, On os j ↔ On Bf j ∨ On Bf2 j) := ⟨bo, lo, oo⟩
      clear hob bo lo oo g5 hHeld
      have K3 := K2.out w5 G5.out
      refine hK.out _ _ ?_ (fun hHeld => ?_)
      · obtain ⟨d, d'⟩ := HB5.out w5 G5.out
        exact ⟨d.c 0, d.c 1, d.c 2, d'.c 0, d'.c 1, d'.c 2⟩
      clear hK K
      try simp only [Act.put, List.setIfInBounds_toArray, List.set_cons_zero, List.set_cons_succ]
      refine take_one 15 rfl (by kernel_rfl) (fun K hK => ?_)
      go_simp
      go_at_call 81
      refine K3.mono ?_
      rintro _ w6 ⟨ob2, os2, rfl, hob, bo, lo, oo, g6⟩
      have G6 : Hid (Gr W3.drew w6) := G5.out.trans g6
      have BO2 : Hid (Blk w6 ob2 (brow os2) 4 ∧ os2.length = N ∧ ∀ j, On os2 j ↔ On Bl j ∨ On Bl2 j) := ⟨bo, lo, oo⟩
      have BO1 : Hid (Blk w6 ob (brow os) 4) := BO.out.1.gr g6
      clear hob bo lo oo g6 hHeld K3
      refine hK.out _ _ ?_ (fun hHeld => ?_)
      · obtain ⟨d, d'⟩ := HB5.out w6 G6.out
        exact ⟨d.c 0, d.c 1, d.c 2, d'.c 0, d'.c 1, d'.c 2⟩
      clear hK K
      try simp only [Act.put, List.setIfInBounds_toArray, List.set_cons_zero, List.set_cons_succ]
      refine take_pure 16 ?vf16 rfl (by kernel_rfl) (by kernel_rfl) (by kernel_rfl) (fun _ _ _ h => h) (by rfl) (by assumption) ?hyf16 ?hf16
      case hyf16 => (intro w hSw; (try dsimp only at hSw); obtain ⟨s0, s1, s2, s3, s4, s5⟩ := hSw; (try go_simp); (try with_reducible rfl))
      try simp only [Act.put, List.setIfInBounds_toArray, List.set_cons_zero, List.set_cons_succ]
      refine wpAnyH_done (by kernel_rfl) ?_ _
      refine behind_step (fun K hK => ?_)
      obtain ⟨d, d'⟩ := HB5.out w6 G6.out
      have e0 := d.c 0
      have e1 := d.c 1
      have e2 := d.c 2
      have ef := d.frozen
      simp only [List.getElem?_toArray, List.getElem?_cons_zero, List.getElem?_cons_succ] at e0 e1 e2
      have HO6 : Hid (Blk w6 po #[.bool false, .slice (some ⟨gf, 0, none⟩) N N, .slice (some ⟨gl, 0, none⟩) N N] 98) := d
      clear d d' hHeld K1
      go_simp
      refine hK _ _ ?_
      clear hK K e0 e1 e2 ef
      have bw : Below W3.heap.size W3 w6 := ⟨G6.out.below.os, G6.out.below.tape, G6.out.below.output, G6.out.below.size, G6.out.below.block⟩
      have hlen : (sets ++ sets1).length = sets.length + onesL (ts.take i) := by rw [List.length_append, HL1.out]
      have et := take_succ_of HS.out
      have R6 := ((HR3.out.bel bw).withF (Fi2 := FirA (ts.take (i + 1)) sets.length) BO1.out BO.out.2.1 (fun j => by rw [BO.out.2.2, HR3.out.onf, HT3.out.2.2.1, et, FirA_snoc, hlen])).withL (La2 := LasA (ts.take (i + 1)) sets.length) BO2.out.1 BO2.out.2.1 (fun j => by rw [BO2.out.2.2, HR3.out.onl, HT3.out.2.2.2.2.2, et, LasA_snoc, hlen])
      have R7 := R6.told (S2 := setsL (ts.take (i + 1))) (F2 := FolA (ts.take (i + 1)) sets.length) (by rw [et, setsL_append, setsL_cons, setsL_nil, List.append_nil]) (fun i' j => by rw [et, FolA_snoc, hlen]) (fun _ => Iff.rfl) (fun _ => Iff.rfl)
      obtain ⟨R8, O8⟩ := R7.put HO6.out (by have := HPO.out; omega) q2 ⟨some ⟨ob, 0, none⟩, N, N⟩ ⟨some ⟨ob2, 0, none⟩, N, N⟩
      have npo : w.heap.size + 1 ≠ po := by have := HPO.out; omega
      have Q8 := (((HQ3.out.bel bw).other (p := ⟨po, 0, none⟩) npo (.bool q2)).other (p := ⟨po, 1, none⟩) npo (.slice (some ⟨ob, 0, none⟩) N N)).other (p := ⟨po, 2, none⟩) npo (.slice (some ⟨ob2, 0, none⟩) N N)
      have HEE : Hid (empA (ts.take (i + 1)) = q2) := by
        show _ = _
        rw [et, empA_append, empA_cons, empA_nil, Bool.or_false, ← HQ1.out, ← HQ2.out]
        simp
      have HTI : Hid (TI8 w b B N sv fv ss sets fs po (empA (ts.take (i + 1))) (setsL (ts.take (i + 1))) (FirA (ts.take (i + 1)) sets.length) (LasA (ts.take (i + 1)) sets.length) (FolA (ts.take (i + 1)) sets.length) sv2 (ss1 ++ ss2) rs2 (sets1 ++ sets2) fs2 ob ob2 os os2 _) := ⟨R8, by rw [HEE.out]; exact O8, Q8⟩
      clear bw hlen et R6 R7 R8 O8 npo Q8 HEE
      go_wp2_with fail
      go_roundw
      case rel => exact ⟨i + 1, _, _, _, _, _, _, _, _, _, by omega, by go_num, HTI⟩
      case measure => simp [intOf]; omega
    case true =>
      refine wp_region_last (l := [_, _, _, _, _, _, _, _, _, _, _, _, _, _, _, _, _]) (st := _) (S := fun W => W.cell? ⟨po, 0, none⟩ = some (.bool true) ∧ W.cell? ⟨po, 1, none⟩ = some (.slice (some ⟨gf, 0, none⟩) N N) ∧ W.cell? ⟨po, 2, none⟩ = some (.slice (some ⟨gl, 0, none⟩) N N) ∧ W.cell? ⟨p8, 0, none⟩ = some (.bool q2) ∧ W.cell? ⟨p8, 1, none⟩ = some (.slice (some ⟨gf2, 0, none⟩) N N) ∧ W.cell? ⟨p8, 2, none⟩ = some (.slice (some ⟨gl2, 0, none⟩) N N)) (by kernel_rfl) (lastOf (by kernel_rfl)) ⟨o0, o1, o2, p0, p1, p2⟩ (fun hHeld => ?_)
      refine take_pure 0 ?vt0 rfl (by kernel_rfl) (by kernel_rfl) (by kernel_rfl) (fun _ _ _ h => h) (by rfl) (by assumption) ?hyt0 ?ht0
      case hyt0 => (intro w hSw; (try dsimp only at hSw); obtain ⟨s0, s1, s2, s3, s4, s5⟩ := hSw; (try go_simp); (try with_reducible rfl))
      try simp only [Act.put, List.setIfInBounds_toArray, List.set_cons_zero, List.set_cons_succ]
      refine take_pure 1 ?vt1 rfl (by kernel_rfl) (by kernel_rfl) (by kernel_rfl) (fun _ _ _ h => h) (by rfl) (by assumption) ?hyt1 ?ht1
      case hyt1 => (intro w hSw; (try dsimp only at hSw); obtain ⟨s0, s1, s2, s3, s4, s5⟩ := hSw; (try go_simp); (try with_reducible rfl))
      try simp only [Act.put, List.setIfInBounds_toArray, List.set_cons_zero, List.set_cons_succ]
      refine take_pure 2 ?vt2 rfl (by kernel_rfl) (by kernel_rfl) (by kernel_rfl) (fun _ _ _ h => h) (by rfl) (by assumption) ?hyt2 ?ht2
      case hyt2 => (intro w hSw; (try dsimp only at hSw); obtain ⟨s0, s1, s2, s3, s4, s5⟩ := hSw; (try go_simp); (try with_reducible rfl))
      try simp only [Act.put, List.setIfInBounds_toArray, List.set_cons_zero, List.set_cons_succ]
      refine take_off 3 rfl (by kernel_rfl) (by kernel_rfl) (by kernel_rfl) (fun _ _ _ h => h) (by rfl) (by assumption) ?_
      try simp only [Act.put, List.setIfInBounds_toArray, List.set_cons_zero, List.set_cons_succ]
      refine take_off 4 rfl (by kernel_rfl) (by kernel_rfl) (by kernel_rfl) (fun _ _ _ h => h) (by rfl) (by assumption) ?_
      try simp only [Act.put, List.setIfInBounds_toArray, List.set_cons_zero, List.set_cons_succ]
      refine take_pure 5 ?vt5 rfl (by kernel_rfl) (by kernel_rfl) (by kernel_rfl) (fun _ _ _ h => h) (by rfl) (by assumption) ?hyt5 ?ht5
      case hyt5 => (intro w hSw; (try dsimp only at hSw); obtain ⟨s0, s1, s2, s3, s4, s5⟩ := hSw; (try go_simp); (try with_reducible rfl))
      try simp only [Act.put, List.setIfInBounds_toArray, List.set_cons_zero, List.set_cons_succ]
      refine take_pure 6 ?vt6 rfl (by kernel_rfl) (by kernel_rfl) (by kernel_rfl) (fun _ _ _ h => h) (by rfl) (by assumption) ?hyt6 ?ht6
      case hyt6 => (intro w hSw; (try dsimp only at hSw); obtain ⟨s0, s1, s2, s3, s4, s5⟩ := hSw; (try go_simp); (try with_reducible rfl))
      try simp only [Act.put, List.setIfInBounds_toArray, List.set_cons_zero, List.set_cons_succ]
      refine take_pure 7 ?vt7 rfl (by kernel_rfl) (by kernel_rfl) (by kernel_rfl) (fun _ _ _ h => h) (by rfl) (by assumption) ?hyt7 ?ht7
      case hyt7 => (intro w hSw; (try dsimp only at hSw); obtain ⟨s0, s1, s2, s3, s4, s5⟩ := hSw; (try go_simp); (try with_reducible rfl))
      try simp only [Act.put, List.setIfInBounds_toArray, List.set_cons_zero, List.set_cons_succ]
      refine take_pure 8 ?vt8 rfl (by kernel_rfl) (by kernel_rfl) (by kernel_rfl) (fun _ _ _ h => h) (by rfl) (by assumption) ?hyt8 ?ht8
      case hyt8 => (intro w hSw; (try dsimp only at hSw); obtain ⟨s0, s1, s2, s3, s4, s5⟩ := hSw; (try go_simp); (try with_reducible rfl))
      try simp only [Act.put, List.setIfInBounds_toArray, List.set_cons_zero, List.set_cons_succ]
      refine take_pure 9 ?vt9 rfl (by kernel_rfl) (by kernel_rfl) (by kernel_rfl) (fun _ _ _ h => h) (by rfl) (by assumption) ?hyt9 ?ht9
      case hyt9 => (intro w hSw; (try dsimp only at hSw); obtain ⟨s0, s1, s2, s3, s4, s5⟩ := hSw; (try go_simp); (try with_reducible rfl))
      try simp only [Act.put, List.setIfInBounds_toArray, List.set_cons_zero, List.set_cons_succ]
      refine take_pure 11 ?vt11 rfl (by kernel_rfl) (by kernel_rfl) (by kernel_rfl) (fun _ _ _ h => h) (by rfl) (by assumption) ?hyt11 ?ht11
      case hyt11 => (intro w hSw; (try dsimp only at hSw); obtain ⟨s0, s1, s2, s3, s4, s5⟩ := hSw; (try go_simp); (try with_reducible rfl))
      try simp only [Act.put, List.setIfInBounds_toArray, List.set_cons_zero, List.set_cons_succ]
      refine take_pure 12 ?vt12 rfl (by kernel_rfl) (by kernel_rfl) (by kernel_rfl) (fun _ _ _ h => h) (by rfl) (by assumption) ?hyt12 ?ht12
      case hyt12 => (intro w hSw; (try dsimp only at hSw); obtain ⟨s0, s1, s2, s3, s4, s5⟩ := hSw; (try go_simp); (try with_reducible rfl))
      try simp only [Act.put, List.setIfInBounds_toArray, List.set_cons_zero, List.set_cons_succ]
      refine take_pure 13 ?vt13 rfl (by kernel_rfl) (by kernel_rfl) (by kernel_rfl) (fun _ _ _ h => h) (by rfl) (by assumption) ?hyt13 ?ht13
      case hyt13 => (intro w hSw; (try dsimp only at hSw); obtain ⟨s0, s1, s2, s3, s4, s5⟩ := hSw; (try go_simp); (try with_reducible rfl))
      try simp only [Act.put, List.setIfInBounds_toArray, List.set_cons_zero, List.set_cons_succ]
      refine take_pure 14 ?vt14 rfl (by kernel_rfl) (by kernel_rfl) (by kernel_rfl) (fun _ _ _ h => h) (by rfl) (by assumption) ?hyt14 ?ht14
      case hyt14 => (intro w hSw; (try dsimp only at hSw); obtain ⟨s0, s1, s2, s3, s4, s5⟩ := hSw; (try go_simp); (try with_reducible rfl))
      try simp only [Act.put, List.setIfInBounds_toArray, List.set_cons_zero, List.set_cons_succ]
      refine take_one 10 rfl (by kernel_rfl) (fun K hK => ?_)
      go_simp
      go_at_call 81
      refine K1.mono ?_
      rintro _ w5 ⟨ob, os, rfl, hob, bo, lo, oo, g5⟩
      have G5 : Hid (Gr W3.drew w5) := g5
      have BO : Hid (Blk w5 ob (brow os) 4 ∧ os.length = N ∧ ∀ j, On os j ↔ On Bf j ∨ On Bf2 j) := ⟨bo, lo, oo⟩
      clear hob bo lo oo g5 hHeld
      have K3 := K2.out w5 G5.out
      refine hK.out _ _ ?_ (fun hHeld => ?_)
      · obtain ⟨d, d'⟩ := HB5.out w5 G5.out
        exact ⟨d.c 0, d.c 1, d.c 2, d'.c 0, d'.c 1, d'.c 2⟩
      clear hK K
      try simp only [Act.put, List.setIfInBounds_toArray, List.set_cons_zero, List.set_cons_succ]
      refine take_one 15 rfl (by kernel_rfl) (fun K hK => ?_)
      go_simp
      go_at_call 81
      refine K3.mono ?_
      rintro _ w6 ⟨ob2, os2, rfl, hob, bo, lo, oo, g6⟩
      have G6 : Hid (Gr W3.drew w6) := G5.out.trans g6
      have BO2 : Hid (Blk w6 ob2 (brow os2) 4 ∧ os2.length = N ∧ ∀ j, On os2 j ↔ On Bl j ∨ On Bl2 j) := ⟨bo, lo, oo⟩
      have BO1 : Hid (Blk w6 ob (brow os) 4) := BO.out.1.gr g6
      clear hob bo lo oo g6 hHeld K3
      refine hK.out _ _ ?_ (fun hHeld => ?_)
      · obtain ⟨d, d'⟩ := HB5.out w6 G6.out
        exact ⟨d.c 0, d.c 1, d.c 2, d'.c 0, d'.c 1, d'.c 2⟩
      clear hK K
      try simp only [Act.put, List.setIfInBounds_toArray, List.set_cons_zero, List.set_cons_succ]
      refine take_pure 16 ?vt16 rfl (by kernel_rfl) (by kernel_rfl) (by kernel_rfl) (fun _ _ _ h => h) (by rfl) (by assumption) ?hyt16 ?ht16
      case hyt16 => (intro w hSw; (try dsimp only at hSw); obtain ⟨s0, s1, s2, s3, s4, s5⟩ := hSw; (try go_simp); (try with_reducible rfl))
      try simp only [Act.put, List.setIfInBounds_toArray, List.set_cons_zero, List.set_cons_succ]
      refine wpAnyH_done (by kernel_rfl) ?_ _
      refine behind_step (fun K hK => ?_)
      obtain ⟨d, d'⟩ := HB5.out w6 G6.out
      have e0 := d.c 0
      have e1 := d.c 1
      have e2 := d.c 2
      have ef := d.frozen
      simp only [List.getElem?_toArray, List.getElem?_cons_zero, List.getElem?_cons_succ] at e0 e1 e2
      have HO6 : Hid (Blk w6 po #[.bool true, .slice (some ⟨gf, 0, none⟩) N N, .slice (some ⟨gl, 0, none⟩) N N] 98) := d
      clear d d' hHeld K1
      go_simp
      refine hK _ _ ?_
      clear hK K e0 e1 e2 ef
      have bw : Below W3.heap.size W3 w6 := ⟨G6.out.below.os, G6.out.below.tape, G6.out.below.output, G6.out.below.size, G6.out.below.block⟩
      have hlen : (sets ++ sets1).length = sets.length + onesL (ts.take i) := by rw [List.length_append, HL1.out]
      have et := take_succ_of HS.out
      have R6 := ((HR3.out.bel bw).withF (Fi2 := FirA (ts.take (i + 1)) sets.length) BO1.out BO.out.2.1 (fun j => by rw [BO.out.2.2, HR3.out.onf, HT3.out.2.2.1, et, FirA_snoc, hlen])).withL (La2 := LasA (ts.take (i + 1)) sets.length) BO2.out.1 BO2.out.2.1 (fun j => by rw [BO2.out.2.2, HR3.out.onl, HT3.out.2.2.2.2.2, et, LasA_snoc, hlen])
      have R7 := R6.told (S2 := setsL (ts.take (i + 1))) (F2 := FolA (ts.take (i + 1)) sets.length) (by rw [et, setsL_append, setsL_cons, setsL_nil, List.append_nil]) (fun i' j => by rw [et, FolA_snoc, hlen]) (fun _ => Iff.rfl) (fun _ => Iff.rfl)
      obtain ⟨R8, O8⟩ := R7.put HO6.out (by have := HPO.out; omega) true ⟨some ⟨ob, 0, none⟩, N, N⟩ ⟨some ⟨ob2, 0, none⟩, N, N⟩
      have npo : w.heap.size + 1 ≠ po := by have := HPO.out; omega
      have Q8 := (((HQ3.out.bel bw).other (p := ⟨po, 0, none⟩) npo (.bool true)).other (p := ⟨po, 1, none⟩) npo (.slice (some ⟨ob, 0, none⟩) N N)).other (p := ⟨po, 2, none⟩) npo (.slice (some ⟨ob2, 0, none⟩) N N)
      have HEE : Hid (empA (ts.take (i + 1)) = true) := by
        show _ = _
        rw [et, empA_append, empA_cons, empA_nil, Bool.or_false, ← HQ1.out, ← HQ2.out]
        simp
      have HTI : Hid (TI8 w b B N sv fv ss sets fs po (empA (ts.take (i + 1))) (setsL (ts.take (i + 1))) (FirA (ts.take (i + 1)) sets.length) (LasA (ts.take (i + 1)) sets.length) (FolA (ts.take (i + 1)) sets.length) sv2 (ss1 ++ ss2) rs2 (sets1 ++ sets2) fs2 ob ob2 os os2 _) := ⟨R8, by rw [HEE.out]; exact O8, Q8⟩
      clear bw hlen et R6 R7 R8 O8 npo Q8 HEE
      go_wp2_with fail
      go_roundw
      case rel => exact ⟨i + 1, _, _, _, _, _, _, _, _, _, by omega, by go_num, HTI⟩
      case measure => simp [intOf]; omega

end Go.Proofs.YtjjlkjfhhpogaaaDoor

namespace Go.Proofs.YtjjlkjfhhpogaaaDoor
open Go.RowKit

theorem of8_all (rn : RNK) (w0 : World) (N : Nat) (hN : N ≤ 200) : ∀ (m : Nat) (t : Tree), size t ≤ m → CPR w0 N t
  | 0, t, h => by have := size_pos t; omega
  | m + 1, .mk k set subs, h => by
    rw [size_mk] at h
    have hE : ∀ (i : Nat) s, subs[i]? = some s → CPR w0 N s := fun i s hs => of8_all rn w0 N hN m s (Nat.le_trans (size_le_of_at hs) (by omega))
    intro w b B sv fv ss rs sets fs x hX hB hw h0 hT hk hsz hg hl
    have hk2 := hk
    rw [kindsT_mk] at hk2
    simp only [Bool.and_eq_true] at hk2
    rcases okAlone_cases hk2.1 with ⟨rfl, _, _⟩ | ⟨rfl, _⟩ | ⟨rfl, _⟩ | ⟨rfl, _, h4⟩
    · exact of8_one rn w0 N hN set subs w b B sv fv ss rs sets fs x hX hB hw h0 hT hk hsz hg hl
    · exact of8_cat w0 N hN set subs hE w b B sv fv ss rs sets fs x hX hB hw h0 hT hk hsz hg hl
    · exact of8_alt w0 N hN set subs hE w b B sv fv ss rs sets fs x hX hB hw h0 hT hk hsz hg hl
    · obtain ⟨s, rfl⟩ := List.length_eq_one_iff.1 h4
      exact of8_star w0 N hN set s (hE 0 s rfl) w b B sv fv ss rs sets fs x hX hB hw h0 hT hk hsz hg hl

/-- The rows so far, all of them empty. -/
structure RP (w : World) (b B N : Nat) (fv : Sl) (rs : List Sl) (k : Nat) : Prop where
  blk : Blk w b #[.int .i64 N, .slice none 0 0, .slice fv.a fv.n fv.c] 95
  bb : B ≤ b
  fo : OwnX encSl 1 96 B w (.slice fv.a fv.n fv.c) rs
  rl : rs.length = k
  re : ∀ (i : Nat) r, rs[i]? = some r → ∃ g, r = slB g N ∧ Blk w g (brow (List.replicate N false)) 4

theorem RP.rs {w : World} {b B N : Nat} {fv : Sl} {rs : List Sl} (h : RP w b B N fv rs N) : RS w b B N ⟨none, 0, 0⟩ fv [] rs [] (List.replicate N (List.replicate N false)) := by
  refine ⟨h.blk, h.bb, OwnX.nil _ _ _ _ _, h.fo, rfl, h.rl, by simp, by simp, fun i r f hr hf => ?_⟩
  obtain ⟨g, e, hb⟩ := h.re i r hr
  rw [List.getElem?_replicate] at hf
  split at hf
  · injection hf with hf
    subst hf
    exact ⟨g, e, hb, by simp⟩
  · cases hf
theorem RP.bel {w w' : World} {b B N : Nat} {fv : Sl} {rs : List Sl} {k : Nat} (h : RP w b B N fv rs k) (g : Below w.heap.size w w') : RP w' b B N fv rs k :=
  ⟨h.blk.bel g, h.bb, h.fo.bel g, h.rl, fun i r hr => by obtain ⟨x, e, hb⟩ := h.re i r hr; exact ⟨x, e, hb.bel g⟩⟩

/-- One row more. -/
theorem RP.add {w w5 : World} {b B N k : Nat} {fv : Sl} {rs : List Sl} (h : RP w b B N fv rs k) {g cap ob : Nat} (hb : Blk w ob (brow (List.replicate N false)) 4)
    (o5 : OwnX encSl 1 96 B w5 (.slice (some ⟨g, 0, none⟩) (rs.length + 1) cap) (rs ++ [slB ob N])) (g5 : w.grownBy w5 (Sl.v fv).ownBlock) (hB : B ≤ w.heap.size) :
    RP (w5.setCell ⟨b, 2, none⟩ (.slice (some ⟨g, 0, none⟩) (rs.length + 1) cap)) b B N ⟨some ⟨g, 0, none⟩, rs.length + 1, cap⟩ (rs ++ [slB ob N]) (k + 1) ∧ Below B w (w5.setCell ⟨b, 2, none⟩ (.slice (some ⟨g, 0, none⟩) (rs.length + 1) cap)) := by
  have F5 : Fx (fun g => (Sl.v fv).ownBlock = some g) w w5 := (Fx.refl _ w).grown g5 fun g e _ => e
  have F6 : Fx (fun g => (Sl.v fv).ownBlock = some g ∨ g = b) w (w5.setCell ⟨b, 2, none⟩ (.slice (some ⟨g, 0, none⟩) (rs.length + 1) cap)) := (F5.mono (N := fun g => (Sl.v fv).ownBlock = some g ∨ g = b) fun g e => Or.inl e).setCell (p := ⟨b, 2, none⟩) (fun _ => Or.inr rfl) _
  have ne : ∀ g' cs t, Blk w g' cs t → t ≠ 96 → t ≠ 95 → ¬ ((Sl.v fv).ownBlock = some g' ∨ g' = b) := fun g' cs t hb h1 h2 e => by
    rcases e with e | rfl
    · obtain ⟨cs', hc⟩ := h.fo.blk e
      exact h1 (hc.same hb).2.symm
    · exact h2 (h.blk.same hb).2.symm
  have hb5 : Blk w5 b _ 95 := (F5.block b h.blk.lt fun e => by obtain ⟨cs', hc⟩ := h.fo.blk e; exact absurd (hc.same h.blk).2 (by decide)).trans h.blk
  refine ⟨⟨hb5.set 2 _, h.bb, ?_, by simp [h.rl], fun i r hr => ?_⟩, F6.below (fun g' e => ?_) hB⟩
  · have : (Sl.v ⟨some ⟨g, 0, none⟩, rs.length + 1, cap⟩).ownBlock ≠ some b := fun e => by
      obtain ⟨cs, hc⟩ := o5.blk e
      exact absurd (hc.same hb5).2 (by decide)
    exact o5.setOther this _
  · rcases get_snoc hr with ⟨_, hr⟩ | ⟨_, rfl⟩
    · obtain ⟨g', e1, e2⟩ := h.re i r hr
      exact ⟨g', e1, (F6.block g' e2.lt (ne _ _ _ e2 (by decide) (by decide))).trans e2⟩
    · exact ⟨ob, rfl, (F6.block ob hb.lt (ne _ _ _ hb (by decide) (by decide))).trans hb⟩
  · rcases e with e | rfl
    · exact (h.fo.lt e).1
    · exact h.bb

end Go.Proofs.YtjjlkjfhhpogaaaDoor
