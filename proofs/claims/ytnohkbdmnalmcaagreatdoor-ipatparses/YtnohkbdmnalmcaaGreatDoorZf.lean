/-
  What the document's Parse comes to, of its parts; between its steps.
-/
import Derived.Test.YtnohkbdmnalmcaaGreatDoorZc
import Derived.Test.YtnohkbdmnalmcaaGreatDoorZn
import Derived.Test.YtnohkbdmnalmcaaGreatDoorRg2
namespace Go.Proofs.YtnohkbdmnalmcaaGreatDoor
open Go.RowKit

theorem kept_all : keptM (stT allT) = (stT allT, false) := by unfold keptM; rw [if_pos right_stAll]
theorem tail_drop {s : ByteArray} {c : UInt8} {i : Nat} : tailIf (headIs c (s.data.toList.drop i)) (s.data.toList.drop i) = s.data.toList.drop (if headIs c (s.data.toList.drop i) = true then i + 1 else i) := by
  cases h : headIs c (s.data.toList.drop i) with
  | true => rw [if_pos rfl, (headIs_drop h).1]; rfl
  | false => rw [if_neg (by decide)]; rfl
theorem parse_fin {s : ByteArray} {i4 : Nat} {wr4 ou4 fu4 fr bk : Bool} {t4 : Tree} (hsz : s.size ≤ 2000) (hfr : headIs 94 s.data.toList = fr)
    (D : DoesQ true s false false false (altN (s.size + 1) (s.data.toList.drop (if fr = true then 1 else 0))) t4 i4 wr4 ou4 fu4) (hbk : headIs 36 (s.data.toList.drop i4) = bk) (hi4 : i4 ≤ s.size) {k : Int} (hk : doneK s (if bk = true then i4 + 1 else i4) wr4 ou4 (fu4 || (singleM 2 (wholeL fr bk t4)).2) = k) :
    (parseM s.data.toList).2 = k ∧ (k = 0 → (parseM s.data.toList).1 = (singleM 2 (wholeL fr bk t4)).1) ∧ (k ≠ 0 → (parseM s.data.toList).1 = zeT) := by
  have hlen : s.data.toList.length = s.size := by rw [Array.length_toList]; rfl
  have c : ¬ 2000 < s.size := by omega
  have e0 : parseM s.data.toList = match patM s.data.toList with | none => (zeT, 4) | some (t, o, f) => if o then (zeT, 5) else if f then (zeT, 6) else (t, 0) := by unfold parseM; rw [hlen, if_neg c]; rfl
  have e1 : tailIf (headIs 94 s.data.toList) s.data.toList = s.data.toList.drop (if fr = true then 1 else 0) := by
    have := tail_drop (s := s) (c := 94) (i := 0)
    rw [List.drop_zero, hfr] at this
    rw [hfr]
    exact this
  have e2 : patM s.data.toList = match altN (s.size + 1) (s.data.toList.drop (if fr = true then 1 else 0)) with
      | none => none
      | some x => if tailIf (headIs 36 x.r) x.r = [] then some ((wholeM fr (headIs 36 x.r) x.t).1, x.o, x.f || (wholeM fr (headIs 36 x.r) x.t).2) else none := by
    unfold patM
    rw [hlen, e1, hfr]
    rfl
  rw [single_whole] at hk ⊢
  rw [e0, e2]
  rcases D.2 rfl with ⟨h1, h2⟩ | ⟨x, h1, h2, h3, h4, h5, h6⟩
  · rw [h1]
    have hk4 : k = 4 := by
      rw [← hk]
      unfold doneK
      rw [if_pos]
      rcases h2 with h2 | ⟨_, h2⟩
      · rw [h2]; rfl
      · rw [headIs_other h2 (d := 36) (by decide)] at hbk
        subst hbk
        have := (headIs_drop h2).2
        simp [this]
    subst hk4
    exact ⟨rfl, (fun h => by cases h), fun _ => rfl⟩
  · rw [h1]
    have e3 : tailIf (headIs 36 x.r) x.r = s.data.toList.drop (if bk = true then i4 + 1 else i4) := by
      have := tail_drop (s := s) (c := 36) (i := i4)
      rw [h4, ← h4, hbk] at this
      rw [← h4, hbk]
      exact this
    simp only
    have e4 : headIs 36 x.r = bk := by rw [← h4]; exact hbk
    rw [e3, e4]
    generalize hi6 : (if bk = true then i4 + 1 else i4) = i6 at hk ⊢
    have h66 : i6 ≤ s.size := by
      rw [← hi6]
      cases bk with
      | true => rw [if_pos rfl]; exact (headIs_drop hbk).2
      | false => exact hi4
    by_cases hlt : i6 < s.size
    · have hne : s.data.toList.drop i6 ≠ [] := by
        intro e
        have := congrArg List.length e
        rw [drop_len] at this
        simp at this
        omega
      rw [if_neg hne]
      have hk4 : k = 4 := by
        rw [← hk]
        unfold doneK
        rw [if_pos (by simp [hlt])]
      subst hk4
      exact ⟨rfl, (fun h => by cases h), fun _ => rfl⟩
    · have he : s.data.toList.drop i6 = [] := List.drop_eq_nil_of_le (by rw [hlen]; omega)
      rw [if_pos he]
      simp only
      have hf : (fu4 || (wholeM fr bk t4).2) = (x.f || (wholeM fr bk x.t).2) := by
        simp only [Bool.false_or] at h6
        rw [h6]
        cases hx : x.f with
        | true => rfl
        | false => rw [h3 (by rw [h6, hx])]
      have ho : ou4 = x.o := by simpa using h5
      have hw : wr4 = false := h2
      rw [hf, ho, hw] at hk
      have hk2 : k = if x.o = true then 5 else if (x.f || (wholeM fr bk x.t).2) = true then 6 else 0 := by
        rw [← hk]
        unfold doneK
        rw [if_neg (by simp [hlt])]
      subst hk2
      cases hxo : x.o with
      | true => exact ⟨rfl, (fun h => by cases h), fun _ => rfl⟩
      | false =>
        cases hxf : (x.f || (wholeM fr bk x.t).2) with
        | true => exact ⟨rfl, (fun h => by cases h), fun _ => rfl⟩
        | false =>
          refine ⟨rfl, fun _ => ?_, fun h => absurd rfl h⟩
          have : fu4 = false := by
            rw [hxf] at hf
            exact (Bool.or_eq_false_iff.1 hf).1
          rw [h3 this]
          rfl

/-- Between the steps of Parse: nothing old has turned; the result's cells; the reader; the alt's pattern in block b6; the list. -/
structure PQ (s : ByteArray) (w : World) (b6 i : Nat) (wr ou fu : Bool) (t4 : Tree) (x : PC) (ts : List Tree) (bs : Sl) (rows : List PC) (W : World) : Prop where
  bel : Below w.heap.size w W
  res : Blk W w.heap.size (encT ⟨0, ⟨none, 0, 0⟩, ⟨none, 0, 0⟩⟩).toArray 26
  rd : BlkQ W (w.heap.size + 1) s i wr ou fu
  pb : Blk W b6 (encT x).toArray 26
  ph : HO (fun g => w.heap.size + 2 ≤ g ∧ g < b6) W t4 x
  hb6 : w.heap.size + 2 ≤ b6
  row : OwnT 0 W bs.v rows
  rowQ : ∀ g, bs.v.ownBlock = some g → b6 < g
  hos : HOs (fun g => w.heap.size + 2 ≤ g ∧ g < W.heap.size ∧ bs.v.ownBlock ≠ some g) W ts rows
  rt : ∀ t ∈ ts, rightT t = true
  len : ts.length ≤ 3
theorem PQ.go {s : ByteArray} {w : World} {b6 i i' : Nat} {wr ou fu wr' ou' fu' : Bool} {t4 : Tree} {x : PC} {ts : List Tree} {bs : Sl} {rows : List PC} {W W' : World} (h : PQ s w b6 i wr ou fu t4 x ts bs rows W) (g : Ex (w.heap.size + 1) W W') (hb : BlkQ W' (w.heap.size + 1) s i' wr' ou' fu') : PQ s w b6 i' wr' ou' fu' t4 x ts bs rows W' := by
  have h6 := h.hb6
  have h7 := h.pb.lt
  exact ⟨g.toBel h.bel (by omega), Blk.ex g h.res (by omega), hb, Blk.ex g h.pb (by omega), HO.same (fun _ h => h) (fun q hq => g.block q (by omega) (by omega)) h.ph, h6, h.row.same (fun q hq => g.block q (h.row.lt hq).2 (by have := h.rowQ q hq; omega)), h.rowQ, HOs.same (fun _ h1 => ⟨h1.1, Nat.lt_of_lt_of_le h1.2.1 g.size, h1.2.2⟩) (fun q h1 => g.block q h1.2.1 (by omega)) h.hos, h.rt, h.len⟩
theorem PQ.bel' {s : ByteArray} {w : World} {b6 i : Nat} {wr ou fu : Bool} {t4 : Tree} {x : PC} {ts : List Tree} {bs : Sl} {rows : List PC} {W W' : World} (h : PQ s w b6 i wr ou fu t4 x ts bs rows W) (g : Below W.heap.size W W') : PQ s w b6 i wr ou fu t4 x ts bs rows W' := h.go (.of_bel g) (h.rd.bel g)
/-- One part more behind the row. -/
theorem PQ.step {s : ByteArray} {w : World} {b6 i : Nat} {wr ou fu : Bool} {t4 : Tree} {x : PC} {ts : List Tree} {bs : Sl} {rows : List PC} {W W' : World} (h : PQ s w b6 i wr ou fu t4 x ts bs rows W) {P : Nat → Prop} {t : Tree} {r : PC} (hr : HO P W t r) (hP : ∀ q, P q → w.heap.size + 2 ≤ q ∧ q < W.heap.size ∧ bs.v.ownBlock ≠ some q) (hk : rightT t = true) (hlen : ts.length ≤ 2)
    {g n cap : Nat} (how : OwnT 0 W' (.slice (some ⟨g, 0, none⟩) n cap) (rows ++ [r])) (gr : W.grownBy W' bs.v.ownBlock) (hg : bs.v.ownBlock = some g ∨ g = W.heap.size) :
    PQ s w b6 i wr ou fu t4 x (ts ++ [t]) ⟨some ⟨g, 0, none⟩, n, cap⟩ (rows ++ [r]) W' := by
  have h6 := h.hb6
  have h7 := h.pb.lt
  have hk' : ∀ q, bs.v.ownBlock = some q → w.heap.size ≤ q := fun q hq => by have := h.rowQ q hq; omega
  have hgb : b6 < g := by
    rcases hg with hg | hg
    · exact h.rowQ g hg
    · omega
  have hnew : ∀ q, q < W.heap.size → bs.v.ownBlock ≠ some q → (Sl.v ⟨some ⟨g, 0, none⟩, n, cap⟩).ownBlock ≠ some q := fun q h1 h2 e => by
    injection e with e
    have e : g = q := e
    subst e
    rcases hg with hg | hg
    · exact h2 hg
    · omega
  have hheap : ∀ q, q < W.heap.size → bs.v.ownBlock ≠ some q → W'.heap[q]? = W.heap[q]? := fun q h1 h3 => gr.block q h1 (fun e => h3 e.symm)
  refine ⟨h.bel.grown gr h.bel.size hk', h.res.grown gr (fun e => by have := h.rowQ _ e; omega), h.rd.grown gr (fun e => by have := h.rowQ _ e; omega), h.pb.grown gr (fun e => by have := h.rowQ _ e; omega), HO.same (fun _ h => h) (fun q hq => hheap q (by omega) (fun e => by have := h.rowQ _ e; omega)) h.ph, h6, how, ?_, ?_, ?_, by simp; omega⟩
  · intro g1 hg1
    injection hg1 with hg1
    have hg1 : g = g1 := hg1
    subst hg1
    exact hgb
  · refine HOs.snoc (HOs.same ?_ ?_ h.hos) (HO.same ?_ ?_ hr)
    · intro q ⟨h1, h2, h4⟩
      exact ⟨h1, Nat.lt_of_lt_of_le h2 gr.size, hnew q h2 h4⟩
    · intro q ⟨h1, h2, h4⟩
      exact hheap q h2 h4
    · intro q hq
      obtain ⟨h1, h2, h3⟩ := hP q hq
      exact ⟨h1, Nat.lt_of_lt_of_le h2 gr.size, hnew q h2 h3⟩
    · intro q hq
      obtain ⟨h1, h2, h3⟩ := hP q hq
      exact hheap q h2 h3
  · intro u hu
    rcases List.mem_append.1 hu with hu | hu
    · exact h.rt u hu
    · simp at hu; subst hu; exact hk
theorem PQ.ho {s : ByteArray} {w : World} {b6 i : Nat} {wr ou fu : Bool} {t4 : Tree} {x : PC} {ts : List Tree} {bs : Sl} {rows : List PC} {W : World} (h : PQ s w b6 i wr ou fu t4 x ts bs rows W) : HO (fun g => w.heap.size + 2 ≤ g ∧ g < W.heap.size) W (.mk 2 [] ts) ⟨2, ⟨none, 0, 0⟩, bs⟩ :=
  (HO_mk _ _ _ _ _ _).2 ⟨rfl, ⟨OwnX.nil _ _ _ _ _, fun g hg => by cases hg⟩, rows, ⟨h.row, fun g hg => ⟨by have := h.rowQ g hg; have := h.hb6; omega, (h.row.lt hg).2⟩⟩, HOs.same (fun _ h1 => ⟨h1.1, h1.2.1⟩) (fun _ _ => rfl) h.hos⟩
theorem PQ.rlen {s : ByteArray} {w : World} {b6 i : Nat} {wr ou fu : Bool} {t4 : Tree} {x : PC} {ts : List Tree} {bs : Sl} {rows : List PC} {W : World} (h : PQ s w b6 i wr ou fu t4 x ts bs rows W) : rows.length ≤ 3 := by rw [h.hos.len]; exact h.len

end Go.Proofs.YtnohkbdmnalmcaaGreatDoor
