/-
  Rows of numbers, and of bools, that a call owns.
  The walk of the document's own 'with': a rising list with one more, if it isn't there.
  The walk of the document's own 'begins': where spans begin, or what is behind one begins: rising, each once.
  Plain mathematics: the invariants of Not and of Meet; what begins and the pieces say.
  Plain mathematics of pieces: numbers from one beginning to ahead of the next one.
  The walks of the document's own 'end' and 'from'.
  The walks of the document's own 'Set' and 'Norm'.
-/
import Derived.Test.YtjjlkjfhhpogaaaDoorS1Norm
import Derived.Test.YtjjlkjfhhpogaaaDoorS1Math
namespace Go.Proofs.YtjjlkjfhhpogaaaDoorS1
open Go.RowKit

/-- The call owns this row of numbers. -/
def Own1 (base : Nat) (w : World) (v : Value) (l : List Int) : Prop := w.ownsRow base 43 1 v l.length (l.map (Value.int .u32))

theorem Own1.alloc {base : Nat} {w : World} {v : Value} {l : List Int} (h : Own1 base w v l) (o : Obj) : Own1 base (w.alloc o) v l := World.ownsRow.alloc h o
theorem Own1.drewN {base : Nat} {w : World} {v : Value} {l : List Int} (h : Own1 base w v l) (n : Nat) : Own1 base (w.drewN n) v l := h

theorem Own1.form {base : Nat} {w : World} {v : Value} {l : List Int} (h : Own1 base w v l) : ∃ ao cap, v = .slice ao l.length cap := by
  rcases h.2 with ⟨rfl, h0⟩ | ⟨g, cap, cur, rfl, _⟩
  · exact ⟨none, 0, by rw [h0]⟩
  · exact ⟨_, _, rfl⟩

theorem Own1.shape {base : Nat} {w : World} {v : Value} {l : List Int} (h : Own1 base w v l) (hne : l ≠ []) :
    ∃ g cap, v = .slice (some ⟨g, 0, none⟩) l.length cap ∧ base ≤ g ∧ g < w.heap.size ∧ l.length ≤ cap ∧
      (∀ o, w.frozen? ⟨g, o, none⟩ = false) ∧ ∀ (i : Nat) x, l[i]? = some x → w.cell? ⟨g, i, none⟩ = some (.int .u32 x) := by
  have hc := fun g => World.ownsRow.cells h (g := g)
  rcases h.2 with ⟨rfl, h0⟩ | ⟨g, cap, cur, rfl, hb, hg, hn, hm, hs, ht⟩
  · exact absurd (List.length_eq_zero_iff.1 h0) hne
  · refine ⟨g, cap, rfl, hb, (Array.getElem?_eq_some_iff.1 hg).1, hn, fun o => ?_, fun i x hx => ?_⟩
    · simp [World.frozen?, hg]
    · have a1 := hc g rfl i (.int .u32 x) (by simp [hx])
      have hadd : (⟨g, 0, none⟩ : Addr).add i = ⟨g, i, none⟩ := by unfold Addr.add; split <;> simp_all
      rw [hadd] at a1
      exact a1

theorem Own1.set {base : Nat} {w : World} {g n cap : Nat} {l : List Int} (h : Own1 base w (.slice (some ⟨g, 0, none⟩) n cap) l) (j : Nat) (z : Int) :
    Own1 base (w.setCell ⟨g, j, none⟩ (.int .u32 z)) (.slice (some ⟨g, 0, none⟩) n cap) (l.set j z) := by
  have hn : n = l.length := by
    rcases h.2 with ⟨hv, _⟩ | ⟨g', cap', cur, hv, _⟩
    · simp at hv
    · simp at hv; omega
  subst hn
  have := owns_set (n := l.length) h j (.int .u32 z)
  rw [← List.map_set] at this
  simpa [Own1] using this

theorem info43 : (Tryd.prog.info? 43).map (fun i => (i.zero, i.size, i.bytes)) = some (some (.int .u32 0), 1, 4) := by kernel_rfl

/-- 'append' of one number to a row of the call's own. -/
theorem wp_app1 {w : World} {ops : Array Oper} {rest : List Oper} {o : Oper} {a : Act} {Q : Exit → Act → World → Prop} (hgd : o.guard = none) (s x : Operand)
    (ho : o.op = .call { callee := .builtin .append, args := #[s, x], argTypes := #[26, 26] })
    (base : Nat) (v : Value) (l : List Int) (hs : a.eval s = v) (hown : Own1 base w v l) (y : Int)
    (blk : Nat) (hx : a.eval x = .slice (some ⟨blk, 0, none⟩) 1 1) (h0 : w.cell? ⟨blk, 0, none⟩ = some (.int .u32 y))
    (hl : l.length ≤ 1000000) (hbase : base ≤ w.heap.size)
    (h : ∀ g cap w', Own1 base w' (.slice (some ⟨g, 0, none⟩) (l.length + 1) cap) (l ++ [y]) → Below base w w' → base ≤ g → g < w'.heap.size → (v.ownBlock = some g ∨ g = w.heap.size) → (∀ b, b < w.heap.size → v.ownBlock ≠ some b → w'.heap[b]? = w.heap[b]?) → wpList Tryd.prog ops Q rest (a.put o.dst (.slice (some ⟨g, 0, none⟩) (l.length + 1) cap)) w') : wpList Tryd.prog ops Q (o :: rest) a w := by
  obtain ⟨i, hi, hz, hz1, hz2⟩ := info_parts info43
  refine wpList_append_lies w hgd s x 26 ho base 43 i _ 1 4 Tryd.underlying26 hi hz hz1 hz2 rfl (by decide) v l.length (l.map (Value.int .u32)) hs hown ⟨blk, 0, none⟩ 1 1 [.int .u32 y] hx rfl ?_ ?_ (by decide) (by unfold maxLen; omega) (by omega) hbase w.heap.size rfl ?_
  · intro j u hu
    have hadd : (⟨blk, 0, none⟩ : Addr).add j = ⟨blk, j, none⟩ := by unfold Addr.add; split <;> simp_all
    rw [hadd]
    match j with
    | 0 => simp at hu; subst hu; exact h0
    | j + 1 => simp at hu
  · intro u hu
    simp at hu
    subst hu
    rfl
  · intro g cap w' how hgr hg hlt
    refine h g cap w' ?_ ?_ ?_ hlt hg ?_
    · show w'.ownsRow base 43 1 _ (l ++ [y]).length ((l ++ [y]).map (Value.int .u32))
      rw [List.map_append, List.length_append]
      exact how
    · exact (Below.refl base w).grown hgr hbase (fun k hk => (hown.lt k hk).1)
    · rcases hg with hg | hg
      · exact (hown.lt g hg).1
      · omega
    · intro b hb hne
      exact hgr.block b hb (fun e => hne e.symm)

theorem Own1.notAt {base : Nat} {w : World} {v : Value} {l : List Int} (h : Own1 base w v l) {b : Nat} (hb : w.heap.size ≤ b) : v.ownBlock ≠ some b := by
  intro e
  have := (World.ownsRow.lt h b e).2
  omega

theorem Row1.of_owns {w : World} {base : Nat} {v : Value} {l : List Int} (h : Own1 base w v l) : Row1 w v l := by
  by_cases e : l = []
  · subst e
    obtain ⟨ao, cap, rfl⟩ := h.form
    exact ⟨_, _, rfl, fun h => absurd rfl h⟩
  · obtain ⟨g, cap, rfl, _, hg, _, _, hc⟩ := h.shape e
    exact ⟨_, _, rfl, fun _ => ⟨g, 0, rfl, hg, fun i x hx => by rw [Nat.zero_add]; exact hc i x hx⟩⟩

/-- The call owns this row of bools. -/
def OwnB (base : Nat) (w : World) (v : Value) (l : List Bool) : Prop := w.ownsRow base 4 1 v l.length (l.map Value.bool)

theorem OwnB.alloc {base : Nat} {w : World} {v : Value} {l : List Bool} (h : OwnB base w v l) (o : Obj) : OwnB base (w.alloc o) v l := World.ownsRow.alloc h o
theorem OwnB.nil (base : Nat) (w : World) : OwnB base w (.slice none 0 0) [] := World.ownsRow_nil w base 4 1

theorem info4 : (Tryd.prog.info? 4).map (fun i => (i.zero, i.size, i.bytes)) = some (some (.bool false), 1, 1) := by kernel_rfl

/-- 'append' of one bool to a row of the call's own. -/
theorem wp_appB {w : World} {ops : Array Oper} {rest : List Oper} {o : Oper} {a : Act} {Q : Exit → Act → World → Prop} (hgd : o.guard = none) (s x : Operand)
    (ho : o.op = .call { callee := .builtin .append, args := #[s, x], argTypes := #[96, 96] })
    (base : Nat) (v : Value) (l : List Bool) (hs : a.eval s = v) (hown : OwnB base w v l) (y : Bool)
    (blk : Nat) (hx : a.eval x = .slice (some ⟨blk, 0, none⟩) 1 1) (h0 : w.cell? ⟨blk, 0, none⟩ = some (.bool y))
    (hl : l.length ≤ 1000000) (hbase : base ≤ w.heap.size)
    (h : ∀ g cap w', OwnB base w' (.slice (some ⟨g, 0, none⟩) (l.length + 1) cap) (l ++ [y]) → Below base w w' → wpList Tryd.prog ops Q rest (a.put o.dst (.slice (some ⟨g, 0, none⟩) (l.length + 1) cap)) w') : wpList Tryd.prog ops Q (o :: rest) a w := by
  obtain ⟨i, hi, hz, hz1, hz2⟩ := info_parts info4
  refine wpList_append_lies w hgd s x 96 ho base 4 i _ 1 1 Tryd.underlying96 hi hz hz1 hz2 rfl (by decide) v l.length (l.map Value.bool) hs hown ⟨blk, 0, none⟩ 1 1 [.bool y] hx rfl ?_ ?_ (by decide) (by unfold maxLen; omega) (by omega) hbase w.heap.size rfl ?_
  · intro j u hu
    have hadd : (⟨blk, 0, none⟩ : Addr).add j = ⟨blk, j, none⟩ := by unfold Addr.add; split <;> simp_all
    rw [hadd]
    match j with
    | 0 => simp at hu; subst hu; exact h0
    | j + 1 => simp at hu
  · intro u hu
    simp at hu
    subst hu
    rfl
  · intro g cap w' how hgr hg hlt
    refine h g cap w' ?_ ?_
    · show w'.ownsRow base 4 1 _ (l ++ [y]).length ((l ++ [y]).map Value.bool)
      rw [List.map_append, List.length_append]
      exact how
    · exact (Below.refl base w).grown hgr hbase (fun k hk => (hown.lt k hk).1)

theorem RowB.of_owns {w : World} {base : Nat} {v : Value} {l : List Bool} (h : OwnB base w v l) : RowB w v l := by
  have hc := fun g => World.ownsRow.cells h (g := g)
  rcases h.2 with ⟨rfl, h0⟩ | ⟨g, cap, cur, rfl, hb, hg, hn, hm, hs, ht⟩
  · have : l = [] := List.length_eq_zero_iff.1 h0
    subst this
    exact ⟨_, _, rfl, fun h => absurd rfl h⟩
  · refine ⟨_, cap, rfl, fun _ => ⟨g, 0, rfl, (Array.getElem?_eq_some_iff.1 hg).1, fun i x hx => ?_⟩⟩
    have a1 := hc g rfl i (.bool x) (by simp [hx])
    have hadd : (⟨g, 0, none⟩ : Addr).add i = ⟨g, 0 + i, none⟩ := by unfold Addr.add; split <;> simp_all
    rw [hadd] at a1
    exact a1

end Go.Proofs.YtjjlkjfhhpogaaaDoorS1

namespace Go.Proofs.YtjjlkjfhhpogaaaDoorS1
open Go.RowKit

/-- Rising, each once. -/
def Rising (l : List Int) : Prop := l.Pairwise (· < ·)

theorem rising_insert {l : List Int} {k : Nat} {n : Int} (h : Rising l) (hk : k ≤ l.length) (h1 : ∀ i x, i < k → l[i]? = some x → x < n) (h2 : ∀ x, l[k]? = some x → n < x) : Rising (l.take k ++ n :: l.drop k) := by
  have hs : ∀ (i j : Nat) (x y : Int), i < j → l[i]? = some x → l[j]? = some y → x < y := fun i j x y hij hx hy => by
    obtain ⟨hi, rfl⟩ := List.getElem?_eq_some_iff.1 hx
    obtain ⟨hj, rfl⟩ := List.getElem?_eq_some_iff.1 hy
    exact List.pairwise_iff_getElem.1 h i j hi hj hij
  have hlo : ∀ x ∈ l.take k, x < n := fun x hx => by
    obtain ⟨i, hi⟩ := List.mem_iff_getElem?.1 hx
    rw [List.getElem?_take] at hi
    split at hi
    · exact h1 i x (by omega) hi
    · cases hi
  have hhi : ∀ x ∈ l.drop k, n < x := fun x hx => by
    obtain ⟨i, hi⟩ := List.mem_iff_getElem?.1 hx
    rw [List.getElem?_drop] at hi
    have hlt : k < l.length := by have := (List.getElem?_eq_some_iff.1 hi).1; omega
    have h0 := h2 _ (List.getElem?_eq_getElem hlt)
    by_cases e : i = 0
    · subst e
      have := h2 x (by simpa using hi)
      exact this
    · have := hs k (k + i) _ x (by omega) (List.getElem?_eq_getElem hlt) hi
      omega
  refine List.pairwise_append.2 ⟨h.sublist (List.take_sublist k l), List.pairwise_cons.2 ⟨hhi, h.sublist (List.drop_sublist k l)⟩, fun x hx y hy => ?_⟩
  rcases List.mem_cons.1 hy with rfl | hy
  · exact hlo x hx
  · have := hlo x hx; have := hhi y hy; omega

theorem mem_insert {l : List Int} {k : Nat} {n x : Int} : x ∈ l.take k ++ n :: l.drop k ↔ x ∈ l ∨ x = n := by
  have e : x ∈ l ↔ x ∈ l.take k ∨ x ∈ l.drop k := by
    conv => lhs; rw [← List.take_append_drop k l]
    exact List.mem_append
  rw [List.mem_append, List.mem_cons, e]
  constructor
  · rintro (h | h | h)
    · exact Or.inl (Or.inl h)
    · exact Or.inr h
    · exact Or.inl (Or.inr h)
  · rintro ((h | h) | h)
    · exact Or.inl h
    · exact Or.inr (Or.inr h)
    · exact Or.inr (Or.inl h)

/-- What stands in the row while it is moved. -/
def mid (l : List Int) (i : Nat) (x : Int) : List Int := l.take i ++ x :: l.drop i

theorem mid_length (l : List Int) (i : Nat) (x : Int) (h : i ≤ l.length) : (mid l i x).length = l.length + 1 := by
  simp [mid]; omega
theorem mid_before {l : List Int} {i : Nat} {x y : Int} (hi : i + 1 ≤ l.length) (hy : l[i]? = some y) : (mid l (i + 1) x)[i]? = some y := by
  unfold mid
  rw [List.getElem?_append_left (by simp; omega), List.getElem?_take, if_pos (by omega)]
  exact hy
theorem mid_at {l : List Int} {i : Nat} {x : Int} (h : i ≤ l.length) : (mid l i x)[i]? = some x := by
  unfold mid
  rw [List.getElem?_append_right (by simp; omega)]
  have : i - (l.take i).length = 0 := by simp; omega
  rw [this]
  rfl
theorem mid_set {l : List Int} {i : Nat} {x : Int} (z : Int) (h : i ≤ l.length) : (mid l i x).set i z = mid l i z := by
  unfold mid
  rw [List.set_append_right _ _ (by simp; omega)]
  have : i - (l.take i).length = 0 := by simp; omega
  rw [this]
  rfl
theorem mid_down {l : List Int} {i : Nat} {y : Int} (hy : l[i]? = some y) : mid l (i + 1) y = mid l i y := by
  have hd : l.drop i = y :: l.drop (i + 1) := by
    obtain ⟨hi, rfl⟩ := List.getElem?_eq_some_iff.1 hy
    exact List.drop_eq_getElem_cons hi
  unfold mid
  rw [take_succ_of hy, hd]
  simp

/-- What 'with' answers. -/
def Withed (l : List Int) (n : Int) (m : List Int) : Prop := Rising m ∧ (∀ x, x ∈ m ↔ x ∈ l ∨ x = n) ∧ m.length ≤ l.length + 1

set_option maxHeartbeats 1000000 in
theorem with_any (base : Nat) (v : Value) (l : List Int) (n : Int) (w : World) (hl : l.length ≤ 100000) (hne : l ≠ []) (hr : Rising l) (hown : Own1 base w v l) (hbase : base ≤ w.heap.size) :
    Calls Tryd.prog 116 #[v, .int .u32 n] w fun e w' => ∃ u m, e = .returned u ∧ Withed l n m ∧ Own1 base w' u m ∧ Below base w w' ∧ (∀ b, b < w.heap.size → v.ownBlock ≠ some b → w'.heap[b]? = w.heap[b]?) := by
  obtain ⟨g, cap, rfl, hg1, hg2, hcap, hfr, hcl⟩ := hown.shape hne
  go_enter Tryd.func116, Tryd.ntmps116
  go_wp2_with fail
  have HC : Hid (∀ (i : Nat) x, l[i]? = some x → w.cell? ⟨g, i, none⟩ = some (.int .u32 x)) := hcl
  have HR : Hid (Rising l) := hr
  clear hcl hfr hr
  go_loop [5] (fun at_ => ∃ k : Nat, k ≤ l.length ∧ at_ = .int .i64 k ∧ (∀ i x, i < k → l[i]? = some x → x < n)) (fun i => l.length - (intOf i).toNat)
  case atStart => exact ⟨0, Nat.zero_le _, rfl, fun i x hi => by omega⟩
  case round =>
    obtain ⟨k, hk, rfl, hlow⟩ := hrel
    have HL : Hid (∀ i x, i < k → l[i]? = some x → x < n) := hlow
    clear hlow
    have hcases : (∃ x, l[k]? = some x ∧ x < n) ∨ (∃ x, l[k]? = some x ∧ x = n) ∨ (∃ x, k < l.length ∧ l[k]? = some x ∧ n < x) ∨ k = l.length := by
      by_cases hlt : k < l.length
      · have hx := List.getElem?_eq_getElem hlt
        rcases Int.lt_trichotomy l[k] n with h | h | h
        · exact Or.inl ⟨_, hx, h⟩
        · exact Or.inr (Or.inl ⟨_, hx, h⟩)
        · exact Or.inr (Or.inr (Or.inl ⟨_, hlt, hx, h⟩))
      · exact Or.inr (Or.inr (Or.inr (by omega)))
    rcases hcases with ⟨x, hx, hxn⟩ | ⟨x, hx, rfl⟩ | hrest
    · have hlt : k < l.length := (List.getElem?_eq_some_iff.1 hx).1
      have c1 := HC.out k x hx
      have HX : Hid (l[k]? = some x) := hx
      clear hx
      go_wp2_with fail
      go_round
      case rel => exact ⟨k + 1, by omega, by go_num, fun i y hi hy => by
          by_cases e : i = k
          · subst e; rw [HX.out] at hy; injection hy with hy; omega
          · exact HL.out i y (by omega) hy⟩
      case measure => simp [intOf]; omega
    · have hlt : k < l.length := (List.getElem?_eq_some_iff.1 hx).1
      have c1 := HC.out k x hx
      have HX : Hid (l[k]? = some x) := hx
      clear hx
      have e1 : (x == x) = true := by simp
      go_wp2_with fail
      go_ret
      exact ⟨_, rfl, l, ⟨HR.out, fun y => ⟨Or.inl, fun h => h.elim id (fun e => e ▸ List.mem_of_getElem? HX.out)⟩, by omega⟩, hown, Below.refl _ _, fun _ _ _ => rfl⟩
    · have HK : Hid (∀ x, l[k]? = some x → n < x) := by
        intro y hy
        rcases hrest with ⟨x, _, hx, h⟩ | h
        · rw [hx] at hy; injection hy with hy; omega
        · have := (List.getElem?_eq_some_iff.1 hy).1; omega
      rcases hrest with ⟨x, hlt, hx, hxn⟩ | hlt
      case' inl =>
        have c1 := HC.out k x hx
        have e1 : (x == n) = false := by simp; omega
        clear hx
      case' inr =>
        have hlt2 : ¬ k < l.length := by omega
        clear hlt
      all_goals
        go_wp2_with (at_builtin; refine wp_app1 rfl _ _ rfl base _ l rfl (hown.alloc _) 0 w.heap.size rfl (by simp [go_sem]) (by omega) (by simp; omega) ?_; intro g3 cap3 w3 how3 hB3 hg31 hg32 hgg hoth)
        have B3 := ((Below.refl base w).alloc hbase _).trans hB3
        have HO : Hid (∀ b, b < w.heap.size → (Value.slice (some ⟨g, 0, none⟩) l.length cap).ownBlock ≠ some b → w3.heap[b]? = w.heap[b]?) := fun b hb hne =>
          (hoth b (by simp; omega) hne).trans (Below.heap_alloc w _ b hb)
        have HG : Hid (∀ b, b < w.heap.size → (Value.slice (some ⟨g, 0, none⟩) l.length cap).ownBlock ≠ some b → b ≠ g3) := fun b hb hne e => by
          subst e
          rcases hgg with h | h
          · exact hne h
          · simp at h; omega
        clear hoth hgg
        have HS : Hid (mid l l.length 0 = l ++ [0]) := by simp [Hid, mid]
        clear hown hB3 hg1 hg2
        go_loopw [6] (fun i wr => ∃ (j : Nat) (x : Int), k ≤ j ∧ j ≤ l.length ∧ i = .int .i64 j ∧ Own1 base wr (.slice (some ⟨g3, 0, none⟩) (l.length + 1) cap3) (mid l j x) ∧ Below base w wr ∧ Hid (∀ b, b < w.heap.size → (Value.slice (some ⟨g, 0, none⟩) l.length cap).ownBlock ≠ some b → wr.heap[b]? = w.heap[b]?)) (fun i _ => (intOf i).toNat)
        case atStart => exact ⟨l.length, 0, by omega, Nat.le_refl _, rfl, by rw [HS.out]; exact how3, B3, HO⟩
        case round =>
          obtain ⟨j, x', hkj, hjl, rfl, hownj, hBj, HOj⟩ := hrel
          obtain ⟨g4, cap4, hv4, hg41, hg42, hcap4, hfr4, hcl4⟩ := hownj.shape (by simp [mid])
          rw [mid_length l j x' hjl] at hv4
          simp at hv4
          obtain ⟨rfl, rfl⟩ := hv4
          have hfz := hfr4 j
          have cj := hcl4 j x' (mid_at hjl)
          by_cases hjk : k < j
          · obtain ⟨j, rfl⟩ : ∃ j', j = j' + 1 := ⟨j - 1, by omega⟩
            obtain ⟨y, hy⟩ : ∃ y, l[j]? = some y := ⟨_, List.getElem?_eq_getElem (by omega)⟩
            have c4 := hcl4 j y (mid_before hjl hy)
            have hnew := (hownj.set (j + 1) y)
            rw [mid_set y hjl, mid_down hy] at hnew
            clear hy hcl4 hfr4 HS
            have hBn := hBj.setCell (p := ⟨g3, j + 1, none⟩) hg41 (.int .u32 y)
            have HOn : Hid (∀ b, b < w.heap.size → (Value.slice (some ⟨g, 0, none⟩) l.length cap).ownBlock ≠ some b → (wr.setCell ⟨g3, j + 1, none⟩ (.int .u32 y)).heap[b]? = w.heap[b]?) := fun b hb hne => (Below.heap_setCell _ _ _ _ (HG.out b hb hne)).trans (HOj.out b hb hne)
            go_wp2_with fail
            all_goals exact ⟨⟨j, y, by omega, by omega, by go_num, hnew, hBn, HOn⟩, by simp [intOf]⟩
          · have hjk2 : j = k := by omega
            subst hjk2
            have hnew := (hownj.set j n)
            rw [mid_set n hjl] at hnew
            have HW : Hid (Withed l n (mid l j n)) := ⟨rising_insert HR.out hjl HL.out HK.out, fun _ => mem_insert, by rw [mid_length l j n hjl]; omega⟩
            clear hcl4 hfr4 HS
            go_wp2_with fail
            go_ret
            first
            | exact ⟨_, rfl, mid l j n, HW.out, hnew, hBj.setCell (p := ⟨g3, j, none⟩) hg41 _, fun b hb hne => (Below.heap_setCell _ _ _ _ (HG.out b hb hne)).trans (HOj.out b hb hne)⟩
            | exact ⟨_, mid l j n, rfl, HW.out, hnew, hBj.setCell (p := ⟨g3, j, none⟩) hg41 _, fun b hb hne => (Below.heap_setCell _ _ _ _ (HG.out b hb hne)).trans (HOj.out b hb hne)⟩
end Go.Proofs.YtjjlkjfhhpogaaaDoorS1

namespace Go.Proofs.YtjjlkjfhhpogaaaDoorS1
open Go.RowKit

/-- A list of places where pieces begin: rising, from 0, none beyond the last number. -/
structure Beg (b : List Int) : Prop where
  rising : Rising b
  zero : 0 ∈ b
  rng : ∀ x ∈ b, 0 ≤ x ∧ x ≤ 4294967295

/-- The edges of a span that isn't empty are there. -/
def Edges (b : List Int) (s : Sp) : Prop := s.1 ≤ s.2 → s.1 ∈ b ∧ (s.2 < 4294967295 → s.2 + 1 ∈ b)

theorem Edges.mono {b c : List Int} {s : Sp} (h : Edges b s) (hs : ∀ x ∈ b, x ∈ c) : Edges c s := fun he =>
  ⟨hs _ (h he).1, fun hl => hs _ ((h he).2 hl)⟩

theorem Beg.start : Beg [0] := ⟨by simp [Rising], by simp, by simp⟩

theorem Beg.with {b m : List Int} {n : Int} (h : Beg b) (hm : Withed b n m) (h0 : 0 ≤ n) (h1 : n ≤ 4294967295) : Beg m :=
  ⟨hm.1, (hm.2.1 0).2 (Or.inl h.zero), fun x hx => by
    rcases (hm.2.1 x).1 hx with c | rfl
    · exact h.rng x c
    · exact ⟨h0, h1⟩⟩

theorem Beg.ne {b : List Int} (h : Beg b) : b ≠ [] := fun e => by have := h.zero; rw [e] at this; simp at this

/-- How many spans the first k lists have. -/
def cnt (L : List (List Sp)) (k : Nat) : Nat := ((L.take k).map List.length).sum

theorem cnt_succ {L : List (List Sp)} {k : Nat} {s : List Sp} (h : L[k]? = some s) : cnt L (k + 1) = cnt L k + s.length := by
  unfold cnt
  rw [take_succ_of h]
  simp

theorem cnt_le {L : List (List Sp)} : ∀ {k j : Nat}, k ≤ j → cnt L k ≤ cnt L j := by
  intro k j h
  induction h with
  | refl => exact Nat.le_refl _
  | step h ih =>
    rename_i m
    by_cases e : m < L.length
    · rw [Nat.succ_eq_add_one, cnt_succ (List.getElem?_eq_getElem e)]; omega
    · have : cnt L m = cnt L (m + 1) := by
        unfold cnt
        rw [List.take_of_length_le (by omega), List.take_of_length_le (by omega)]
      rw [Nat.succ_eq_add_one, ← this]; exact ih

theorem Own1.one (w : World) (x : Int) : Own1 w.heap.size (w.alloc (.cells #[.int .u32 x] 43)) (.slice (some ⟨w.heap.size, 0, none⟩) 1 1) [x] :=
  ⟨rfl, .inr ⟨w.heap.size, 1, #[.int .u32 x], rfl, Nat.le_refl _, heap_alloc_new w _, Nat.le_refl _, by decide, rfl, rfl⟩⟩

set_option maxHeartbeats 2000000 in
theorem begins_any (v : Value) (L : List (List Sp)) (w : World) (hL : L.length ≤ 100000) (hcnt : cnt L L.length ≤ 10000) (hgood : ∀ l ∈ L, Good l) (hv : RowS w v L) :
    Calls Tryd.prog 103 #[v] w fun e w' => ∃ u b, e = .returned u ∧ Beg b ∧ (∀ l ∈ L, ∀ s ∈ l, Edges b s) ∧ b.length ≤ 1 + 2 * cnt L L.length ∧ Row1 w' u b ∧ Below w.heap.size w w' := by
  obtain ⟨ao, cap, rfl, hc⟩ := hv
  have HG : Hid (∀ l ∈ L, Good l) := hgood
  clear hgood
  go_enter Tryd.func103, Tryd.ntmps103
  go_wp2_with fail
  go_loopw [3, 11] (fun out i wr => ∃ (k : Nat) (b : List Int), k ≤ L.length ∧ i = .int .i64 k ∧ Own1 w.heap.size wr out b ∧ Beg b ∧ (∀ i l, i < k → L[i]? = some l → ∀ s ∈ l, Edges b s) ∧ b.length ≤ 1 + 2 * cnt L k ∧ Below w.heap.size w wr) (fun _ i _ => L.length - (intOf i).toNat)
  case atStart => exact ⟨0, [0], Nat.zero_le _, rfl, Own1.one w 0, Beg.start, fun i l hi => by omega, by simp [cnt], (Below.refl _ _).alloc (Nat.le_refl _) _⟩
  case round =>
    obtain ⟨k, b, hk, rfl, hown, hbeg, hedge, hblen, hB⟩ := hrel
    have HE : Hid (∀ i l, i < k → L[i]? = some l → ∀ s ∈ l, Edges b s) := hedge
    clear hedge
    have hB' := hB.size
    by_cases hlt : k < L.length
    · obtain ⟨ba, offa, rfl, hba, hcella⟩ := hc (ne_nil_of_lt hlt)
      obtain ⟨l, hl⟩ : ∃ l, L[k]? = some l := ⟨_, List.getElem?_eq_getElem hlt⟩
      obtain ⟨q, hq, hrow⟩ := hcella k l hl
      obtain ⟨ao2, cap2, rfl, hc2, _⟩ := hrow
      have hgl := HG.out l (List.mem_of_getElem? hl)
      have HL : Hid (L[k]? = some l) := hl
      have hq' : wr.cell? ⟨ba, offa + k, none⟩ = some (.slice ao2 l.length cap2) := (hB.cell (by exact hba)).trans hq
      have hcs := cnt_succ hl
      have hcl := cnt_le (L := L) (show k + 1 ≤ L.length from hlt)
      have HGL : Hid (Good l) := hgl
      have hll : cnt L k + l.length ≤ 10000 := by omega
      have HCS : Hid (cnt L (k + 1) = cnt L k + l.length) := hcs
      clear hcella hq hl hgl hcs hcl
      go_wp2_with fail
      go_loopw [3, 17] (fun out j wq => ∃ (p : Nat) (b' : List Int), p ≤ l.length ∧ j = .int .i64 p ∧ Own1 w.heap.size wq out b' ∧ Beg b' ∧ (∀ x ∈ b, x ∈ b') ∧ (∀ s ∈ l.take p, Edges b' s) ∧ b'.length ≤ 1 + 2 * (cnt L k + p) ∧ Below w.heap.size w wq) (fun _ j _ => l.length - (intOf j).toNat)
      case atStart => exact ⟨0, b, Nat.zero_le _, rfl, hown, hbeg, fun _ h => h, by simp, by omega, hB⟩
      case round =>
        clear hown hbeg hblen hB hB' hq'
        obtain ⟨p, b', hp, rfl, hown, hbeg, hsub, hedge, hblen, hB⟩ := hrel
        have HS : Hid (∀ x ∈ b, x ∈ b') := hsub
        have HE2 : Hid (∀ s ∈ l.take p, Edges b' s) := hedge
        have hB' := hB.size
        clear hsub hedge
        by_cases hpl : p < l.length
        · obtain ⟨bb, offb, rfl, hbb, hcellb⟩ := hc2 (ne_nil_of_lt hpl)
          obtain ⟨x, hx⟩ : ∃ x, l[p]? = some x := ⟨_, List.getElem?_eq_getElem hpl⟩
          obtain ⟨c1, c2⟩ := hcellb p x hx
          have c1' : wr.cell? ⟨bb, offb + p * 2, none⟩ = some (.int .u32 x.1) := (hB.cell (by exact hbb)).trans c1
          have c2' : wr.cell? ⟨bb, offb + p * 2 + 1, none⟩ = some (.int .u32 x.2) := (hB.cell (by exact hbb)).trans c2
          have hxb := HGL.out x (List.mem_of_getElem? hx)
          have HT : Hid (l.take (p + 1) = l.take p ++ [x]) := take_succ_of hx
          clear hc hc2 hcellb c1 c2 hx
          by_cases hle : x.1 ≤ x.2
          · go_wp2_with fail
            have hown1 := hown.alloc (.cells #[.int .u32 x.1, .int .u32 x.2] 78)
            refine (with_any w.heap.size _ b' x.1 _ (by omega) hbeg.ne hbeg.rising hown1 (by simp; omega)).mono ?_
            rintro e w3 ⟨u3, b3, rfl, hw3, hown3, hB3, hoth3⟩
            have d1 : w3.cell? ⟨wr.heap.size, 1, none⟩ = some (.int .u32 x.2) :=
              (World.cell?_of_block (w := wr.alloc (.cells #[.int .u32 x.1, .int .u32 x.2] 78)) (a := ⟨wr.heap.size, 1, none⟩) (hoth3 wr.heap.size (by simp) (hown.notAt (Nat.le_refl _)))).trans (by simp [go_sem])
            have hbeg3 := hbeg.with hw3 hxb.1 (by omega)
            have hl3 := hw3.2.2
            have BB := (hB.alloc hB' (.cells #[.int .u32 x.1, .int .u32 x.2] 78)).trans hB3
            have HW3 : Hid (Withed b' x.1 b3) := hw3
            clear hoth3 hown1 hw3 hown hB3
            by_cases hM : x.2 < 4294967295
            · go_wp2_with fail
              refine (with_any w.heap.size _ b3 (x.2 + 1) _ (by omega) hbeg3.ne hbeg3.rising hown3 (by have := BB.size; omega)).mono ?_
              rintro e w4 ⟨u4, b4, rfl, hw4, hown4, hB4, hoth4⟩
              have hbeg4 := hbeg3.with hw4 (by omega) (by omega)
              have hl4 := hw4.2.2
              have HW4 : Hid (Withed b3 (x.2 + 1) b4) := hw4
              clear hoth4 hw4
              go_wp2_with fail
              go_roundw
              case rel => exact ⟨p + 1, b4, by omega, by go_num, hown4, hbeg4, fun y hy => (HW4.out.2.1 y).2 (Or.inl ((HW3.out.2.1 y).2 (Or.inl (HS.out y hy)))), fun s hs => by
                  rw [HT.out] at hs
                  rcases mem_snoc.1 hs with hs | rfl
                  · exact (HE2.out s hs).mono fun y hy => (HW4.out.2.1 y).2 (Or.inl ((HW3.out.2.1 y).2 (Or.inl hy)))
                  · exact fun _ => ⟨(HW4.out.2.1 _).2 (Or.inl ((HW3.out.2.1 _).2 (Or.inr rfl))), fun _ => (HW4.out.2.1 _).2 (Or.inr rfl)⟩, by omega, BB.trans hB4⟩
              case measure => simp [intOf]; omega
            · go_wp2_with fail
              go_roundw
              case rel => exact ⟨p + 1, b3, by omega, by go_num, hown3, hbeg3, fun y hy => (HW3.out.2.1 y).2 (Or.inl (HS.out y hy)), fun s hs => by
                  rw [HT.out] at hs
                  rcases mem_snoc.1 hs with hs | rfl
                  · exact (HE2.out s hs).mono fun y hy => (HW3.out.2.1 y).2 (Or.inl hy)
                  · exact fun _ => ⟨(HW3.out.2.1 _).2 (Or.inr rfl), fun h => absurd h (by omega)⟩, by omega, BB⟩
              case measure => simp [intOf]; omega
          · go_wp2_with fail
            go_roundw
            case rel => exact ⟨p + 1, b', by omega, by go_num, hown.alloc _, hbeg, HS.out, fun s hs => by
                rw [HT.out] at hs
                rcases mem_snoc.1 hs with hs | rfl
                · exact HE2.out s hs
                · exact fun h => absurd h (by omega), by omega, hB.alloc hB' _⟩
            case measure => simp [intOf]; omega
        · have e : l.take p = l := List.take_of_length_le (by omega)
          have HE3 : Hid (∀ s ∈ l, Edges b' s) := by
            have := HE2.out
            rw [e] at this
            exact this
          have hpe : p = l.length := by omega
          clear e HE2 hc hc2
          go_wp2_with fail
          go_roundw
          case rel => exact ⟨k + 1, b', by omega, by go_num, hown, hbeg, fun i l' hi hl' s hs => by
              by_cases e : i = k
              · subst e; rw [HL.out] at hl'; injection hl' with hl'; subst hl'; exact HE3.out s hs
              · exact (HE.out i l' (by omega) hl' s hs).mono HS.out, by rw [HCS.out]; omega, hB⟩
          case measure => simp [intOf]; omega
    · have hke : k = L.length := by omega
      subst hke
      clear hc
      go_wp2_with fail
      go_ret
      exact ⟨_, b, rfl, hbeg, fun l hl s hs => by
        obtain ⟨i, hi⟩ := List.mem_iff_getElem?.1 hl
        exact HE.out i l (List.getElem?_eq_some_iff.1 hi).1 hi s hs, hblen, Row1.of_owns hown, hB⟩
end Go.Proofs.YtjjlkjfhhpogaaaDoorS1

namespace Go.Proofs.YtjjlkjfhhpogaaaDoorS1

theorem NF.lt_of_lt {m : List Sp} (h : NF m) {i j : Nat} {x y : Sp} (hij : i < j) (hx : m[i]? = some x) (hy : m[j]? = some y) : x.2 + 2 ≤ y.1 := by
  obtain ⟨hi, rfl⟩ := List.getElem?_eq_some_iff.1 hx
  obtain ⟨hj, rfl⟩ := List.getElem?_eq_some_iff.1 hy
  exact List.pairwise_iff_getElem.1 h.2 i j hi hj hij

theorem inS_iff_get {l : List Sp} {n : Int} : inS l n = true ↔ ∃ (i : Nat) (s : Sp), l[i]? = some s ∧ s.1 ≤ n ∧ n ≤ s.2 := by
  rw [inS_iff]
  constructor
  · rintro ⟨s, hs, h⟩
    obtain ⟨i, hi⟩ := List.mem_iff_getElem?.1 hs
    exact ⟨i, s, hi, h⟩
  · rintro ⟨i, s, hi, h⟩
    exact ⟨s, List.mem_of_getElem? hi, h⟩

/-! ### Not -/
structure NotInv (m : List Sp) (k : Nat) (o : List Sp) (f : Int) : Prop where
  nf : NF o
  lo : 0 ≤ f
  hi : f ≤ 4294967296
  sep : ∀ x ∈ o, x.2 + 2 ≤ f
  mem : ∀ n, 0 ≤ n → (inS o n = true ↔ n < f ∧ ¬ inS m n = true)
  rest : ∀ j y, k ≤ j → m[j]? = some y → f ≤ y.1
  done : ∀ j y, j < k → m[j]? = some y → y.2 + 1 ≤ f
  len : o.length ≤ k

theorem NotInv.start {m : List Sp} (h : NF m) : NotInv m 0 [] 0 where
  nf := NF_nil
  lo := by omega
  hi := by omega
  sep := by simp
  mem n hn := by simp [inS]; omega
  rest j y _ hy := (h.1 y (List.mem_of_getElem? hy)).1
  done j y hj _ := by omega
  len := Nat.le_refl _

theorem NotInv.step {m : List Sp} {k : Nat} {o : List Sp} {f : Int} {s : Sp} (h : NotInv m k o f) (hm : NF m) (hs : m[k]? = some s) :
    NotInv m (k + 1) (if f < s.1 then o ++ [(f, s.1 - 1)] else o) (s.2 + 1) := by
  have hb := hm.1 s (List.mem_of_getElem? hs)
  have hf := h.rest k s (Nat.le_refl _) hs
  have h0 := h.lo
  have hrest : ∀ j y, k + 1 ≤ j → m[j]? = some y → s.2 + 1 ≤ y.1 := fun j y hj hy => by
    have := hm.lt_of_lt (by omega) hs hy; omega
  have hdone : ∀ j y, j < k + 1 → m[j]? = some y → y.2 + 1 ≤ s.2 + 1 := fun j y hj hy => by
    by_cases e : j = k
    · subst e; rw [hs] at hy; cases hy; omega
    · have := h.done j y (by omega) hy; omega
  have hin : ∀ n, f ≤ n → (inS m n = true ↔ s.1 ≤ n ∧ (n ≤ s.2 ∨ s.2 < n ∧ inS m n = true)) := fun n hn => by
    constructor
    · intro hi
      obtain ⟨j, y, hy, h1, h2⟩ := inS_iff_get.1 hi
      refine ⟨?_, ?_⟩
      · rcases Nat.lt_trichotomy j k with c | c | c
        · have := h.done j y c hy; omega
        · subst c; rw [hs] at hy; cases hy; exact h1
        · have := hrest j y c hy; omega
      · by_cases c : n ≤ s.2
        · exact Or.inl c
        · exact Or.inr ⟨by omega, hi⟩
    · rintro ⟨h1, h2 | h2⟩
      · exact inS_iff_get.2 ⟨k, s, hs, h1, h2⟩
      · exact h2.2
  by_cases c : f < s.1
  · rw [if_pos c]
    refine ⟨h.nf.push (by simp only; omega) (fun x hx => h.sep x hx), by omega, by omega, fun x hx => ?_, fun n hn => ?_, hrest, hdone, by have := h.len; simp; omega⟩
    · rcases mem_snoc.1 hx with hx | rfl
      · have := h.sep x hx; omega
      · simp only; omega
    · rw [inS_append, Bool.or_eq_true_iff, h.mem n hn]
      by_cases d : n < f
      · have : ¬ inS [(f, s.1 - 1)] n = true := by simp [inS]; omega
        constructor
        · rintro (⟨_, h2⟩ | h2)
          · exact ⟨by omega, h2⟩
          · exact absurd h2 this
        · rintro ⟨_, h2⟩
          exact Or.inl ⟨d, h2⟩
      · rw [hin n (by omega)]
        simp [inS]
        omega
  · rw [if_neg c]
    refine ⟨h.nf, by omega, by omega, fun x hx => by have := h.sep x hx; omega, fun n hn => ?_, hrest, hdone, by have := h.len; omega⟩
    rw [h.mem n hn]
    by_cases d : n < f
    · constructor
      · rintro ⟨_, h2⟩; exact ⟨by omega, h2⟩
      · rintro ⟨_, h2⟩; exact ⟨d, h2⟩
    · rw [hin n (by omega)]
      omega

/-- What Not answers. -/
def NotRes (m o : List Sp) : Prop := NF o ∧ ∀ n, 0 ≤ n → n ≤ 4294967295 → inS o n = !inS m n

theorem NotInv.full {m : List Sp} {k : Nat} {o : List Sp} (h : NotInv m k o 4294967296) : NotRes m o := by
  refine ⟨h.nf, fun n h0 h1 => ?_⟩
  apply bool_eq
  rw [h.mem n h0]
  simp
  omega

theorem NotInv.last {m : List Sp} {o : List Sp} {f : Int} (h : NotInv m m.length o f) (hf : f ≤ 4294967295) : NotRes m (o ++ [(f, 4294967295)]) := by
  have h0 := h.lo
  refine ⟨h.nf.push (by simp only; omega) (fun x hx => h.sep x hx), fun n hn h1 => ?_⟩
  apply bool_eq
  rw [inS_append, Bool.or_eq_true_iff, h.mem n hn]
  by_cases c : n < f
  · have e : ¬ inS [(f, (4294967295 : Int))] n = true := by simp [inS]; omega
    generalize inS m n = q at *
    cases q <;> simp [e, c]
  · have : ¬ inS m n = true := by
      intro hi
      obtain ⟨j, y, hy, a1, a2⟩ := inS_iff_get.1 hi
      obtain ⟨hj, _⟩ := List.getElem?_eq_some_iff.1 hy
      have := h.done j y hj hy
      omega
    have e : inS [(f, (4294967295 : Int))] n = true := by simp [inS]; omega
    simp only [Bool.not_eq_true] at this
    simp [this, e]

/-! ### Meet -/
structure MeetInv (a b : List Sp) (i j : Nat) (o : List Sp) : Prop where
  nf : NF o
  mem : ∀ n, (inS a n && inS b n) = (inS o n || (inS (a.drop i) n && inS (b.drop j) n))
  sep : ∀ x ∈ o, (∀ k y, i ≤ k → a[k]? = some y → x.2 + 2 ≤ y.1) ∨ (∀ k y, j ≤ k → b[k]? = some y → x.2 + 2 ≤ y.1)
  len : o.length ≤ i + j

theorem MeetInv.start (a b : List Sp) : MeetInv a b 0 0 [] :=
  ⟨NF_nil, fun n => by simp [inS], by simp, by simp⟩

theorem drop_of_get {α : Type} {l : List α} {k : Nat} {x : α} (h : l[k]? = some x) : l.drop k = x :: l.drop (k + 1) := by
  obtain ⟨hk, rfl⟩ := List.getElem?_eq_some_iff.1 h
  exact List.drop_eq_getElem_cons hk

theorem in_one (lo hi n : Int) : inS [(lo, hi)] n = (decide (lo ≤ n) && decide (n ≤ hi)) := by simp [inS]

theorem MeetInv.push {a b : List Sp} {i j i' j' : Nat} {o : List Sp} {s t : Sp} (h : MeetInv a b i j o) (ha : NF a) (hb : NF b) (hs : a[i]? = some s) (ht : b[j]? = some t)
    (hmem : ∀ n, (inS (a.drop i) n && inS (b.drop j) n) = ((decide (max s.1 t.1 ≤ n) && decide (n ≤ min s.2 t.2)) || (inS (a.drop i') n && inS (b.drop j') n)))
    (hi : i ≤ i') (hj : j ≤ j') (hij : i + j < i' + j')
    (hsep : (i < i' ∧ s.2 ≤ t.2) ∨ (j < j' ∧ t.2 ≤ s.2)) :
    MeetInv a b i' j' (if max s.1 t.1 ≤ min s.2 t.2 then o ++ [(max s.1 t.1, min s.2 t.2)] else o) := by
  have hsb := ha.1 s (List.mem_of_getElem? hs)
  have htb := hb.1 t (List.mem_of_getElem? ht)
  have hold : ∀ x ∈ o, (∀ k y, i' ≤ k → a[k]? = some y → x.2 + 2 ≤ y.1) ∨ (∀ k y, j' ≤ k → b[k]? = some y → x.2 + 2 ≤ y.1) := fun x hx => by
    rcases h.sep x hx with c | c
    · exact Or.inl fun k y hk hy => c k y (by omega) hy
    · exact Or.inr fun k y hk hy => c k y (by omega) hy
  have hl := h.len
  by_cases c : max s.1 t.1 ≤ min s.2 t.2
  · rw [if_pos c]
    refine ⟨h.nf.push (by simp only; omega) (fun x hx => ?_), fun n => ?_, fun x hx => ?_, by simp; omega⟩
    · rcases h.sep x hx with d | d
      · have := d i s (Nat.le_refl _) hs; simp only; omega
      · have := d j t (Nat.le_refl _) ht; simp only; omega
    · rw [h.mem, inS_append, hmem, in_one, Bool.or_assoc]
    · rcases mem_snoc.1 hx with hx | rfl
      · exact hold x hx
      · rcases hsep with ⟨d, e⟩ | ⟨d, e⟩
        · exact Or.inl fun k y hk hy => by have := ha.lt_of_lt (i := i) (j := k) (by omega) hs hy; simp only; omega
        · exact Or.inr fun k y hk hy => by have := hb.lt_of_lt (i := j) (j := k) (by omega) ht hy; simp only; omega
  · rw [if_neg c]
    refine ⟨h.nf, fun n => ?_, hold, by omega⟩
    rw [h.mem, hmem]
    have : (decide (max s.1 t.1 ≤ n) && decide (n ≤ min s.2 t.2)) = false := by simp; omega
    rw [this, Bool.false_or]

theorem MeetInv.left {a b : List Sp} {i j : Nat} {o : List Sp} {s t : Sp} (h : MeetInv a b i j o) (ha : NF a) (hb : NF b) (hs : a[i]? = some s) (ht : b[j]? = some t) (hlt : s.2 < t.2) :
    MeetInv a b (i + 1) j (if max s.1 t.1 ≤ min s.2 t.2 then o ++ [(max s.1 t.1, min s.2 t.2)] else o) := by
  refine h.push ha hb hs ht (fun n => ?_) (by omega) (by omega) (by omega) (Or.inl ⟨by omega, by omega⟩)
  have h1 := ha.drop i
  have h2 := hb.drop j
  rw [drop_of_get hs] at h1 ⊢
  rw [drop_of_get ht] at h2 ⊢
  exact meet_left h1 h2 hlt n

theorem MeetInv.right {a b : List Sp} {i j : Nat} {o : List Sp} {s t : Sp} (h : MeetInv a b i j o) (ha : NF a) (hb : NF b) (hs : a[i]? = some s) (ht : b[j]? = some t) (hlt : ¬ s.2 < t.2) :
    MeetInv a b i (j + 1) (if max s.1 t.1 ≤ min s.2 t.2 then o ++ [(max s.1 t.1, min s.2 t.2)] else o) := by
  refine h.push ha hb hs ht (fun n => ?_) (by omega) (by omega) (by omega) (Or.inr ⟨by omega, by omega⟩)
  have h1 := ha.drop i
  have h2 := hb.drop j
  rw [drop_of_get hs] at h1 ⊢
  rw [drop_of_get ht] at h2 ⊢
  exact meet_right h1 h2 hlt n

theorem MeetInv.done {a b : List Sp} {i j : Nat} {o : List Sp} (h : MeetInv a b i j o) (he : a.length ≤ i ∨ b.length ≤ j) (n : Int) : inS o n = (inS a n && inS b n) := by
  rw [h.mem]
  rcases he with c | c
  · rw [List.drop_of_length_le c]; simp [inS]
  · rw [List.drop_of_length_le c]; simp [inS]

end Go.Proofs.YtjjlkjfhhpogaaaDoorS1

namespace Go.Proofs.YtjjlkjfhhpogaaaDoorS1

/-- Where the piece k begins; behind the last one: behind the last number. -/
def st (b : List Int) (k : Nat) : Int := match b[k]? with | some x => x | none => 4294967296

theorem st_some {b : List Int} {k : Nat} {x : Int} (h : b[k]? = some x) : st b k = x := by unfold st; rw [h]
theorem st_none {b : List Int} {k : Nat} (h : b.length ≤ k) : st b k = 4294967296 := by unfold st; rw [List.getElem?_eq_none h]

theorem Beg.get_lt {b : List Int} (h : Beg b) {i j : Nat} {x y : Int} (hij : i < j) (hx : b[i]? = some x) (hy : b[j]? = some y) : x < y := by
  obtain ⟨hi, rfl⟩ := List.getElem?_eq_some_iff.1 hx
  obtain ⟨hj, rfl⟩ := List.getElem?_eq_some_iff.1 hy
  exact List.pairwise_iff_getElem.1 h.rising i j hi hj hij

theorem Beg.st_lt {b : List Int} (h : Beg b) {i j : Nat} (hij : i < j) (hi : i < b.length) : st b i < st b j := by
  have hx := List.getElem?_eq_getElem hi
  rw [st_some hx]
  by_cases hj : j < b.length
  · have hy := List.getElem?_eq_getElem hj
    rw [st_some hy]
    exact h.get_lt hij hx hy
  · rw [st_none (by omega)]
    have := h.rng _ (List.mem_of_getElem? hx)
    omega

theorem Beg.st_rng {b : List Int} (h : Beg b) (k : Nat) : 0 ≤ st b k ∧ st b k ≤ 4294967296 := by
  by_cases hk : k < b.length
  · have hx := List.getElem?_eq_getElem hk
    rw [st_some hx]
    have := h.rng _ (List.mem_of_getElem? hx)
    omega
  · rw [st_none (by omega)]; omega

theorem Beg.st_zero {b : List Int} (h : Beg b) : st b 0 = 0 := by
  obtain ⟨i, hi⟩ := List.mem_iff_getElem?.1 h.zero
  have hl := (List.getElem?_eq_some_iff.1 hi).1
  by_cases e : i = 0
  · subst e; exact st_some hi
  · have h1 := h.st_lt (i := 0) (j := i) (by omega) (by omega)
    rw [st_some hi] at h1
    have := (h.st_rng 0).1
    omega

/-- Each number lies in a piece. -/
theorem Beg.piece {b : List Int} (h : Beg b) {n : Int} (h0 : 0 ≤ n) (h1 : n ≤ 4294967295) : ∃ i, i < b.length ∧ st b i ≤ n ∧ n < st b (i + 1) := by
  have key : ∀ k, k ≤ b.length → (∃ i, i < k ∧ st b i ≤ n ∧ n < st b (i + 1)) ∨ st b k ≤ n := by
    intro k
    induction k with
    | zero => intro _; right; rw [h.st_zero]; exact h0
    | succ k ih =>
      intro hk
      rcases ih (by omega) with ⟨i, hi, c⟩ | c
      · exact Or.inl ⟨i, by omega, c⟩
      · by_cases d : n < st b (k + 1)
        · exact Or.inl ⟨k, by omega, c, d⟩
        · exact Or.inr (by omega)
  rcases key b.length (Nat.le_refl _) with ⟨i, hi, c⟩ | c
  · exact ⟨i, hi, c⟩
  · rw [st_none (Nat.le_refl _)] at c; omega

/-- No beginning lies inside a piece. -/
theorem Beg.between {b : List Int} (h : Beg b) {i : Nat} (hi : i < b.length) {x : Int} (hx : x ∈ b) (h1 : st b i < x) : st b (i + 1) ≤ x := by
  obtain ⟨j, hj⟩ := List.mem_iff_getElem?.1 hx
  have hjl := (List.getElem?_eq_some_iff.1 hj).1
  rw [← st_some hj] at h1 ⊢
  by_cases c : i + 1 < j
  · have := h.st_lt c (by
      by_cases d : i + 1 < b.length
      · exact d
      · omega)
    omega
  · by_cases d : j = i + 1
    · rw [d]; omega
    · by_cases e : j = i
      · rw [e] at h1; omega
      · have := h.st_lt (i := j) (j := i) (by omega) hjl
        omega

/-- In a piece a span has all numbers or none. -/
theorem Beg.whole {b : List Int} (h : Beg b) {s : Sp} (he : Edges b s) (hs : s.2 ≤ 4294967295) {i : Nat} (hi : i < b.length) {n : Int} (h1 : st b i ≤ n) (h2 : n < st b (i + 1)) :
    (s.1 ≤ n ∧ n ≤ s.2) ↔ (s.1 ≤ st b i ∧ st b i ≤ s.2) := by
  by_cases c : s.1 ≤ s.2
  · obtain ⟨e1, e2⟩ := he c
    constructor
    · rintro ⟨a1, a2⟩
      refine ⟨?_, by omega⟩
      by_cases d : s.1 ≤ st b i
      · exact d
      · have := h.between hi e1 (by omega); omega
    · rintro ⟨a1, a2⟩
      refine ⟨by omega, ?_⟩
      by_cases d : s.2 < 4294967295
      · have := h.between hi (e2 d) (by omega); omega
      · have := (h.st_rng (i + 1)).2; omega
  · omega

/-- In a piece a set has all numbers or none. -/
theorem Beg.wholeS {b : List Int} (h : Beg b) {l : List Sp} (he : ∀ s ∈ l, Edges b s) (hg : Good l) {i : Nat} (hi : i < b.length) {n : Int} (h1 : st b i ≤ n) (h2 : n < st b (i + 1)) :
    inS l n = inS l (st b i) := by
  apply bool_eq
  rw [inS_iff, inS_iff]
  constructor
  · rintro ⟨s, hs, c⟩
    exact ⟨s, hs, (h.whole (he s hs) (by have := hg s hs; omega) hi h1 h2).1 c⟩
  · rintro ⟨s, hs, c⟩
    exact ⟨s, hs, (h.whole (he s hs) (by have := hg s hs; omega) hi h1 h2).2 c⟩

/-! ### The set of those pieces that are asked for -/
structure FromInv (b : List Int) (ins : List Bool) (k : Nat) (o : List Sp) : Prop where
  nf : NF o
  mem : ∀ i q n, i < k → ins[i]? = some q → st b i ≤ n → n < st b (i + 1) → inS o n = q
  lt : ∀ x ∈ o, x.2 + 1 ≤ st b k
  last : ∀ j, k = j + 1 → ins[j]? = some true → ∃ init t, o = init ++ [t] ∧ t.2 + 1 = st b k
  gap : ∀ j, k = j + 1 → ins[j]? = some false → ∀ x ∈ o, x.2 + 2 ≤ st b k
  none : k = 0 → o = []
  len : o.length ≤ k

theorem FromInv.start (b : List Int) (ins : List Bool) : FromInv b ins 0 [] :=
  ⟨NF_nil, fun i q n hi => by omega, by simp, fun j h => by omega, fun j h => by omega, fun _ => rfl, by simp⟩

theorem FromInv.skip {b : List Int} {ins : List Bool} {k : Nat} {o : List Sp} (h : FromInv b ins k o) (hb : Beg b) (hk : k < b.length) (hq : ins[k]? = some false) : FromInv b ins (k + 1) o := by
  have hs := hb.st_lt (i := k) (j := k + 1) (by omega) hk
  refine ⟨h.nf, fun i q n hi hi2 h1 h2 => ?_, fun x hx => by have := h.lt x hx; omega, fun j hj hj2 => ?_, fun j hj hj2 x hx => by have := h.lt x hx; omega, fun e => by omega, by have := h.len; omega⟩
  · by_cases e : i = k
    · subst e
      rw [hq] at hi2
      injection hi2 with hi2
      rw [← hi2]
      apply inS_false_iff.2
      intro s hs' hc
      have := h.lt s hs'
      omega
    · exact h.mem i q n (by omega) hi2 h1 h2
  · have : j = k := by omega
    subst this
    rw [hq] at hj2
    cases hj2

theorem FromInv.push {b : List Int} {ins : List Bool} {k : Nat} {o : List Sp} (h : FromInv b ins k o) (hb : Beg b) (hk : k < b.length) (hq : ins[k]? = some true) (hg : ∀ j, k = j + 1 → ins[j]? = some false) : FromInv b ins (k + 1) (o ++ [(st b k, st b (k + 1) - 1)]) := by
  have hs := hb.st_lt (i := k) (j := k + 1) (by omega) hk
  have r0 := hb.st_rng k
  have r1 := hb.st_rng (k + 1)
  have hgap : ∀ x ∈ o, x.2 + 2 ≤ st b k := fun x hx => by
    cases k with
    | zero => rw [h.none rfl] at hx; simp at hx
    | succ j => exact h.gap j rfl (hg j rfl) x hx
  refine ⟨h.nf.push (by simp only; omega) hgap, fun i q n hi hi2 h1 h2 => ?_, fun x hx => ?_, fun j hj _ => ⟨o, _, rfl, by simp only; omega⟩, fun j hj hj2 => ?_, fun e => by omega, by have := h.len; simp; omega⟩
  · rw [inS_append, in_one]
    by_cases e : i = k
    · subst e
      rw [hq] at hi2
      injection hi2 with hi2
      rw [← hi2]
      simp
      right
      omega
    · rw [h.mem i q n (by omega) hi2 h1 h2]
      have hik : st b (i + 1) ≤ st b k := by
        by_cases d : i + 1 = k
        · rw [d]; omega
        · have := hb.st_lt (i := i + 1) (j := k) (by omega) (by omega); omega
      have : (decide (st b k ≤ n) && decide (n ≤ st b (k + 1) - 1)) = false := by simp; omega
      rw [this, Bool.or_false]
  · rcases mem_snoc.1 hx with hx | rfl
    · have := h.lt x hx; omega
    · simp only; omega
  · have : j = k := by omega
    subst this
    rw [hq] at hj2
    cases hj2

theorem FromInv.grow {b : List Int} {ins : List Bool} {k : Nat} {init : List Sp} {t : Sp} (h : FromInv b ins k (init ++ [t])) (ht : t.2 + 1 = st b k) (hb : Beg b) (hk : k < b.length) (hq : ins[k]? = some true) : FromInv b ins (k + 1) (init ++ [(t.1, st b (k + 1) - 1)]) := by
  have hs := hb.st_lt (i := k) (j := k + 1) (by omega) hk
  have r0 := hb.st_rng k
  have r1 := hb.st_rng (k + 1)
  have hl := h.nf.last
  have hm : max t.2 (st b (k + 1) - 1) = st b (k + 1) - 1 := by omega
  have hnf := h.nf.merge (s := (st b k, st b (k + 1) - 1)) (by simp only; omega) (by simp only; omega)
  simp only [hm] at hnf
  refine ⟨hnf, fun i q n hi hi2 h1 h2 => ?_, fun x hx => ?_, fun j hj _ => ⟨init, _, rfl, by simp only; omega⟩, fun j hj hj2 => ?_, fun e => by omega, by have := h.len; simp at *; omega⟩
  · by_cases e : i = k
    · subst e
      rw [hq] at hi2
      injection hi2 with hi2
      rw [← hi2, inS_append, in_one]
      simp
      right
      omega
    · have hik : st b (i + 1) ≤ st b k := by
        by_cases d : i + 1 = k
        · rw [d]; omega
        · have := hb.st_lt (i := i + 1) (j := k) (by omega) (by omega); omega
      rw [← h.mem i q n (by omega) hi2 h1 h2, inS_append, inS_append, in_one]
      congr 1
      obtain ⟨t1, t2⟩ := t
      rw [in_one]
      simp only at ht
      apply bool_eq
      simp
      omega
  · rcases mem_snoc.1 hx with hx | rfl
    · have := hl.2 x hx; omega
    · simp only; omega
  · have : j = k := by omega
    subst this
    rw [hq] at hj2
    cases hj2

end Go.Proofs.YtjjlkjfhhpogaaaDoorS1

namespace Go.Proofs.YtjjlkjfhhpogaaaDoorS1
open Go.RowKit

theorem ret_u32 {a b : Int} (h : a = b) : Ending.returned (.int .u32 a) = .returned (.int .u32 b) := by rw [h]

set_option maxHeartbeats 400000 in
theorem end_any (v : Value) (b : List Int) (i : Nat) (w : World) (hb : Beg b) (hi : i < b.length) (hl : b.length ≤ 100000) (hv : Row1 w v b) :
    Calls Tryd.prog 117 #[v, .int .i64 i] w fun e w' => e = .returned (.int .u32 (st b (i + 1) - 1)) ∧ w' = w := by
  obtain ⟨ao, cap, rfl, hc⟩ := hv
  obtain ⟨ba, off, rfl, hba, hcell⟩ := hc (ne_nil_of_lt hi)
  by_cases he : i + 1 = b.length
  · have e1 : ((i : Int) == (b.length : Int) - 1) = true := by simp; omega
    have e2 : st b (i + 1) - 1 = 4294967295 := by rw [st_none (by omega)]; omega
    rw [e2]
    clear hcell hc e2
    go_enter Tryd.func117, Tryd.ntmps117
    go_wp2
    go_ret
    exact ⟨rfl, rfl⟩
  · have e1 : ((i : Int) == (b.length : Int) - 1) = false := by simp; omega
    obtain ⟨y, hy⟩ : ∃ y, b[i + 1]? = some y := ⟨_, List.getElem?_eq_getElem (by omega)⟩
    have c1 := hcell (i + 1) y hy
    have hlt := hb.st_lt (i := i) (j := i + 1) (by omega) hi
    have r0 := (hb.st_rng i).1
    rw [st_some hy] at hlt ⊢
    have hyb := hb.rng y (List.mem_of_getElem? hy)
    have hi2 : i + 1 < b.length := by omega
    have hy1 : 1 ≤ y := by omega
    clear hcell hc hy r0 hlt
    go_enter Tryd.func117, Tryd.ntmps117
    go_wp2
    go_ret
    exact ⟨rfl, rfl⟩

/-- What 'from' answers. -/
def Froms (b : List Int) (ins : List Bool) (o : List Sp) : Prop := NF o ∧ (∀ i q n, ins[i]? = some q → st b i ≤ n → n < st b (i + 1) → inS o n = q) ∧ o.length ≤ b.length

set_option maxHeartbeats 2000000 in
theorem from_any (v u : Value) (b : List Int) (ins : List Bool) (w : World) (hb : Beg b) (hl : b.length ≤ 100000) (hlen : ins.length = b.length) (hv : Row1 w v b) (hu : RowB w u ins) :
    Calls Tryd.prog 104 #[v, u] w fun e w' => ∃ r o, e = .returned r ∧ Froms b ins o ∧ Own2 w.heap.size w' r o ∧ Below w.heap.size w w' := by
  have HV : Hid (Row1 w v b) := hv
  have HB : Hid (Beg b) := hb
  obtain ⟨ao, cap, rfl, hc⟩ := hv
  obtain ⟨ao2, cap2, rfl, hc2⟩ := hu
  rw [hlen]
  have HL : Hid (ins.length = b.length) := hlen
  clear hlen hb
  go_enter Tryd.func104, Tryd.ntmps104
  go_wp2_with fail
  go_loopw [5, 10] (fun out i wr => ∃ (k : Nat) (o : List Sp), k ≤ b.length ∧ i = .int .i64 k ∧ FromInv b ins k o ∧ Own2 w.heap.size wr out o ∧ Below w.heap.size w wr) (fun _ i _ => b.length - (intOf i).toNat)
  case atStart => exact ⟨0, [], Nat.zero_le _, rfl, FromInv.start b ins, Own2.nil _ _, Below.refl _ _⟩
  case round =>
    obtain ⟨k, o, hk, rfl, hinv, hown, hB⟩ := hrel
    have hB' := hB.size
    have hlo := hinv.len
    by_cases hlt : k < b.length
    · obtain ⟨ba, off, rfl, hba, hcell⟩ := hc (ne_nil_of_lt hlt)
      obtain ⟨bb, offb, rfl, hbb, hcellb⟩ := hc2 (ne_nil_of_lt (k := k) (by rw [HL.out]; exact hlt))
      obtain ⟨x, hx⟩ : ∃ x, b[k]? = some x := ⟨_, List.getElem?_eq_getElem hlt⟩
      obtain ⟨q, hq⟩ : ∃ q, ins[k]? = some q := ⟨_, List.getElem?_eq_getElem (by rw [HL.out]; exact hlt)⟩
      have c1 : wr.cell? ⟨ba, off + k, none⟩ = some (.int .u32 x) := (hB.cell (by exact hba)).trans (hcell k x hx)
      have c2 : wr.cell? ⟨bb, offb + k, none⟩ = some (.bool q) := (hB.cell (by exact hbb)).trans (hcellb k q hq)
      have hend := fun W (h : Below w.heap.size w W) => end_any _ b k W HB.out hlt hl (HV.out.kept h (Nat.le_refl _))
      have hst := st_some hx
      cases q with
      | false =>
        have HI : Hid (FromInv b ins (k + 1) o) := hinv.skip HB.out hlt hq
        clear hinv hc hc2 hcell hcellb hx hq hend hst
        go_wp2_with fail
        go_roundw
        case rel => exact ⟨k + 1, o, by omega, by go_num, HI.out, hown, hB⟩
        case measure => simp [intOf]; omega
      | true =>
        by_cases hk0 : k = 0
        · have HI : Hid (FromInv b ins (k + 1) (o ++ [(x, st b (k + 1) - 1)])) := by
            have := hinv.push HB.out hlt hq (fun j hj => by omega)
            rw [hst] at this
            exact this
          have hend0 := hend wr hB
          have hk1 : (k : Int) ≤ 0 := by omega
          generalize st b (k + 1) - 1 = y at *
          clear hinv hc hc2 hcell hcellb hx hq hend hst hk0
          go_wp2_with (first
            | (at_builtin; refine wp_app2 rfl _ _ rfl w.heap.size _ o rfl (hown.alloc _) (x, y) _ rfl (by simp [go_sem]) (by simp [go_sem]) (by omega) (by simp; omega) ?_; intro g cap3 w3 how3 hB3 hg1 hg2)
            | (go_at_call 117; refine hend0.mono ?_; rintro e w4 ⟨rfl, rfl⟩))
          go_roundw
          case rel => exact ⟨k + 1, o ++ [(x, y)], by omega, by go_num, HI.out, how3, (hB.alloc hB' _).trans hB3⟩
          case measure => simp [intOf]; omega
        · obtain ⟨j, rfl⟩ : ∃ j, k = j + 1 := ⟨k - 1, by omega⟩
          obtain ⟨q, hq2⟩ : ∃ q, ins[j]? = some q := ⟨_, List.getElem?_eq_getElem (by rw [HL.out]; omega)⟩
          have c3 : wr.cell? ⟨bb, offb + j, none⟩ = some (.bool q) := (hB.cell (by exact hbb)).trans (hcellb j q hq2)
          have hend0 := hend wr hB
          cases q with
          | false =>
            have HI : Hid (FromInv b ins (j + 1 + 1) (o ++ [(x, st b (j + 1 + 1) - 1)])) := by
              have := hinv.push HB.out hlt hq (fun i hi => by have : i = j := by omega
                                                              subst this; exact hq2)
              rw [hst] at this
              exact this
            generalize st b (j + 1 + 1) - 1 = y at *
            clear hinv hc hc2 hcell hcellb hx hq hend hst hq2 hk0
            go_wp2_with (first
              | (at_builtin; refine wp_app2 rfl _ _ rfl w.heap.size _ o rfl (hown.alloc _) (x, y) _ rfl (by simp [go_sem]) (by simp [go_sem]) (by omega) (by simp; omega) ?_; intro g cap3 w3 how3 hB3 hg1 hg2)
              | (go_at_call 117; refine hend0.mono ?_; rintro e w4 ⟨rfl, rfl⟩))
            go_roundw
            case rel => exact ⟨j + 1 + 1, o ++ [(x, y)], by omega, by go_num, HI.out, how3, (hB.alloc hB' _).trans hB3⟩
            case measure => simp [intOf]; omega
          | true =>
            obtain ⟨init, t, rfl, ht⟩ := hinv.last j rfl hq2
            have HI : Hid (FromInv b ins (j + 1 + 1) (init ++ [(t.1, st b (j + 1 + 1) - 1)])) := hinv.grow ht HB.out hlt hq
            obtain ⟨g, cap3, rfl, hg1, hg2, hcap, hfr, hcl⟩ := hown.shape (by simp)
            have hn : (init ++ [t]).length = init.length + 1 := by simp
            rw [hn] at hown hlo hcap
            rw [hn]
            have fz := hfr (init.length * 2 + 1)
            have ct := (hcl init.length t (by simp)).2
            have hnew := hown.setHi (st b (j + 1 + 1) - 1)
            have hBn := hB.setCell (p := ⟨g, init.length * 2 + 1, none⟩) hg1 (.int .u32 (st b (j + 1 + 1) - 1))
            generalize st b (j + 1 + 1) - 1 = y at *
            clear hinv hc hc2 hcell hcellb hx hq hend hst hq2 hk0 hfr hcl hn ht
            go_wp2_with (go_at_call 117; refine hend0.mono ?_; rintro e w4 ⟨rfl, rfl⟩)
            all_goals exact ⟨⟨j + 1 + 1, init ++ [(t.1, y)], by omega, by go_num, HI.out, hnew, hBn⟩, by simp [intOf]; omega⟩
    · have hke : k = b.length := by omega
      subst hke
      have HF : Hid (Froms b ins o) := ⟨hinv.nf, fun i q n hq h1 h2 => hinv.mem i q n (by have := (List.getElem?_eq_some_iff.1 hq).1; rw [HL.out] at this; exact this) hq h1 h2, hinv.len⟩
      clear hc hc2 hinv
      go_wp2_with fail
      go_ret
      exact ⟨_, o, rfl, HF.out, hown, hB⟩
end Go.Proofs.YtjjlkjfhhpogaaaDoorS1

namespace Go.Proofs.YtjjlkjfhhpogaaaDoorS1
open Go.RowKit

/-- By op of what is in a, and in b: 1 either, 2 both, 3 not in a. -/
def opF (op : Int) (p q : Bool) : Bool := if op = 1 then p || q else if op = 2 then p && q else !p

theorem RowS.two {w : World} {va vb : Value} {la lb : List Sp} (ha : Row2 w va la) (hb : Row2 w vb lb) : RowS (w.alloc (.cells #[va, vb] 22)) (.slice (some ⟨w.heap.size, 0, none⟩) 2 2) [la, lb] := by
  have hB : Below w.heap.size w (w.alloc (.cells #[va, vb] 22)) := (Below.refl _ _).alloc (Nat.le_refl _) _
  refine ⟨_, 2, rfl, fun _ => ⟨w.heap.size, 0, rfl, by simp, fun i l hl => ?_⟩⟩
  match i with
  | 0 => simp at hl; subst hl; exact ⟨va, by simp [go_sem], ha.kept hB (Nat.le_refl _)⟩
  | 1 => simp at hl; subst hl; exact ⟨vb, by simp [go_sem], hb.kept hB (Nat.le_refl _)⟩
  | i + 2 => simp at hl

theorem cell0_new (w : World) (v : Value) (t : TypeId) : (w.alloc (.cells #[v] t)).cell? ⟨w.heap.size, 0, none⟩ = some v := by simp [go_sem]

set_option maxHeartbeats 2000000 in
theorem set_any (op : Int) (hop : op = 1 ∨ op = 2 ∨ op = 3) (va vb : Value) (a b : List Sp) (w : World) (hla : a.length ≤ 1000) (hlb : b.length ≤ 1000) (hga : Good a) (hgb : Good b) (hva : Row2 w va a) (hvb : Row2 w vb b) :
    Calls Tryd.prog 92 #[.int .i64 op, va, vb] w fun e w' => ∃ u o, e = .returned u ∧ NF o ∧ (∀ n, 0 ≤ n → n ≤ 4294967295 → inS o n = opF op (inS a n) (inS b n)) ∧ o.length ≤ 10000 ∧ Own2 w.heap.size w' u o ∧ Below w.heap.size w w' := by
  have hS := RowS.two hva hvb
  have hcnt : cnt [a, b] [a, b].length = a.length + b.length := by simp [cnt]
  have hbeg := begins_any _ [a, b] _ (by simp) (by rw [hcnt]; omega) (by intro l hl; simp at hl; rcases hl with rfl | rfl <;> assumption) hS
  have HA : Hid (Row2 w va a) := hva
  have HB : Hid (Row2 w vb b) := hvb
  have HGA : Hid (Good a) := hga
  have HGB : Hid (Good b) := hgb
  rw [hcnt] at hbeg
  obtain ⟨aoa, capa, rfl, _⟩ := hva
  obtain ⟨aob, capb, rfl, _⟩ := hvb
  have HOP : Hid (op = 1 ∨ op = 2 ∨ op = 3) := hop
  clear hS hga hgb hcnt hop
  go_enter Tryd.func92, Tryd.ntmps92
  go_wp2_with (go_at_call 103; refine hbeg.mono ?_; rintro e w1 ⟨u1, bs, rfl, hbs, hed, hbl, ⟨ao, cap, rfl, hc⟩, hB1⟩)
  have HBS : Hid (Beg bs) := hbs
  have B1 : Below w.heap.size w w1 := ((Below.refl _ _).alloc (Nat.le_refl _) _).trans (hB1.mono (by simp))
  have HR1 : Hid (Row1 w1 (.slice ao bs.length cap) bs) := ⟨ao, cap, rfl, hc⟩
  have HED : Hid (∀ l ∈ [a, b], ∀ s ∈ l, Edges bs s) := hed
  clear hbeg hbs hB1 hed
  go_loopw [8, 19] (fun out i wr => ∃ (k : Nat) (ins : List Bool), k ≤ bs.length ∧ i = .int .i64 k ∧ ins.length = k ∧ (∀ j x, j < k → bs[j]? = some x → ins[j]? = some (opF op (inS a x) (inS b x))) ∧ OwnB w1.heap.size wr out ins ∧ Below w1.heap.size w1 wr) (fun _ i _ => bs.length - (intOf i).toNat)
  case atStart => exact ⟨0, [], Nat.zero_le _, rfl, rfl, fun j x hj => by omega, OwnB.nil _ _, Below.refl _ _⟩
  case round =>
    obtain ⟨k, ins, hk, rfl, hlen, hin, hown, hB⟩ := hrel
    have hB' := hB.size
    have HI : Hid (∀ j x, j < k → bs[j]? = some x → ins[j]? = some (opF op (inS a x) (inS b x))) := hin
    have HL : Hid (ins.length = k) := hlen
    clear hin
    by_cases hlt : k < bs.length
    · obtain ⟨ba, off, rfl, hba, hcell⟩ := hc (ne_nil_of_lt hlt)
      obtain ⟨x, hx⟩ : ∃ x, bs[k]? = some x := ⟨_, List.getElem?_eq_getElem hlt⟩
      have c1 : wr.cell? ⟨ba, off + k, none⟩ = some (.int .u32 x) := (hB.cell (by exact hba)).trans (hcell k x hx)
      have hina := fun W (h : Below w.heap.size w W) => rin_any _ a x W (by omega) (HA.out.kept h (Nat.le_refl _))
      have hinb := fun W (h : Below w.heap.size w W) => rin_any _ b x W (by omega) (HB.out.kept h (Nat.le_refl _))
      have HX : Hid (bs[k]? = some x) := hx
      have BW := B1.trans (hB.mono B1.size)
      have HN : Hid (∀ q, q = opF op (inS a x) (inS b x) → ∀ j y, j < k + 1 → bs[j]? = some y → (ins ++ [q])[j]? = some (opF op (inS a y) (inS b y))) := fun q hq j y hj hy => by
        by_cases e : j = k
        · subst e
          rw [HX.out] at hy; injection hy with hy
          subst hy
          rw [List.getElem?_append_right (by rw [HL.out]; omega), HL.out]
          simp [hq]
        · rw [List.getElem?_append_left (by rw [HL.out]; omega)]
          exact HI.out j y (by omega) hy
      clear hc hcell hx hlen
      generalize inS a x = p at *
      generalize inS b x = q at *
      go_wp2_with fail
      refine (hina _ BW).mono ?_
      rintro e w2 ⟨rfl, hB2⟩
      go_wp2_with fail
      refine (hinb _ (BW.trans (hB2.mono BW.size))).mono ?_
      rintro e w3 ⟨rfl, hB3⟩
      have B3 : Below w1.heap.size w1 w3 := hB.trans ((hB2.trans (hB3.mono hB2.size)).mono hB')
      have own3 : OwnB w1.heap.size w3 _ ins := hown.kept ⟨(hB2.trans (hB3.mono hB2.size)).os, (hB2.trans (hB3.mono hB2.size)).tape, (hB2.trans (hB3.mono hB2.size)).output, (hB2.trans (hB3.mono hB2.size)).size, fun k hk _ => (hB2.trans (hB3.mono hB2.size)).block k hk⟩ (row := none) (by cases (Value.ownBlock _) <;> simp)
      have hll : ins.length ≤ bs.length := by rw [HL.out]; exact hk
      have sz3 := B3.size
      clear hina hinb hown hB hB2 hB3 hB' BW c1
      rcases HOP.out with rfl | rfl | rfl <;> cases p <;> cases q
      all_goals
        go_wp2_with (at_builtin; refine wp_appB rfl _ _ rfl w1.heap.size _ ins rfl (own3.alloc _) _ w3.heap.size rfl (cell0_new w3 _ _) (by omega) (by simp; omega) ?_; intro g cap4 w4 how4 hB4)
        go_roundw
        case rel => exact ⟨k + 1, ins ++ [_], by omega, by go_num, by simp [HL.out], HN.out _ (by simp [opF]), how4, (B3.alloc sz3 _).trans hB4⟩
        case measure => simp [intOf]; omega
    · have hke : k = bs.length := by omega
      subst hke
      have HF := from_any (.slice ao bs.length cap) _ bs ins wr HBS.out (by omega) hlen (HR1.out.kept hB (Nat.le_refl _)) (RowB.of_owns hown)
      obtain ⟨ao5, cap5, rfl, _⟩ := RowB.of_owns hown
      have B2 := B1.trans (hB.mono B1.size)
      clear hc hown hlen
      go_wp2_with (go_at_call 104; refine HF.mono ?_; rintro e w4 ⟨u4, o, rfl, hfr, hro, hB4⟩)
      go_ret
      refine ⟨_, o, rfl, hfr.1, fun n h0 h1 => ?_, by have := hfr.2.2; omega, hro.lower B2.size, B2.trans (hB4.mono B2.size)⟩
      obtain ⟨i, hi, c1, c2⟩ := HBS.out.piece h0 h1
      have hbi := List.getElem?_eq_getElem hi
      have hii := HI.out i _ hi hbi
      rw [hfr.2.1 i _ n hii c1 c2]
      rw [HBS.out.wholeS (HED.out a (by simp)) HGA.out hi c1 c2, HBS.out.wholeS (HED.out b (by simp)) HGB.out hi c1 c2, st_some hbi]

set_option maxHeartbeats 400000 in
theorem rnorm_any (v : Value) (l : List Sp) (w : World) (hl : l.length ≤ 1000) (hg : Good l) (hv : Row2 w v l) :
    Calls Tryd.prog 79 #[v] w fun e w' => ∃ u o, e = .returned u ∧ NF o ∧ (∀ n, 0 ≤ n → n ≤ 4294967295 → inS o n = inS l n) ∧ o.length ≤ 10000 ∧ Own2 w.heap.size w' u o ∧ Below w.heap.size w w' := by
  have hcall := set_any 1 (Or.inl rfl) v (.slice none 0 0) l [] w hl (by simp) hg (by simp [Good]) hv (Row2.nil w)
  clear hv hg
  go_enter Tryd.func79, Tryd.ntmps79
  go_wp2_with (go_at_call 92; refine hcall.mono ?_; rintro e w1 ⟨u, o, rfl, h1, h2, h3, h4, h5⟩)
  go_ret
  exact ⟨_, o, rfl, h1, fun n a b => by rw [h2 n a b]; simp [opF, inS_nil], h3, h4, h5⟩

end Go.Proofs.YtjjlkjfhhpogaaaDoorS1
