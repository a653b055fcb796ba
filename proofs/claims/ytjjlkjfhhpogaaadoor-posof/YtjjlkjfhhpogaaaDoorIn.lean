/-
  Rising lists of positions; slices.BinarySearch and slices.Insert on rows of the call's own; the walk of with.
-/
import Derived.Test.YtjjlkjfhhpogaaaDoorLy
import Derived.Test.YtjjlkjfhhpogaaaDoorTree
namespace Go.Proofs.YtjjlkjfhhpogaaaDoor
open Go.RowKit

abbrev Rises (L : List Nat) : Prop := L.Pairwise (· < ·)
theorem rises_ext : ∀ {L M : List Nat}, Rises L → Rises M → (∀ x, x ∈ L ↔ x ∈ M) → L = M
  | [], [], _, _, _ => rfl
  | [], b :: M, _, _, h => by have := (h b).2 (List.mem_cons_self ..); simp at this
  | a :: L, [], _, _, h => by have := (h a).1 (List.mem_cons_self ..); simp at this
  | a :: L, b :: M, h1, h2, h => by
    rw [Rises, List.pairwise_cons] at h1 h2
    have hab : a = b := by
      have p := (h a).1 (List.mem_cons_self ..)
      have q := (h b).2 (List.mem_cons_self ..)
      rcases List.mem_cons.1 p with p | p
      · exact p
      · rcases List.mem_cons.1 q with q | q
        · exact q.symm
        · have := h1.1 b q; have := h2.1 a p; omega
    subst hab
    congr 1
    refine rises_ext h1.2 h2.2 fun x => ?_
    constructor
    · intro hx
      rcases List.mem_cons.1 ((h x).1 (List.mem_cons_of_mem _ hx)) with e | e
      · have := h1.1 x hx; omega
      · exact e
    · intro hx
      rcases List.mem_cons.1 ((h x).2 (List.mem_cons_of_mem _ hx)) with e | e
      · have := h2.1 x hx; omega
      · exact e

/-- A number put into a list at a place. -/
def insL (L : List Nat) (i x : Nat) : List Nat := L.take i ++ x :: L.drop i
/-- A number put into a rising list, unless it is there. -/
def insR (L : List Nat) (x : Nat) : List Nat := if x ∈ L then L else insL L (L.countP (· < x)) x

theorem insL_len (L : List Nat) {i : Nat} (x : Nat) (h : i ≤ L.length) : (insL L i x).length = L.length + 1 := by
  unfold insL
  rw [List.length_append, List.length_cons, List.length_take, List.length_drop]
  omega
theorem countP_rises : ∀ {L : List Nat} {x : Nat}, Rises L → (∀ y ∈ L.take (L.countP (· < x)), y < x) ∧ ∀ y ∈ L.drop (L.countP (· < x)), x ≤ y
  | [], x, _ => by simp
  | a :: L, x, h => by
    rw [Rises, List.pairwise_cons] at h
    by_cases c : a < x
    · rw [List.countP_cons_of_pos (by simpa using c)]
      obtain ⟨h1, h2⟩ := countP_rises (x := x) h.2
      refine ⟨fun y hy => ?_, fun y hy => ?_⟩
      · rw [List.take_succ_cons] at hy
        rcases List.mem_cons.1 hy with rfl | hy
        · exact c
        · exact h1 y hy
      · rw [List.drop_succ_cons] at hy
        exact h2 y hy
    · have e : (a :: L).countP (· < x) = 0 := by
        rw [List.countP_eq_zero]
        intro y hy
        simp only [decide_eq_true_eq]
        rcases List.mem_cons.1 hy with rfl | hy
        · exact c
        · have := h.1 y hy; omega
      rw [e]
      refine ⟨fun y hy => by simp at hy, fun y hy => ?_⟩
      rw [List.drop_zero] at hy
      rcases List.mem_cons.1 hy with rfl | hy
      · omega
      · have := h.1 y hy; omega
theorem insR_mem (L : List Nat) (x y : Nat) : y ∈ insR L x ↔ y ∈ L ∨ y = x := by
  unfold insR
  split
  next h =>
    constructor
    · exact Or.inl
    · rintro (h1 | rfl)
      · exact h1
      · exact h
  next h =>
    unfold insL
    conv => rhs; rw [← List.take_append_drop (L.countP (· < x)) L]
    simp only [List.mem_append, List.mem_cons]
    constructor
    · rintro (h1 | h1 | h1)
      · exact Or.inl (Or.inl h1)
      · exact Or.inr h1
      · exact Or.inl (Or.inr h1)
    · rintro ((h1 | h1) | h1)
      · exact Or.inl h1
      · exact Or.inr (Or.inr h1)
      · exact Or.inr (Or.inl h1)
theorem insR_rises {L : List Nat} {x : Nat} (h : Rises L) : Rises (insR L x) := by
  unfold insR
  split
  · exact h
  next hx =>
    obtain ⟨h1, h2⟩ := countP_rises (x := x) h
    have hd := h
    rw [Rises, ← List.take_append_drop (L.countP (· < x)) L, List.pairwise_append] at hd
    unfold insL
    rw [Rises, List.pairwise_append, List.pairwise_cons]
    refine ⟨hd.1, ⟨fun y hy => ?_, hd.2.1⟩, fun a ha b hb => ?_⟩
    · have := h2 y hy
      have : y ≠ x := fun e => hx (e ▸ List.mem_of_mem_drop hy)
      omega
    · rcases List.mem_cons.1 hb with rfl | hb
      · exact h1 a ha
      · exact hd.2.2 a ha b hb
theorem countP_le_len (L : List Nat) (x : Nat) : L.countP (· < x) ≤ L.length := List.countP_le_length

def encI (x : Nat) : List Value := [.int .i64 x]
theorem encI_len (x : Nat) : (encI x).length = 1 := rfl
theorem oneI (x : Nat) : ∀ u ∈ encI x, u.oneCell' = true := by
  intro u hu; simp [encI] at hu; subst hu; rfl
abbrev RowI := RowX encI 1
abbrev OwnI := OwnX encI 1 3
theorem info3 : (Tryd.prog.info? 3).map (fun i => (i.zero, i.size, i.bytes)) = some (some (.int .i64 0), 1, 8) := by kernel_rfl
theorem cellsI (L : List Nat) : cellsOf encI L = L.map fun (x : Nat) => Value.int .i64 (x : Int) := by
  induction L with
  | nil => rfl
  | cons a L ih => show encI a ++ cellsOf encI L = _; rw [ih]; rfl

theorem RowX.csI {w : World} {ao : Option Addr} {n cap : Nat} {l : List Nat} (h : RowI w (.slice ao n cap) l) {k : Nat} {x : Nat} (hx : l[k]? = some x) :
    ∃ b off, ao = some ⟨b, off, none⟩ ∧ b < w.heap.size ∧ w.cell? ⟨b, off + k, none⟩ = some (.int .i64 x) := by
  obtain ⟨b, off, e, hb, hc⟩ := h.at hx
  have := hc 0 _ rfl
  rw [Nat.mul_one] at this
  exact ⟨b, off, e, hb, this⟩

theorem bs_any (v : Value) (L : List Nat) (x : Nat) (w : World) (hr : Rises L) (hl : L.length ≤ 1000) (hv : RowI w v L) :
    Calls Tryd.prog 114 #[v, .int .i64 x] w fun e w' => e = .returned (.tuple #[.int .i64 (L.countP (· < x) : Nat), .bool (decide (x ∈ L))]) ∧ ∃ q, w' = w.drewN q := by
  obtain ⟨ao, cap, rfl⟩ := hv.form
  by_cases hL : L = []
  · subst hL
    refine (Any.slices_BinarySearch_int_empty Tryd.laysBs ao cap x w).mono ?_
    rintro _ _ ⟨rfl, rfl⟩
    exact ⟨by simp, 0, rfl⟩
  · obtain ⟨y, hy⟩ : ∃ y, L[0]? = some y := ⟨_, List.getElem?_eq_getElem (List.length_pos_iff.2 hL)⟩
    obtain ⟨b, off, rfl, hb, _⟩ := hv.csI hy
    have hm : ((L.map fun (x : Nat) => (x : Int)).take L.length) = L.map fun (x : Nat) => (x : Int) := by rw [List.take_of_length_le (by simp)]
    refine (Any.slices_BinarySearch_int Tryd.laysBs b off L.length cap (L.map fun (x : Nat) => (x : Int)) x w (by simp) (by omega) (fun j hj => ?_) ?_).mono ?_
    · rw [List.length_map] at hj
      obtain ⟨b', off', e, _, hc⟩ := hv.csI (List.getElem?_eq_getElem hj)
      injection e with e
      injection e with e1 e2
      subst e1 e2
      rw [hc, List.getD_eq_getElem?_getD, List.getElem?_map, List.getElem?_eq_getElem hj]
      rfl
    · rw [hm, List.pairwise_map]
      exact hr.imp fun h => by omega
    · rintro _ _ ⟨rfl, h⟩
      refine ⟨?_, h⟩
      rw [hm, List.countP_map]
      have e1 : L.countP ((fun y : Int => decide (y < (x : Int))) ∘ fun (x : Nat) => (x : Int)) = L.countP (· < x) := by
        congr 1
        funext y
        simp
      have e2 : (L.map fun (x : Nat) => (x : Int)).contains (x : Int) = decide (x ∈ L) := by
        rw [List.contains_eq_mem]
        congr 1
        simp only [List.mem_map, eq_iff_iff]
        constructor
        · rintro ⟨a, h1, h2⟩
          have : a = x := by omega
          exact this ▸ h1
        · intro h1; exact ⟨x, h1, rfl⟩
      rw [e1, e2]

/-- Cells put one behind the other. -/
def putC (cs : Array Value) : Nat → List Value → Array Value
  | _, [] => cs
  | o, v :: r => putC (cs.setIfInBounds o v) (o + 1) r
theorem putC_size : ∀ (vs : List Value) (o : Nat) (cs : Array Value), (putC cs o vs).size = cs.size
  | [], _, _ => rfl
  | v :: r, o, cs => by rw [putC, putC_size r]; simp
theorem putC_at : ∀ (vs : List Value) (o : Nat) (cs : Array Value), o + vs.length ≤ cs.size → ∀ k, (putC cs o vs)[k]? = if o ≤ k ∧ k < o + vs.length then vs[k - o]? else cs[k]?
  | [], o, cs, _, k => by rw [putC, if_neg (fun h => by simp at h; omega)]
  | v :: r, o, cs, h, k => by
    rw [putC, putC_at r (o + 1) _ (by simp at h ⊢; omega)]
    simp only [List.length_cons] at h ⊢
    by_cases c : k = o
    · subst c
      rw [if_neg (by omega), if_pos (by omega), Nat.sub_self, Array.getElem?_setIfInBounds]
      simp
      omega
    · by_cases d : o ≤ k ∧ k < o + (r.length + 1)
      · rw [if_pos (by omega), if_pos d]
        have : k - o = (k - (o + 1)) + 1 := by omega
        rw [this, List.getElem?_cons_succ]
      · rw [if_neg (by omega), if_neg d, Array.getElem?_setIfInBounds, if_neg (fun e => c e.symm)]
theorem heap_setCells {g : Nat} {t : TypeId} : ∀ (vs : List Value) (o : Nat) (w : World) (cs : Array Value), Blk w g cs t → Blk (w.setCells g o vs) g (putC cs o vs) t
  | [], _, _, _, h => h
  | v :: r, o, w, cs, h => by rw [World.setCells, putC]; exact heap_setCells r (o + 1) _ _ (h.set o v)
theorem heap_setCells_ne {g : Nat} : ∀ (vs : List Value) (o : Nat) (w : World) {k : Nat}, k ≠ g → (w.setCells g o vs).heap[k]? = w.heap[k]?
  | [], _, _, _, _ => rfl
  | v :: r, o, w, k, h => by rw [World.setCells, heap_setCells_ne r (o + 1) _ h]; exact Below.heap_setCell _ _ _ _ h
theorem size_setCells {g : Nat} : ∀ (vs : List Value) (o : Nat) (w : World), (w.setCells g o vs).heap.size = w.heap.size
  | [], _, _ => rfl
  | v :: r, o, w => by rw [World.setCells, size_setCells r]; simp
theorem grown_setCells {g : Nat} (vs : List Value) (o : Nat) (w : World) : w.grownBy (w.setCells g o vs) (some g) ∧ (w.setCells g o vs).drawn = w.drawn := by
  induction vs generalizing o w with
  | nil => exact ⟨⟨rfl, rfl, rfl, Nat.le_refl _, fun _ _ _ => rfl⟩, rfl⟩
  | cons v r ih =>
    obtain ⟨h, hd⟩ := ih (o + 1) (w.setCell ⟨g, o, none⟩ v)
    have e := (Below.refl 0 w).setCell (p := ⟨g, o, none⟩) (Nat.zero_le _) v
    refine ⟨⟨h.os.trans e.os, h.tape.trans e.tape, h.output.trans e.output, Nat.le_trans e.size h.size, fun k hk hne => ?_⟩, hd⟩
    rw [World.setCells, heap_setCells_ne _ _ _ (fun e => hne (by rw [e]))]
    exact Below.heap_setCell _ _ _ _ (fun e => hne (by rw [e]))

theorem grown_draw {w w' : World} {row : Option Nat} (h : w.drew.grownBy w' row) : w.grownBy w' row := ⟨h.os, h.tape, h.output, h.size, h.block⟩

/-- What comes of an insertion. -/
def PostN (base : Nat) (w : World) (v : Value) (L : List Nat) (e : Ending) (w' : World) : Prop :=
  ∃ v', e = .returned v' ∧ OwnI base w' v' L ∧ w.grownBy w' v.ownBlock ∧ w.drawn ≤ w'.drawn ∧ (v'.ownBlock = v.ownBlock ∨ ∃ g, w.heap.size ≤ g ∧ v'.ownBlock = some g)

theorem own_of_blk {base : Nat} {w : World} {g n cap : Nat} {cur : Array Value} {L : List Nat} (hb : base ≤ g) (h : Blk w g cur 3) (hn : L.length = n) (hc : n ≤ cap) (hm : cap ≤ maxLen) (hs : cur.size = cap) (ht : ∀ k, k < n → cur[k]? = (L.map fun (x : Nat) => Value.int .i64 (x : Int))[k]?) : OwnI base w (.slice (some ⟨g, 0, none⟩) n cap) L := by
  subst hn
  refine ⟨by rw [cellsI]; simp, .inr ⟨g, cap, cur, rfl, hb, h, hc, hm, by omega, ?_⟩⟩
  rw [cellsI]
  apply List.ext_getElem?
  intro k
  by_cases hk : k < L.length
  · rw [List.getElem?_take_of_lt (by omega), Array.getElem?_toList, ht k hk]
  · rw [List.getElem?_eq_none (by simp; omega), List.getElem?_eq_none (by simp; omega)]

theorem insL_at (L : List Nat) {i : Nat} (x : Nat) (h : i ≤ L.length) (k : Nat) : (insL L i x)[k]? = if k < i then L[k]? else if k = i then some x else L[k - 1]? := by
  unfold insL
  have hl : (L.take i).length = i := by rw [List.length_take]; omega
  by_cases c : k < i
  · rw [if_pos c, List.getElem?_append_left (by omega), List.getElem?_take_of_lt c]
  · rw [if_neg c, List.getElem?_append_right (by omega), hl]
    by_cases d : k = i
    · rw [if_pos d, d, Nat.sub_self]; rfl
    · rw [if_neg d]
      have : k - i = (k - i - 1) + 1 := by omega
      rw [this, List.getElem?_cons_succ, List.getElem?_drop]
      congr 1
      omega

set_option maxHeartbeats 2000000 in
theorem ins_any (base : Nat) (v : Value) (L : List Nat) (x i vb : Nat) (w : World) (hi : i ≤ L.length) (hl : L.length ≤ 1000) (hb : base ≤ w.heap.size) (hv : OwnI base w v L) (hx : Blk w vb #[.int .i64 x] 3) (hne : v.ownBlock ≠ some vb) :
    Calls Tryd.prog 115 #[v, .int .i64 i, .slice (some ⟨vb, 0, none⟩) 1 1] w fun e w' => PostN base w v (insL L i x) e w' := by
  have hvs : ∀ j u, [Value.int .i64 (x : Int)][j]? = some u → w.cell? ⟨vb, 0 + j, none⟩ = some u := fun j u hj => by
    rw [Nat.zero_add, hx.c]; simpa using hj
  have h1v : ∀ u ∈ [Value.int .i64 (x : Int)], u.oneCell' = true := fun u hu => by simp at hu; subst hu; rfl
  have hml : maxLen = 9223372036854775807 := rfl
  rcases hv.2 with ⟨rfl, h0⟩ | ⟨g, cap, cur, rfl, hg, hgc, hn, hm, hs, ht⟩
  · have hL : L = [] := List.length_eq_zero_iff.1 h0
    subst hL
    have hi0 : i = 0 := by simpa using hi
    subst hi0
    refine (Any2.slices_Insert_int_end_grow Tryd.laysIns none 0 0 vb 0 1 1 [] [Value.int .i64 x] w (by omega) (by omega) (by omega) (by omega) rfl rfl (fun _ => rfl) (fun a h => by cases h) hvs h1v).mono ?_
    rintro _ _ ⟨rfl, rfl⟩
    have hcap := grownCap_ge w (0 + 1) 0 3
    have hcm := grownCap_le_maxLen w (0 + 1) 0 3 (by omega)
    have hz : (Value.int .i64 0).cells.size = 1 := rfl
    have e3 : (Tryd.int_ren.t 3) = 3 := rfl
    rw [e3]
    generalize grownCap w (0 + 1) 0 3 = G at *
    refine ⟨_, rfl, own_of_blk (cap := G) hb (Blk.new w.drew _ _) rfl hcap hcm ?_ ?_, ?_, ?_, Or.inr ⟨_, Nat.le_refl _, rfl⟩⟩
    · simp [Builtin.zeroCells, hz]
      omega
    · intro k hk
      have : k = 0 := by omega
      subst this
      rw [Array.getElem?_append_left (by simp)]
      simp [insL]
    · exact grown_draw (World.grownBy_alloc w.drew _ _)
    · exact Nat.le_succ _
  have hcl : cur.size = cap := by omega
  have hcur : ∀ (k y : Nat), L[k]? = some y → cur[k]? = some (Value.int .i64 (y : Int)) := fun k y hk => by
    have hkl := (List.getElem?_eq_some_iff.1 hk).1
    have : (cur.toList.take (L.length * 1))[k]? = (cellsOf encI L)[k]? := by rw [ht]
    rw [List.getElem?_take_of_lt (by omega), Array.getElem?_toList, cellsI, List.getElem?_map, hk] at this
    exact this
  have HB : Blk w g cur 3 := hgc
  have hcs : ∀ (off : Nat) j u, (L.map fun (x : Nat) => Value.int .i64 (x : Int))[j]? = some u → w.cell? ⟨g, 0 + j, none⟩ = some u := fun _ j u hj => by
    rw [List.getElem?_map] at hj
    cases hk : L[j]? with
    | none => rw [hk] at hj; cases hj
    | some y =>
      rw [hk] at hj
      injection hj with hj
      rw [Nat.zero_add, HB.c, ← hj]
      exact hcur j y hk
  have hgv : vb ≠ g := fun e => hne (by rw [e]; rfl)
  have hsome : ∀ j, j < cap → (w.cell? ⟨g, 0 + j, none⟩).isSome = true := fun j hj => by
    rw [Nat.zero_add, HB.c, Array.getElem?_eq_getElem (by omega)]; rfl
  have hlm : (L.map fun (x : Nat) => Value.int .i64 (x : Int)).length = L.length := List.length_map _
  have h1c : ∀ u ∈ (L.map fun (x : Nat) => Value.int .i64 (x : Int)), u.oneCell' = true := fun u hu => by
    obtain ⟨y, _, rfl⟩ := List.mem_map.1 hu; rfl
  by_cases room : L.length + 1 ≤ cap
  · by_cases hend : i = L.length
    · subst hend
      refine (Any2.slices_Insert_int_end_room Tryd.laysIns g 0 L.length cap vb 0 1 1 [Value.int .i64 x] w (by omega) room (by omega) rfl (fun j hj => by rw [Nat.add_assoc]; exact hsome _ (by omega)) (fun j _ => by rw [HB.frozen]) hvs h1v).mono ?_
      rintro _ _ ⟨rfl, rfl⟩
      obtain ⟨gr, gd⟩ := grown_setCells (g := g) [.int .i64 x] (0 + L.length) w
      refine ⟨_, rfl, own_of_blk hg (heap_setCells _ _ _ _ HB) (insL_len L x (Nat.le_refl _)) room hm (by rw [putC_size, hcl]) ?_, gr, by rw [gd]; exact Nat.le_refl _, Or.inl rfl⟩
      intro k hk
      rw [putC_at _ _ _ (by simp; omega), List.getElem?_map, insL_at L x (Nat.le_refl _)]
      by_cases c : k < L.length
      · rw [if_neg (by simp; omega), if_pos c]
        obtain ⟨y, hy⟩ : ∃ y, L[k]? = some y := ⟨_, List.getElem?_eq_getElem c⟩
        rw [hcur k y hy, hy]; rfl
      · have : k = L.length := by omega
        subst this
        rw [if_pos (by simp), if_neg (by omega), if_pos rfl]
        simp
    · have hil : i < L.length := by omega
      refine (Any2.slices_Insert_int_shift Tryd.laysIns g 0 L.length cap i vb 0 1 1 (L.map fun (x : Nat) => Value.int .i64 (x : Int)) [Value.int .i64 x] w hil (by omega) room (by omega) hgv hlm rfl (hcs 0) (fun j hj => hsome j (by omega)) (fun j _ => by rw [HB.frozen]) hvs h1c h1v 3 3 1 cap
        (by unfold World.shape?; have := hx; unfold Blk at this; rw [this]; rfl) (by unfold World.shape?; rw [hgc]; simp [hcl]) (by omega) (hx.frozen _) (hx.frozen _)).mono ?_
      rintro _ _ ⟨rfl, rfl⟩
      obtain ⟨g1, d1⟩ := grown_setCells (g := g) ((L.map fun (x : Nat) => Value.int .i64 (x : Int)).drop i) (0 + (i + 1)) w.drew
      obtain ⟨g2, d2⟩ := grown_setCells (g := g) [.int .i64 x] (0 + i) (w.drew.setCells g (0 + (i + 1)) ((L.map fun (x : Nat) => Value.int .i64 (x : Int)).drop i))
      have HB1 : Blk w.drew g cur 3 := HB
      have HB2 := heap_setCells ((L.map fun (x : Nat) => Value.int .i64 (x : Int)).drop i) (0 + (i + 1)) _ _ HB1
      refine ⟨_, rfl, own_of_blk hg (heap_setCells [.int .i64 x] (0 + i) _ _ HB2) (insL_len L x hi) room hm (by rw [putC_size, putC_size, hcl]) ?_, ?_, ?_, Or.inl rfl⟩
      · intro k hk
        rw [putC_at _ _ _ (by rw [putC_size]; simp; omega), putC_at _ _ _ (by simp; omega), List.getElem?_map, insL_at L x hi, List.length_drop, hlm]
        simp only [List.length_cons, List.length_nil, Nat.zero_add]
        by_cases c : k < i
        · rw [if_neg (by omega), if_neg (by omega), if_pos c]
          obtain ⟨y, hy⟩ : ∃ y, L[k]? = some y := ⟨_, List.getElem?_eq_getElem (by omega)⟩
          rw [hcur k y hy, hy]; rfl
        · by_cases d : k = i
          · subst d
            rw [if_pos (by omega), if_neg c, if_pos rfl]
            simp
          · rw [if_neg (by omega), if_pos (by omega), if_neg c, if_neg d, List.getElem?_drop, List.getElem?_map]
            congr 2
            omega
      · have g0 : w.grownBy w.drew (some g) := ⟨rfl, rfl, rfl, Nat.le_refl _, fun _ _ _ => rfl⟩
        exact (World.grownBy.trans (World.grownBy.trans g0 g1) g2)
      · rw [d2, d1]; exact Nat.le_succ _
  · by_cases hend : i = L.length
    · subst hend
      refine (Any2.slices_Insert_int_end_grow Tryd.laysIns (some ⟨g, 0, none⟩) L.length cap vb 0 1 1 (L.map fun (x : Nat) => Value.int .i64 (x : Int)) [Value.int .i64 x] w (by omega) hn (by omega) (by omega) hlm rfl (fun h => by cases h) (fun a ha j u hj => by
          injection ha with ha
          subst ha
          have := hcs 0 j u hj
          rw [add_none]; exact this) hvs h1v).mono ?_
      rintro _ _ ⟨rfl, rfl⟩
      have hcap := grownCap_ge w (L.length + 1) cap 3
      have hcm := grownCap_le_maxLen w (L.length + 1) cap 3 (by omega)
      have hz : (Value.int .i64 0).cells.size = 1 := rfl
      have e3 : (Tryd.int_ren.t 3) = 3 := rfl
      rw [e3]
      generalize grownCap w (L.length + 1) cap 3 = G at *
      refine ⟨_, rfl, own_of_blk (cap := G) hb (Blk.new w.drew _ _) (insL_len L x (Nat.le_refl _)) hcap hcm ?_ ?_, ?_, ?_, Or.inr ⟨_, Nat.le_refl _, rfl⟩⟩
      · simp [Builtin.zeroCells, hz]
        omega
      · intro k hk
        rw [Array.getElem?_append_left (by simp; omega), List.getElem?_toArray, List.getElem?_map, insL_at L x (Nat.le_refl _)]
        by_cases c : k < L.length
        · rw [List.getElem?_append_left (by simp; omega), if_pos c, List.getElem?_map]
        · have : k = L.length := by omega
          subst this
          rw [List.getElem?_append_right (by simp), if_neg (by omega), if_pos rfl]
          simp
      · exact grown_draw (World.grownBy_alloc w.drew _ _)
      · exact Nat.le_succ _
    · have hil : i < L.length := by omega
      refine (Any2.slices_Insert_int_grow Tryd.laysIns g 0 L.length cap i vb 0 1 1 (L.map fun (x : Nat) => Value.int .i64 (x : Int)) [Value.int .i64 x] w hil (by omega) hn (by omega) (by omega) hlm rfl (hcs 0) hvs h1c h1v).mono ?_
      rintro _ _ ⟨rfl, rfl⟩
      have hcap := grownCap_ge w (L.length + 1) cap 3
      have hcm := grownCap_le_maxLen w (L.length + 1) cap 3 (by omega)
      have hz : (Value.int .i64 0).cells.size = 1 := rfl
      have e3 : (Tryd.int_ren.t 3) = 3 := rfl
      rw [e3]
      generalize grownCap w (L.length + 1) cap 3 = G at *
      generalize hA : ((L.map fun (x : Nat) => Value.int .i64 (x : Int)).take i).toArray ++ Builtin.zeroCells (Value.int .i64 0).cells (L.length + 1 - i) ++ Builtin.zeroCells (Value.int .i64 0).cells (G - (L.length + 1)) = A
      have hAs : A.size = G := by
        rw [← hA]
        simp [Builtin.zeroCells, hz]
        omega
      have hAt : ∀ k, k < i → A[k]? = (L.map fun (x : Nat) => Value.int .i64 (x : Int))[k]? := fun k hk => by
        rw [← hA, Array.getElem?_append_left (by simp [Builtin.zeroCells, hz]; omega), Array.getElem?_append_left (by simp; omega), List.getElem?_toArray, List.getElem?_take_of_lt hk]
      have HA : Blk (w.alloc (.cells A 3)).drew w.heap.size A 3 := Blk.new w _ _
      have HA1 := heap_setCells [.int .i64 x] i _ _ HA
      have HA2 : Blk ((w.alloc (.cells A 3)).drew.setCells w.heap.size i [.int .i64 x]).drew w.heap.size (putC A i [.int .i64 x]) 3 := HA1
      have HA3 := heap_setCells ((L.map fun (x : Nat) => Value.int .i64 (x : Int)).drop i) (i + 1) _ _ HA2
      refine ⟨_, rfl, own_of_blk hb HA3 (insL_len L x hi) hcap hcm (by rw [putC_size, putC_size, hAs]) ?_, ?_, ?_, Or.inr ⟨_, Nat.le_refl _, rfl⟩⟩
      · intro k hk
        rw [putC_at _ _ _ (by rw [putC_size]; simp; omega), putC_at _ _ _ (by simp; omega), List.getElem?_map, insL_at L x hi, List.length_drop, hlm]
        simp only [List.length_cons, List.length_nil, Nat.zero_add]
        by_cases c : k < i
        · rw [if_neg (by omega), if_neg (by omega), if_pos c, hAt k c, List.getElem?_map]
        · by_cases d : k = i
          · subst d
            rw [if_neg (by omega), if_pos (by omega), if_neg c, if_pos rfl]
            simp
          · rw [if_pos (by omega), if_neg c, if_neg d, List.getElem?_drop, List.getElem?_map]
            congr 2
            omega
      · refine ⟨?_, ?_, ?_, ?_, fun k hk _ => ?_⟩
        · exact (grown_setCells _ _ _).1.os.trans ((grown_setCells _ _ _).1.os)
        · exact (grown_setCells _ _ _).1.tape.trans ((grown_setCells _ _ _).1.tape)
        · exact (grown_setCells _ _ _).1.output.trans ((grown_setCells _ _ _).1.output)
        · rw [size_setCells]
          show w.heap.size ≤ ((w.alloc (.cells A 3)).drew.setCells w.heap.size i [.int .i64 x]).heap.size
          rw [size_setCells]
          show w.heap.size ≤ (w.alloc (.cells A 3)).heap.size
          simp
        · rw [heap_setCells_ne _ _ _ (by omega)]
          show ((w.alloc (.cells A 3)).drew.setCells w.heap.size i [.int .i64 x]).heap[k]? = _
          rw [heap_setCells_ne _ _ _ (by omega)]
          exact Below.heap_alloc _ _ _ hk
      · rw [(grown_setCells _ _ _).2]
        show w.drawn ≤ ((w.alloc (.cells A 3)).drew.setCells w.heap.size i [.int .i64 x]).drawn + 1
        rw [(grown_setCells _ _ _).2]
        show w.drawn ≤ w.drawn + 1 + 1
        omega

set_option maxHeartbeats 2000000 in
theorem put_any (base : Nat) (v : Value) (L : List Nat) (x : Nat) (w : World) (hr : Rises L) (hl : L.length ≤ 1000) (hb : base ≤ w.heap.size) (hv : OwnI base w v L) :
    Calls Tryd.prog 102 #[v, .int .i64 x] w fun e w' => PostN base w v (insR L x) e w' := by
  obtain ⟨i, hi⟩ : ∃ i, i = L.countP (· < x) := ⟨_, rfl⟩
  have hil : i ≤ L.length := by rw [hi]; exact countP_le_len L x
  have kb := bs_any v L x w hr hl (hv.row encI_len)
  rw [← hi] at kb
  have ki := fun q => ins_any base v L x i w.heap.size ((w.drewN q).alloc (.cells #[.int .i64 x] 3)) hil hl (by simp; omega) (hv.alloc _) (Blk.new (w.drewN q) _ _) (hv.notAt (Nat.le_refl _))
  by_cases hx : x ∈ L
  · have e : insR L x = L := if_pos hx
    rw [e]
    simp only [hx, decide_true] at kb
    have HV : Hid (OwnI base w v L) := hv
    clear hv ki hr hx e
    go_enter Tryd.func102, Tryd.ntmps102
    go_wp2_with (go_at_call 114; refine kb.mono ?_; rintro _ w2 ⟨rfl, q, rfl⟩)
    go_ret
    exact ⟨v, rfl, HV.out, ⟨rfl, rfl, rfl, Nat.le_refl _, fun _ _ _ => rfl⟩, Nat.le_add_right _ _, Or.inl rfl⟩
  · have e : insR L x = insL L i x := by rw [hi]; exact if_neg hx
    rw [e]
    simp only [hx, decide_false] at kb
    clear hv hr hx e hi
    go_enter Tryd.func102, Tryd.ntmps102
    go_wp2_with (first
      | (go_at_call 114; refine kb.mono ?_; rintro _ w2 ⟨rfl, q, rfl⟩)
      | (go_at_call 115; refine (ki q).mono ?_; rintro _ w3 ⟨v', rfl, o3, g3, d3, b3⟩))
    go_ret
    refine ⟨v', rfl, o3, ?_, ?_, ?_⟩
    · have hs := g3.size
      refine ⟨g3.os, g3.tape, g3.output, by simp at hs; omega, fun k hk hne => ?_⟩
      rw [g3.block k (by simp; omega) hne]
      exact Below.heap_alloc _ _ _ hk
    · exact Nat.le_trans (Nat.le_add_right _ _) d3
    · rcases b3 with b3 | ⟨g, h1, h2⟩
      · exact Or.inl b3
      · exact Or.inr ⟨g, by simp at h1; omega, h2⟩

end Go.Proofs.YtjjlkjfhhpogaaaDoor
