/-
  What the law RouteCanon makes between its calls: new blocks, rows of its own.
-/
import Derived.Test.YtaaaccgakahapaaAlv
import Derived.Test.YtaaaccgakahapaaW15
namespace Go.Proofs.Ytaaaccgakahapaa
open Go.RowKit

/-- The cells of a route with nothing in it. -/
abbrev zc : Array Value := #[.int .u32 0, .int .i64 0, .slice none 0 0, .slice none 0 0, .int .u32 0, .int .u32 0, .int .i64 0, .int .u32 0]

/-- Since W4: nothing of it has turned; these new blocks hold a route with nothing in it; these rows are new, too, and lie in none of those. -/
structure Md (W4 W : World) (ps : List Nat) (us : List (Value × List Int)) : Prop where
  b : Below W4.heap.size W4 W
  z : ∀ p ∈ ps, BlkR W p zeroR nilV nilV ∧ W4.heap.size ≤ p
  o : ∀ q ∈ us, Own1 W4.heap.size W q.1 q.2 ∧ ∀ p ∈ ps, q.1.ownBlock ≠ some p
  nd : ps.Nodup

theorem Md.start (W4 : World) : Md W4 W4.drew [] [] := ⟨below_drewN (Below.refl _ _) 1, (fun p hp => by cases hp), (fun q hq => by cases hq), List.nodup_nil⟩

theorem Md.bel {W4 W W' : World} {ps : List Nat} {us : List (Value × List Int)} (h : Md W4 W ps us) (hB : Below W.heap.size W W') : Md W4 W' ps us :=
  ⟨h.b.trans (hB.mono h.b.size), fun p hp => ⟨(h.z p hp).1.bel hB, (h.z p hp).2⟩, fun q hq => ⟨(h.o q hq).1.bel hB, (h.o q hq).2⟩, h.nd⟩

theorem Md.alloc {W4 W : World} {ps : List Nat} {us : List (Value × List Int)} (h : Md W4 W ps us) : Md W4 (W.alloc (.cells zc 27)) (W.heap.size :: ps) us := by
  have h' := h.bel ((Below.refl _ _).alloc (Nat.le_refl _) (.cells zc 27))
  refine ⟨h'.b, fun p hp => ?_, fun q hq => ⟨(h'.o q hq).1, fun p hp => ?_⟩, List.nodup_cons.2 ⟨fun hp => ?_, h.nd⟩⟩
  · rcases List.mem_cons.1 hp with rfl | hp
    · exact ⟨BlkR.new W zeroR nilV nilV, h.b.size⟩
    · exact h'.z p hp
  · rcases List.mem_cons.1 hp with rfl | hp
    · exact fun e => by have := ((h.o q hq).1.lt e).2; omega
    · exact (h'.o q hq).2 p hp
  · have := (h.z _ hp).1.lt
    omega

theorem Md.add {W4 W W' : World} {ps : List Nat} {us : List (Value × List Int)} (h : Md W4 W ps us) (hB : Below W.heap.size W W') {v v' : Value} {l l' : List Int} (o : Own1 W.heap.size W' v l) (o' : Own1 W.heap.size W' v' l') : Md W4 W' ps ((v, l) :: (v', l') :: us) := by
  have h' := h.bel hB
  refine ⟨h'.b, h'.z, fun q hq => ?_, h.nd⟩
  have key : ∀ v l, Own1 W.heap.size W' v l → Own1 W4.heap.size W' v l ∧ ∀ p ∈ ps, v.ownBlock ≠ some p := fun v l o => ⟨o.lower h.b.size, fun p hp e => by
    have := (o.lt e).1
    have := (h.z p hp).1.lt
    omega⟩
  rcases List.mem_cons.1 hq with rfl | hq
  · exact key _ _ o
  · rcases List.mem_cons.1 hq with rfl | hq
    · exact key _ _ o'
    · exact h'.o q hq

/-- Behind the two stores. -/
theorem Md.put {W4 V : World} {ps : List Nat} {us : List (Value × List Int)} (h : Md W4 V ps us) {p q : Nat} (hp : p ∈ ps) (hq : q ∈ ps) (hne : p ≠ q) (x y : Rt) (u v u' v' : Value) :
    Below W4.heap.size W4 (put8 (put8 V p x u v) q y u' v') ∧ BlkR (put8 (put8 V p x u v) q y u' v') p x u v ∧ BlkR (put8 (put8 V p x u v) q y u' v') q y u' v' ∧ ∀ r ∈ us, Own1 W4.heap.size (put8 (put8 V p x u v) q y u' v') r.1 r.2 :=
  ⟨below_put8 (below_put8 h.b (h.z p hp).2 _ _ _) (h.z q hq).2 _ _ _, blkR_put8_other (blkR_put8 (h.z p hp).1 _ _ _) hne _ _ _, blkR_put8 (blkR_put8_other (h.z q hq).1 (Ne.symm hne) _ _ _) _ _ _,
    fun r hr => own_put8Apart (own_put8Apart (h.o r hr).1 ((h.o r hr).2 p hp) _ _ _) ((h.o r hr).2 q hq) _ _ _⟩

theorem setCell_alloc_old (w : World) (o : Obj) (b j : Nat) (hb : b < w.heap.size) (z : Value) : (w.alloc o).setCell ⟨b, j, none⟩ z = (w.setCell ⟨b, j, none⟩ z).alloc o := by
  exact World.setCell_alloc_past o b j z hb

theorem put8_old (w : World) (o : Obj) (b : Nat) (hb : b < w.heap.size) (y : Rt) (u v : Value) : put8 (w.alloc o) b y u v = (put8 w b y u v).alloc o := by
  unfold put8
  rw [setCell_alloc_old _ _ _ _ (by exact hb), setCell_alloc_old _ _ _ _ (by simpa using hb), setCell_alloc_old _ _ _ _ (by simpa using hb), setCell_alloc_old _ _ _ _ (by simpa using hb), setCell_alloc_old _ _ _ _ (by simpa using hb), setCell_alloc_old _ _ _ _ (by simpa using hb), setCell_alloc_old _ _ _ _ (by simpa using hb), setCell_alloc_old _ _ _ _ (by simpa using hb)]

theorem put8_new (w : World) (b : Nat) (hb : b = w.heap.size) (y : Rt) (u v : Value) : put8 (w.alloc (.cells zc 27)) b y u v = w.alloc (.cells (rcells y u v) 27) := by
  subst hb
  unfold put8
  simp [go_sem]

theorem put8_size (w : World) (b : Nat) (y : Rt) (u v : Value) : (put8 w b y u v).heap.size = w.heap.size := by simp

/-- The call of Canon. -/
theorem md_canon {W4 W : World} {ps : List Nat} {us : List (Value × List Int)} (h : Md W4 W ps us) (x : Rt) (u v : Value) (hx : Num x.addr) (hp : x.path.length ≤ 1000) (hc : x.comms.length ≤ 1000) (rx : Rts W4 x u v) :
    Calls Try.prog 15 #[rv x u v] W fun e w' => ∃ a5 c5 a6 c6 r, e = .returned (.agg #[.int .u32 (maskA x.addr x.len), .int .i64 (clampL x.len), .slice a5 x.path.length c5, .slice a6 r.length c6, .int .u32 x.pref, .int .u32 x.med, .int .i64 x.origin, .int .u32 x.hop]) ∧ IsSet x.comms r ∧ r.length ≤ x.comms.length ∧ Md W4 w' ps ((.slice a5 x.path.length c5, x.path) :: (.slice a6 r.length c6, r) :: us) := by
  refine (canon_any x u v W hx (by omega) (by omega) (rx.bel h.b)).mono ?_
  rintro e w' ⟨u', v', B, r, he, hset, hrl, o1, o2, hB, _, B'⟩
  obtain ⟨a5, c5, rfl⟩ := o1.form
  obtain ⟨a6, c6, rfl⟩ := o2.form
  exact ⟨a5, c5, a6, c6, r, he, hset, hrl, h.add B' o1 (o2.lower hB)⟩

/-- The call of Copy. -/
theorem md_copy {W4 W : World} {ps : List Nat} {us : List (Value × List Int)} (h : Md W4 W ps us) (x : Rt) (u v : Value) (hp : x.path.length ≤ 1000) (hc : x.comms.length ≤ 1000) (rx : Rts W4 x u v) :
    Calls Try.prog 16 #[rv x u v] W fun e w' => ∃ a7 c7 a8 c8, e = .returned (.agg #[.int .u32 x.addr, .int .i64 x.len, .slice a7 x.path.length c7, .slice a8 x.comms.length c8, .int .u32 x.pref, .int .u32 x.med, .int .i64 x.origin, .int .u32 x.hop]) ∧ Md W4 w' ps ((.slice a7 x.path.length c7, x.path) :: (.slice a8 x.comms.length c8, x.comms) :: us) := by
  refine (copy_any x u v W (by omega) (by omega) (rx.bel h.b)).mono ?_
  rintro e w' ⟨u', v', B, he, o1, o2, hB, _, B'⟩
  obtain ⟨a7, c7, rfl⟩ := o1.form
  obtain ⟨a8, c8, rfl⟩ := o2.form
  exact ⟨a7, c7, a8, c8, he, h.add B' o1 (o2.lower hB)⟩

/-- A row of so many numbers of the call's own. -/
def Nm (base : Nat) (w : World) (v : Value) (n : Nat) : Prop := ∃ l : List Int, l.length = n ∧ Own1 base w v l

theorem Nm.form {base : Nat} {w : World} {v : Value} {n : Nat} (h : Nm base w v n) : ∃ a c, v = .slice a n c := by
  obtain ⟨l, rfl, h⟩ := h
  exact h.form

/-- It stays one, whatever number is stored wherever. -/
theorem Nm.set {base : Nat} {w : World} {v : Value} {n : Nat} (h : Nm base w v n) (g j : Nat) (z : Int) : Nm base (w.setCell ⟨g, j, none⟩ (.int .u32 z)) v n := by
  obtain ⟨l, hl, h⟩ := h
  by_cases e : v.ownBlock = some g
  · rcases h.2 with ⟨rfl, h0⟩ | ⟨g', cap, cur, rfl, _⟩
    · cases e
    · injection e with e
      simp only at e
      subst e
      exact ⟨l.set j z, by simpa using hl, h.set j z⟩
  · exact ⟨l, hl, h.setApart e _⟩

/-- Several of them. -/
def Nms (base : Nat) (w : World) (ss : List (Value × Nat)) : Prop := ∀ s ∈ ss, Nm base w s.1 s.2 ∧ s.2 ≤ 1000
theorem Nms.set {base : Nat} {w : World} {ss : List (Value × Nat)} (h : Nms base w ss) (g j : Nat) (z : Int) : Nms base (w.setCell ⟨g, j, none⟩ (.int .u32 z)) ss := fun s hs => ⟨(h s hs).1.set g j z, (h s hs).2⟩
theorem Nms.bel {base : Nat} {w w' : World} {ss : List (Value × Nat)} (h : Nms base w ss) (hB : Below w.heap.size w w') : Nms base w' ss := fun s hs => by
  obtain ⟨⟨l, hl, ho⟩, hn⟩ := h s hs
  exact ⟨⟨l, hl, ho.bel hB⟩, hn⟩

theorem index4 (s0 s1 s2 s3 : Value) (k : Nat) (z : Value) (w : World) (h : [s0, s1, s2, s3][k]? = some z) :
    (Instr.index 33 (.agg #[s0, s1, s2, s3]) (.int .i64 k)).run Try.prog w = .ok z w := by
  obtain ⟨hk, hz⟩ := List.getElem?_eq_some_iff.1 h
  have hk4 : k < 4 := by simpa using hk
  have hu : Try.prog.underlying 33 = some (.array 4 25) := Try.underlying33
  have hz3 := Try.sizeOf25
  have h4 : k = 0 ∨ k = 1 ∨ k = 2 ∨ k = 3 := by omega
  subst hz
  rcases h4 with rfl | rfl | rfl | rfl <;> simp [Instr.index, run_underlying hu, asIntOf, go_sem, hz3]
end Go.Proofs.Ytaaaccgakahapaa
