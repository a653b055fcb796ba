/-
  Walks: kept, single, again, one, Any.
-/
import Derived.Test.YtihnmamejfoeeaaDoorRa2
namespace Go.Proofs.YtihnmamejfoeeaaDoor
open Go.RowKit

theorem okL_of : ∀ {ts : List Tree}, (∀ t ∈ ts, okT t) → okL ts
  | [], _ => okL_nil.2 trivial
  | t :: ts, h => (okL_cons _ _).2 ⟨h t (by simp), okL_of fun u hu => h u (by simp [hu])⟩
theorem ok_kinds (m : Nat) : ∀ t : Tree, size t ≤ m → size t ≤ 1000000 → kindsT t = true → okT t := by
  induction m with
  | zero => intro t h; have := size_pos t; omega
  | succ m ih =>
    intro t h1 h2 h3
    obtain ⟨k, set, subs⟩ := t
    rw [size_mk] at h1 h2
    rw [kindsT_mk] at h3
    simp only [Bool.and_eq_true] at h3
    have hlen := length_le_sizeL subs
    refine (okT_mk _ _ _).2 ⟨?_, by omega, okL_of fun t ht => ?_⟩
    · have := h3.1
      unfold okAlone at this
      split at this
      · simp at this; omega
      · split at this
        · simp at this; simp [this]
        · split at this
          · simp at this; simp [this]
          · cases this
    · obtain ⟨i, hi⟩ := List.mem_iff_getElem?.1 ht
      exact ih t (by have := size_le_of_at hi; omega) (by have := size_le_of_at hi; omega) (kindsT_of_at h3.2 hi)
theorem ok_right {t : Tree} (h : rightT t = true) : okT t := by
  obtain ⟨h1, _, h3⟩ := right_parts h
  exact ok_kinds _ t (Nat.le_refl _) (by omega) h3
theorem ok_list {k : Int} {ts : List Tree} (hl : ts.length ≤ 3000) (h : ∀ t ∈ ts, rightT t = true) : okT (.mk k [] ts) :=
  (okT_mk _ _ _).2 ⟨by simp, by omega, okL_of fun t ht => ok_right (h t ht)⟩
theorem ok_st {t : Tree} (h : rightT t = true) : okT (stT t) := ok_list (by simp) (by simp; exact h)
theorem ok_opt {t : Tree} (h : rightT t = true) : okT (optT t) := ok_list (by simp) (by simp; exact ⟨h, right_em⟩)

/-- A function's frame: its argument in its box, its result's cells. -/
structure KI (b : Nat) (s : ByteArray) (i : Nat) (wr ou fu : Bool) (w : World) (x : PC) (W : World) : Prop where
  bel : Below w.heap.size w W
  box : Blk W w.heap.size (encT x).toArray 25
  res : Blk W (w.heap.size + 1) (encT ⟨0, ⟨none, 0, 0⟩, ⟨none, 0, 0⟩⟩).toArray 25
theorem KI.go {b : Nat} {s : ByteArray} {i : Nat} {wr ou fu : Bool} {w : World} {x : PC} {W W' : World} (h : KI b s i wr ou fu w x W) (g : Below W.heap.size W W') : KI b s i wr ou fu w x W' := ⟨bstep h.bel g, h.box.bel g, h.res.bel g⟩

theorem set3_bel {w W : World} (h : Below w.heap.size w W) {g : Nat} (hg : w.heap.size ≤ g) (v0 v1 v2 : Value) : Below w.heap.size w (((W.setCell ⟨g, 0, none⟩ v0).setCell ⟨g, 1, none⟩ v1).setCell ⟨g, 2, none⟩ v2) :=
  ((h.setCell (by exact hg) _).setCell (by exact hg) _).setCell (by exact hg) _
theorem set3_ex {b : Nat} {w W : World} (h : Ex b w W) {g : Nat} (hg : w.heap.size ≤ g) (v0 v1 v2 : Value) : Ex b w (((W.setCell ⟨g, 0, none⟩ v0).setCell ⟨g, 1, none⟩ v1).setCell ⟨g, 2, none⟩ v2) :=
  ((h.setNew hg 0 v0).setNew hg 1 v1).setNew hg 2 v2
theorem Blk.set3 {W : World} {g q : Nat} {cs : Array Value} {t : TypeId} (h : Blk W g cs t) (hg : g ≠ q) (v0 v1 v2 : Value) : Blk (((W.setCell ⟨q, 0, none⟩ v0).setCell ⟨q, 1, none⟩ v1).setCell ⟨q, 2, none⟩ v2) g cs t :=
  ((h.other (p := ⟨q, 0, none⟩) hg _).other (p := ⟨q, 1, none⟩) hg _).other (p := ⟨q, 2, none⟩) hg _

set_option maxRecDepth 100000 in
set_option maxHeartbeats 1000000 in
theorem kept_any {P : Nat → Prop} {s : ByteArray} {b i : Nat} {wr ou fu : Bool} {t : Tree} {x : PC} {w : World} (hb : BlkR w b s i wr ou fu) (hok : okT t) (hP : ∀ g, P g → g < w.heap.size) (hx : HO P w t x) :
    Calls Tryd.prog 32 #[.pointer (some ⟨b, 0, none⟩), x.v] w fun e w' => ∃ r : PC, e = .returned r.v ∧ HO P w' (keptM t).1 r ∧ Ex b w w' ∧ BlkR w' b s i wr ou (fu || (keptM t).2) := by
  have HX : Hid (HO P w t x) := hx
  have HPp : Hid (∀ g, P g → g < w.heap.size) := hP
  have kr := fun W h => right_any t x W hok h
  have HB : Hid (BlkR w b s i wr ou fu) := hb
  have hlt := hb.lt
  have HK : Hid (keptM t = if rightT t = true then (t, false) else (emT, true)) := rfl
  obtain ⟨xk, ⟨x1, x2, x3⟩, x4, x5, x6⟩ := x
  have kf : ∀ W, BlkR W b s i wr ou fu → Calls Tryd.prog 45 #[.pointer (some ⟨b, 0, none⟩)] W fun e w' => e = .returned (PC.v ⟨2, ⟨none, 0, 0⟩, ⟨none, 0, 0⟩⟩) ∧ Ex b W w' ∧ BlkR w' b s i wr ou true := fun W h => tooFull_any h
  have HI : Hid (KI b s i wr ou fu w ⟨xk, ⟨x1, x2, x3⟩, ⟨x4, x5, x6⟩⟩ ((w.alloc (.cells #[.int .i64 xk, .slice x1 x2 x3, .slice x4 x5 x6] 25)).alloc (.cells #[.int .i64 0, .slice none 0 0, .slice none 0 0] 25))) :=
    ⟨bstep (bel_alloc _ _) (bel_alloc _ _), (Blk.new _ _ _).alloc _, Blk.new' _ _ _ _ (by simp)⟩
  cases hr : rightT t with
  | true =>
    rw [hr] at kr
    have HK2 : Hid (keptM t = (t, false)) := by show _ = _; rw [HK.out, if_pos hr]
    clear hx hb hok hP HK hr kf
    go_enter Tryd.func32, Tryd.ntmps32
    go_wp2_with (go_at_call 9; refine (kr _ (HX.out.held.bel' HI.out.bel)).mono ?_; rintro _ w2 ⟨rfl, gw⟩; have I2 : Hid (KI b s i wr ou fu w ⟨xk, ⟨x1, x2, x3⟩, ⟨x4, x5, x6⟩⟩ w2) := HI.out.go gw.below; obtain ⟨e0, e1, e2⟩ := BlkT.cs I2.out.box; have z0 := I2.out.res.frozen; obtain ⟨y0, y1, y2⟩ := BlkT.cs I2.out.res; clear gw)
    have hB3 := fun v0 v1 v2 => set3_bel I2.out.bel (g := w.heap.size + 1) (by omega) v0 v1 v2
    refine bodyPost_ret (v := PC.v ⟨xk, ⟨x1, x2, x3⟩, ⟨x4, x5, x6⟩⟩) ?_ rfl ⟨_, rfl, ?_, Ex.of_bel (hB3 _ _ _), ?_⟩
    · simp [results, Tryd.results32]
      have B := blk_put3 I2.out.res ⟨xk, ⟨x1, x2, x3⟩, ⟨x4, x5, x6⟩⟩
      simp only at B
      generalize hW7 : World.setCell _ _ _ = W7 at B ⊢
      exact run_ptv B
    · rw [HK2.out]
      exact HO.same (fun _ h => h) (fun g hg => (hB3 _ _ _).block g (HPp.out g hg)) HX.out
    · rw [HK2.out, Bool.or_false]
      exact HB.out.bel (hB3 _ _ _)
  | false =>
    rw [hr] at kr
    have HK2 : Hid (keptM t = (emT, true)) := by show _ = _; rw [HK.out, if_neg (by rw [hr]; decide)]
    clear hx hb hok hP HK hr
    go_enter Tryd.func32, Tryd.ntmps32
    go_wp2_with (first
      | (go_at_call 9; refine (kr _ (HX.out.held.bel' HI.out.bel)).mono ?_; rintro _ w2 ⟨rfl, gw⟩; have I2 : Hid (KI b s i wr ou fu w ⟨xk, ⟨x1, x2, x3⟩, ⟨x4, x5, x6⟩⟩ w2) := HI.out.go gw.below; have B2 : Hid (BlkR w2 b s i wr ou fu) := HB.out.bel I2.out.bel; clear gw)
      | (go_at_call 45; refine (kf _ B2.out).mono ?_; rintro _ w3 ⟨rfl, ex3, b3⟩; have E3 : Hid (Ex b w2 w3) := ex3; have B3 : Hid (BlkR w3 b s i wr ou true) := b3; have R3 : Hid (Blk w3 (w.heap.size + 1) (encT ⟨0, ⟨none, 0, 0⟩, ⟨none, 0, 0⟩⟩).toArray 25) := Blk.ex ex3 I2.out.res (by omega); obtain ⟨y0, y1, y2⟩ := BlkT.cs R3.out; have z0 := R3.out.frozen; clear ex3 b3))
    refine bodyPost_ret (v := PC.v ⟨2, ⟨none, 0, 0⟩, ⟨none, 0, 0⟩⟩) ?_ rfl ⟨_, rfl, ?_, set3_ex ((Ex.of_bel I2.out.bel).trans E3.out) (by omega) _ _ _, ?_⟩
    · simp [results, Tryd.results32]
      have B := blk_put3 R3.out ⟨2, ⟨none, 0, 0⟩, ⟨none, 0, 0⟩⟩
      simp only at B
      generalize hW7 : World.setCell _ _ _ = W7 at B ⊢
      exact run_ptv B
    · rw [HK2.out]
      exact HO_none 2
    · rw [HK2.out, Bool.or_true]
      exact B3.out.set3 (by omega) _ _ _

end Go.Proofs.YtihnmamejfoeeaaDoor
