/-
  Walks: kept, single, again, one, Any.
  Walks: single, again, one.
  Walks: again, one.
-/
import Derived.Test.YtihnmamejfoeeaaGreatDoorRa2
namespace Go.Proofs.YtihnmamejfoeeaaGreatDoor
open Go.RowKit

theorem okL_of : ∀ {ts : List Tree}, (∀ t ∈ ts, okT t) → okL ts
  | [], _ => okL_nil.2 trivial
  | t :: ts, h => (okL_cons _ _).2 ⟨h t (by simp), okL_of fun u hu => h u (by simp [hu])⟩
theorem ok_kinds (m : Nat) : ∀ t : Tree, size t ≤ m → size t ≤ 1000000 → kindsT t = true → okT t := by
  induction m with
  | zero => intro t h; have := size_pos t; omega
  | succ m ih =>
    intro t h1 h2 h3
    obtain ⟨k, set, subs⟩ := t
    rw [size_mk] at h1 h2
    rw [kindsT_mk] at h3
    simp only [Bool.and_eq_true] at h3
    have hlen := length_le_sizeL subs
    refine (okT_mk _ _ _).2 ⟨?_, by omega, okL_of fun t ht => ?_⟩
    · have := h3.1
      unfold okAlone at this
      split at this
      · simp at this; omega
      · split at this
        · simp at this; simp [this]
        · split at this
          · simp at this; simp [this]
          · cases this
    · obtain ⟨i, hi⟩ := List.mem_iff_getElem?.1 ht
      exact ih t (by have := size_le_of_at hi; omega) (by have := size_le_of_at hi; omega) (kindsT_of_at h3.2 hi)
theorem ok_right {t : Tree} (h : rightT t = true) : okT t := by
  obtain ⟨h1, _, h3⟩ := right_parts h
  exact ok_kinds _ t (Nat.le_refl _) (by omega) h3
theorem ok_list {k : Int} {ts : List Tree} (hl : ts.length ≤ 3000) (h : ∀ t ∈ ts, rightT t = true) : okT (.mk k [] ts) :=
  (okT_mk _ _ _).2 ⟨by simp, by omega, okL_of fun t ht => ok_right (h t ht)⟩
theorem ok_st {t : Tree} (h : rightT t = true) : okT (stT t) := ok_list (by simp) (by simp; exact h)
theorem ok_opt {t : Tree} (h : rightT t = true) : okT (optT t) := ok_list (by simp) (by simp; exact ⟨h, right_em⟩)

/-- A function's frame: its argument in its box, its result's cells. -/
structure KI (b : Nat) (s : ByteArray) (i : Nat) (wr ou fu : Bool) (w : World) (x : PC) (W : World) : Prop where
  bel : Below w.heap.size w W
  box : Blk W w.heap.size (encT x).toArray 26
  res : Blk W (w.heap.size + 1) (encT ⟨0, ⟨none, 0, 0⟩, ⟨none, 0, 0⟩⟩).toArray 26
theorem KI.go {b : Nat} {s : ByteArray} {i : Nat} {wr ou fu : Bool} {w : World} {x : PC} {W W' : World} (h : KI b s i wr ou fu w x W) (g : Below W.heap.size W W') : KI b s i wr ou fu w x W' := ⟨bstep h.bel g, h.box.bel g, h.res.bel g⟩

theorem set3_bel {w W : World} (h : Below w.heap.size w W) {g : Nat} (hg : w.heap.size ≤ g) (v0 v1 v2 : Value) : Below w.heap.size w (((W.setCell ⟨g, 0, none⟩ v0).setCell ⟨g, 1, none⟩ v1).setCell ⟨g, 2, none⟩ v2) :=
  ((h.setCell (by exact hg) _).setCell (by exact hg) _).setCell (by exact hg) _
theorem set3_ex {b : Nat} {w W : World} (h : Ex b w W) {g : Nat} (hg : w.heap.size ≤ g) (v0 v1 v2 : Value) : Ex b w (((W.setCell ⟨g, 0, none⟩ v0).setCell ⟨g, 1, none⟩ v1).setCell ⟨g, 2, none⟩ v2) :=
  ((h.setNew hg 0 v0).setNew hg 1 v1).setNew hg 2 v2
theorem Blk.set3 {W : World} {g q : Nat} {cs : Array Value} {t : TypeId} (h : Blk W g cs t) (hg : g ≠ q) (v0 v1 v2 : Value) : Blk (((W.setCell ⟨q, 0, none⟩ v0).setCell ⟨q, 1, none⟩ v1).setCell ⟨q, 2, none⟩ v2) g cs t :=
  ((h.other (p := ⟨q, 0, none⟩) hg _).other (p := ⟨q, 1, none⟩) hg _).other (p := ⟨q, 2, none⟩) hg _

set_option maxRecDepth 100000 in
set_option maxHeartbeats 1000000 in
theorem kept_any {P : Nat → Prop} {s : ByteArray} {b i : Nat} {wr ou fu : Bool} {t : Tree} {x : PC} {w : World} (hb : BlkR w b s i wr ou fu) (hok : okT t) (hP : ∀ g, P g → g < w.heap.size) (hx : HO P w t x) :
    Calls Tryz.prog 33 #[.pointer (some ⟨b, 0, none⟩), x.v] w fun e w' => ∃ r : PC, e = .returned r.v ∧ HO P w' (keptM t).1 r ∧ Ex b w w' ∧ BlkR w' b s i wr ou (fu || (keptM t).2) := by
  have HX : Hid (HO P w t x) := hx
  have HPp : Hid (∀ g, P g → g < w.heap.size) := hP
  have kr := fun W h => right_any t x W hok h
  have HB : Hid (BlkR w b s i wr ou fu) := hb
  have hlt := hb.lt
  have HK : Hid (keptM t = if rightT t = true then (t, false) else (emT, true)) := rfl
  obtain ⟨xk, ⟨x1, x2, x3⟩, x4, x5, x6⟩ := x
  have kf : ∀ W, BlkR W b s i wr ou fu → Calls Tryz.prog 46 #[.pointer (some ⟨b, 0, none⟩)] W fun e w' => e = .returned (PC.v ⟨2, ⟨none, 0, 0⟩, ⟨none, 0, 0⟩⟩) ∧ Ex b W w' ∧ BlkR w' b s i wr ou true := fun W h => tooFull_any h
  have HI : Hid (KI b s i wr ou fu w ⟨xk, ⟨x1, x2, x3⟩, ⟨x4, x5, x6⟩⟩ ((w.alloc (.cells #[.int .i64 xk, .slice x1 x2 x3, .slice x4 x5 x6] 26)).alloc (.cells #[.int .i64 0, .slice none 0 0, .slice none 0 0] 26))) :=
    ⟨bstep (bel_alloc _ _) (bel_alloc _ _), (Blk.new _ _ _).alloc _, Blk.new' _ _ _ _ (by simp)⟩
  cases hr : rightT t with
  | true =>
    rw [hr] at kr
    have HK2 : Hid (keptM t = (t, false)) := by show _ = _; rw [HK.out, if_pos hr]
    clear hx hb hok hP HK hr kf
    go_enter Tryz.func33, Tryz.ntmps33
    go_wp2_with (go_at_call 23; refine (kr _ (HX.out.held.bel' HI.out.bel)).mono ?_; rintro _ w2 ⟨rfl, gw⟩; have I2 : Hid (KI b s i wr ou fu w ⟨xk, ⟨x1, x2, x3⟩, ⟨x4, x5, x6⟩⟩ w2) := HI.out.go gw.below; obtain ⟨e0, e1, e2⟩ := BlkT.cs I2.out.box; have z0 := I2.out.res.frozen; obtain ⟨y0, y1, y2⟩ := BlkT.cs I2.out.res; clear gw)
    have hB3 := fun v0 v1 v2 => set3_bel I2.out.bel (g := w.heap.size + 1) (by omega) v0 v1 v2
    refine bodyPost_ret (v := PC.v ⟨xk, ⟨x1, x2, x3⟩, ⟨x4, x5, x6⟩⟩) ?_ rfl ⟨_, rfl, ?_, Ex.of_bel (hB3 _ _ _), ?_⟩
    · simp [results, Tryz.results33]
      have B := blk_put3 I2.out.res ⟨xk, ⟨x1, x2, x3⟩, ⟨x4, x5, x6⟩⟩
      simp only at B
      generalize hW7 : World.setCell _ _ _ = W7 at B ⊢
      exact run_ptv B
    · rw [HK2.out]
      exact HO.same (fun _ h => h) (fun g hg => (hB3 _ _ _).block g (HPp.out g hg)) HX.out
    · rw [HK2.out, Bool.or_false]
      exact HB.out.bel (hB3 _ _ _)
  | false =>
    rw [hr] at kr
    have HK2 : Hid (keptM t = (emT, true)) := by show _ = _; rw [HK.out, if_neg (by rw [hr]; decide)]
    clear hx hb hok hP HK hr
    go_enter Tryz.func33, Tryz.ntmps33
    go_wp2_with (first
      | (go_at_call 23; refine (kr _ (HX.out.held.bel' HI.out.bel)).mono ?_; rintro _ w2 ⟨rfl, gw⟩; have I2 : Hid (KI b s i wr ou fu w ⟨xk, ⟨x1, x2, x3⟩, ⟨x4, x5, x6⟩⟩ w2) := HI.out.go gw.below; have B2 : Hid (BlkR w2 b s i wr ou fu) := HB.out.bel I2.out.bel; clear gw)
      | (go_at_call 46; refine (kf _ B2.out).mono ?_; rintro _ w3 ⟨rfl, ex3, b3⟩; have E3 : Hid (Ex b w2 w3) := ex3; have B3 : Hid (BlkR w3 b s i wr ou true) := b3; have R3 : Hid (Blk w3 (w.heap.size + 1) (encT ⟨0, ⟨none, 0, 0⟩, ⟨none, 0, 0⟩⟩).toArray 26) := Blk.ex ex3 I2.out.res (by omega); obtain ⟨y0, y1, y2⟩ := BlkT.cs R3.out; have z0 := R3.out.frozen; clear ex3 b3))
    refine bodyPost_ret (v := PC.v ⟨2, ⟨none, 0, 0⟩, ⟨none, 0, 0⟩⟩) ?_ rfl ⟨_, rfl, ?_, set3_ex ((Ex.of_bel I2.out.bel).trans E3.out) (by omega) _ _ _, ?_⟩
    · simp [results, Tryz.results33]
      have B := blk_put3 R3.out ⟨2, ⟨none, 0, 0⟩, ⟨none, 0, 0⟩⟩
      simp only at B
      generalize hW7 : World.setCell _ _ _ = W7 at B ⊢
      exact run_ptv B
    · rw [HK2.out]
      exact HO_none 2
    · rw [HK2.out, Bool.or_true]
      exact B3.out.set3 (by omega) _ _ _

end Go.Proofs.YtihnmamejfoeeaaGreatDoor

namespace Go.Proofs.YtihnmamejfoeeaaGreatDoor
open Go.RowKit

theorem HO.imp' {P Q : Nat → Prop} {w : World} {t : Tree} {x : PC} (h : HO P w t x) (hPQ : ∀ g, P g → Q g) : HO Q w t x := HO.same hPQ (fun _ _ => rfl) h

theorem heap_set3 {W : World} {g q : Nat} (hg : q ≠ g) (v0 v1 v2 : Value) : (((W.setCell ⟨g, 0, none⟩ v0).setCell ⟨g, 1, none⟩ v1).setCell ⟨g, 2, none⟩ v2).heap[q]? = W.heap[q]? := by
  rw [Below.heap_setCell _ _ _ _ hg, Below.heap_setCell _ _ _ _ hg, Below.heap_setCell _ _ _ _ hg]

set_option maxRecDepth 100000 in
set_option maxHeartbeats 1000000 in
theorem single_any {P : Nat → Prop} {s : ByteArray} {b i : Nat} {wr ou fu : Bool} {k : Int} {ts : List Tree} {x : PC} {w : World} (hb : BlkR w b s i wr ou fu) (hok : okT (.mk k [] ts)) (hP : ∀ g, P g → g < w.heap.size) (hx : HO P w (.mk k [] ts) x) :
    Calls Tryz.prog 45 #[.pointer (some ⟨b, 0, none⟩), x.v] w fun e w' => ∃ r : PC, e = .returned r.v ∧ HO P w' (singleM k ts).1 r ∧ Ex b w w' ∧ BlkR w' b s i wr ou (fu || (singleM k ts).2) := by
  have HX : Hid (HO P w (.mk k [] ts) x) := hx
  have HPp : Hid (∀ g, P g → g < w.heap.size) := hP
  have HB : Hid (BlkR w b s i wr ou fu) := hb
  have hlt := hb.lt
  have kk : ∀ W, BlkR W b s i wr ou fu → Below w.heap.size w W → Calls Tryz.prog 33 #[.pointer (some ⟨b, 0, none⟩), x.v] W fun e w' => ∃ r : PC, e = .returned r.v ∧ HO P w' (keptM (.mk k [] ts)).1 r ∧ Ex b W w' ∧ BlkR w' b s i wr ou (fu || (keptM (.mk k [] ts)).2) := fun W h1 h2 => kept_any h1 hok (fun g hg => Nat.lt_of_lt_of_le (hP g hg) h2.size) (HO.same (fun _ h => h) (fun g hg => h2.block g (hP g hg)) hx)
  obtain ⟨h1, h2, rows, ⟨h3, h3P⟩, h4⟩ := (HO_mk _ _ _ _ _ _).1 hx
  obtain ⟨xk, ⟨x1, x2, x3⟩, x4, x5, x6⟩ := x
  have h5 := h4.len
  obtain ⟨a', c', e'⟩ := h3.form
  injection e' with ea eb ec
  simp only at h1 h3 h3P eb
  rw [h5] at eb
  have HI : Hid (KI b s i wr ou fu w ⟨xk, ⟨x1, x2, x3⟩, ⟨x4, x5, x6⟩⟩ ((w.alloc (.cells #[.int .i64 xk, .slice x1 x2 x3, .slice x4 x5 x6] 26)).alloc (.cells #[.int .i64 0, .slice none 0 0, .slice none 0 0] 26))) :=
    ⟨bstep (bel_alloc _ _) (bel_alloc _ _), (Blk.new _ _ _).alloc _, Blk.new' _ _ _ _ (by simp)⟩
  by_cases hn : ts.length = 1
  · obtain ⟨t, rfl⟩ := List.length_eq_one_iff.1 hn
    have e1 : ((x5 : Int) == 1) = true := by simp; omega
    have hl5 : (0 : Int) < x5 := by omega
    obtain ⟨r, rest, rfl, hr, hrest⟩ := (HOs_cons _ _ _ _ _).1 h4
    rw [HOs_nil] at hrest
    subst hrest
    have hrow : RowT w (.slice x4 x5 x6) [r] := h3.row encT_len
    obtain ⟨rb, ro, rfl, hrb, q0, q1, q2⟩ := RowX.cs3 hrow (k := 0) rfl
    have q0' := (HI.out.bel.cell (by exact hrb)).trans q0
    have q1' := (HI.out.bel.cell (by exact hrb)).trans q1
    have q2' := (HI.out.bel.cell (by exact hrb)).trans q2
    simp only [Nat.zero_mul, Nat.add_zero] at q0' q1' q2'
    have HR : Hid (HO P w t r) := hr
    obtain ⟨rk, ⟨r1, r2, r3⟩, r4, r5, r6⟩ := r
    simp only at q0' q1' q2'
    have HBr : Hid (rb < w.heap.size) := hrb
    clear hx hb hok hP kk h1 h2 h3 h3P h4 h5 ea eb ec hn hrow q0 q1 q2 hr
    obtain ⟨m0, m1, m2⟩ := BlkT.cs HI.out.box
    simp only at m0 m1 m2
    go_enter Tryz.func45, Tryz.ntmps45
    go_wp2_with fail
    refine bodyPost_ret (v := PC.v ⟨rk, ⟨r1, r2, r3⟩, ⟨r4, r5, r6⟩⟩) ?_ rfl ⟨_, rfl, ?_, ((Ex.refl b w).alloc _).alloc _, ?_⟩
    · simp [results, Tryz.results45]
      exact run_ptv (x := ⟨rk, ⟨r1, r2, r3⟩, ⟨r4, r5, r6⟩⟩) (Blk.new' _ _ _ _ (by simp))
    · exact HO.same (fun _ h => h) (fun g hg => (bstep (bel_alloc _ _) (bel_alloc _ _)).block g (HPp.out g hg)) HR.out
    · show BlkR _ b s i wr ou (fu || false)
      rw [Bool.or_false]
      exact (HB.out.alloc _).alloc _
  · have e1 : ((x5 : Int) == 1) = false := by simp; omega
    have HS : Hid (singleM k ts = keptM (.mk k [] ts)) := by
      show _ = _
      unfold singleM
      split
      · exact absurd rfl hn
      · rfl
    clear hx hb hok hP h1 h2 h3 h3P h4 h5 ea eb ec hn
    obtain ⟨m0, m1, m2⟩ := BlkT.cs HI.out.box
    simp only at m0 m1 m2
    go_enter Tryz.func45, Tryz.ntmps45
    go_wp2_with (go_at_call 33; refine (kk _ (HB.out.bel HI.out.bel) HI.out.bel).mono ?_; rintro _ w3 ⟨⟨rk, ⟨r1, r2, r3⟩, r4, r5, r6⟩, rfl, ho3, ex3, b3⟩; have H3 : Hid (HO P w3 (keptM (.mk k [] ts)).1 ⟨rk, ⟨r1, r2, r3⟩, r4, r5, r6⟩) := ho3; have E3 : Hid (Ex b w w3) := (Ex.of_bel HI.out.bel).trans ex3; have B3 : Hid (BlkR w3 b s i wr ou (fu || (keptM (.mk k [] ts)).2)) := b3; have R3 : Hid (Blk w3 (w.heap.size + 1) (encT ⟨0, ⟨none, 0, 0⟩, ⟨none, 0, 0⟩⟩).toArray 26) := Blk.ex ex3 HI.out.res (by omega); obtain ⟨y0, y1, y2⟩ := BlkT.cs R3.out; have z0 := R3.out.frozen; clear ho3 ex3 b3)
    refine bodyPost_ret (v := PC.v ⟨rk, ⟨r1, r2, r3⟩, ⟨r4, r5, r6⟩⟩) ?_ rfl ⟨_, rfl, ?_, set3_ex E3.out (by omega) _ _ _, ?_⟩
    · simp [results, Tryz.results45]
      have B := blk_put3 R3.out ⟨rk, ⟨r1, r2, r3⟩, ⟨r4, r5, r6⟩⟩
      simp only at B
      generalize hW7 : World.setCell _ _ _ = W7 at B ⊢
      exact run_ptv B
    · rw [HS.out]
      exact HO.same (fun _ h => h) (fun g hg => heap_set3 (by have := HPp.out g hg; omega) _ _ _) H3.out
    · rw [HS.out]
      exact B3.out.set3 (by omega) _ _ _

end Go.Proofs.YtihnmamejfoeeaaGreatDoor

namespace Go.Proofs.YtihnmamejfoeeaaGreatDoor
open Go.RowKit

theorem times_plus {t : Tree} (h : rightT t = true) : timesT t 1 (-1) = if rightT (plusT t) = true then (plusT t, 0) else (zeroT, 6) := by
  have e : rowT t 1 0 true = plusT t := rfl
  unfold timesT
  rw [if_neg (by decide), if_neg (by rw [h]; decide), if_neg (by decide)]
  show (if rightT (rowT t 1 0 true) = true then (rowT t 1 0 true, 0) else (zeroT, 6)) = _
  rw [e]

set_option maxRecDepth 100000 in
set_option maxHeartbeats 2000000 in
theorem again_P {s : ByteArray} {b i : Nat} {wr ou fu : Bool} {t : Tree} {x : PC} {w : World} (hb : BlkR w b s i wr ou fu) (hr : rightT t = true) (hx : HT w t x) :
    Calls Tryz.prog 71 #[.pointer (some ⟨b, 0, none⟩), x.v] w fun e w' => ∃ r : PC, e = .returned r.v ∧ HO (fun g => w.heap.size + 2 ≤ g ∧ g < w'.heap.size) w' (keptM (plusT t)).1 r ∧ Ex b w w' ∧ BlkR w' b s i wr ou (fu || (keptM (plusT t)).2) := by
  have HX : Hid (HT w t x) := hx
  have HB : Hid (BlkR w b s i wr ou fu) := hb
  have hlt := hb.lt
  have kt : ∀ W, HT W t x → Calls Tryz.prog 86 #[x.v, .int .i64 1, .int .i64 (-1)] W fun e w' => PostT (if rightT (plusT t) = true then (plusT t, 0) else (zeroT, 6)) W e w' := fun W h => by
    have := times_any t x 1 (-1) W (ok_right hr) h (by omega) (by omega)
    rw [times_plus hr] at this
    exact this
  obtain ⟨xk, ⟨x1, x2, x3⟩, x4, x5, x6⟩ := x
  have HI : Hid (KI b s i wr ou fu w ⟨xk, ⟨x1, x2, x3⟩, ⟨x4, x5, x6⟩⟩ ((w.alloc (.cells #[.int .i64 xk, .slice x1 x2 x3, .slice x4 x5 x6] 26)).alloc (.cells #[.int .i64 0, .slice none 0 0, .slice none 0 0] 26))) :=
    ⟨bstep (bel_alloc _ _) (bel_alloc _ _), (Blk.new _ _ _).alloc _, Blk.new' _ _ _ _ (by simp)⟩
  have kf : ∀ W, BlkR W b s i wr ou fu → Calls Tryz.prog 46 #[.pointer (some ⟨b, 0, none⟩)] W fun e w' => e = .returned (PC.v ⟨2, ⟨none, 0, 0⟩, ⟨none, 0, 0⟩⟩) ∧ Ex b W w' ∧ BlkR w' b s i wr ou true := fun W h => tooFull_any h
  cases hp : rightT (plusT t) with
  | true =>
    rw [if_pos hp] at kt
    have HK2 : Hid (keptM (plusT t) = (plusT t, false)) := by show _ = _; unfold keptM; rw [if_pos hp]
    clear hx hb hr hp kf
    go_enter Tryz.func71, Tryz.ntmps71
    go_wp2_with (go_at_call 86; refine (kt _ (HX.out.bel' HI.out.bel)).mono ?_; rintro _ w2 ⟨⟨rk, ⟨r1, r2, r3⟩, r4, r5, r6⟩, rfl, ho2, bb2⟩; have I2 : Hid (KI b s i wr ou fu w ⟨xk, ⟨x1, x2, x3⟩, ⟨x4, x5, x6⟩⟩ (w2.alloc (.cells #[.int .i64 rk, .slice r1 r2 r3, .slice r4 r5 r6] 26))) := (HI.out.go bb2).go (bel_alloc _ _); have H2 : Hid (HO (fun g => w.heap.size + 2 ≤ g ∧ g < w2.heap.size) w2 (plusT t) ⟨rk, ⟨r1, r2, r3⟩, r4, r5, r6⟩) := ho2.low (by simp); obtain ⟨y0, y1, y2⟩ := BlkT.cs I2.out.res; have z0 := I2.out.res.frozen; clear ho2 bb2)
    refine bodyPost_ret (v := PC.v ⟨rk, ⟨r1, r2, r3⟩, ⟨r4, r5, r6⟩⟩) ?_ rfl ⟨_, rfl, ?_, Ex.of_bel (set3_bel I2.out.bel (by omega) _ _ _), ?_⟩
    · simp [results, Tryz.results71]
      have B := blk_put3 I2.out.res ⟨rk, ⟨r1, r2, r3⟩, ⟨r4, r5, r6⟩⟩
      simp only at B
      generalize hW7 : World.setCell _ _ _ = W7 at B ⊢
      exact run_ptv B
    · rw [HK2.out]
      refine HO.same ?_ ?_ (H2.out.bel (bel_alloc _ (.cells #[.int .i64 rk, .slice r1 r2 r3, .slice r4 r5 r6] 26)))
      · intro g hg
        exact ⟨hg.1, by simpa using hg.2⟩
      · intro g hg
        exact heap_set3 (by omega) _ _ _
    · rw [HK2.out, Bool.or_false]
      exact HB.out.bel (set3_bel I2.out.bel (by omega) _ _ _)
  | false =>
    rw [if_neg (by rw [hp]; decide)] at kt
    have HK2 : Hid (keptM (plusT t) = (emT, true)) := by show _ = _; unfold keptM; rw [if_neg (by rw [hp]; decide)]
    clear hx hb hr hp
    go_enter Tryz.func71, Tryz.ntmps71
    go_wp2_with (first
      | (go_at_call 86; refine (kt _ (HX.out.bel' HI.out.bel)).mono ?_; rintro _ w2 ⟨⟨rk, ⟨r1, r2, r3⟩, r4, r5, r6⟩, rfl, ho2, bb2⟩; have I2 : Hid (KI b s i wr ou fu w ⟨xk, ⟨x1, x2, x3⟩, ⟨x4, x5, x6⟩⟩ (w2.alloc (.cells #[.int .i64 rk, .slice r1 r2 r3, .slice r4 r5 r6] 26))) := (HI.out.go bb2).go (bel_alloc _ _); have B2 : Hid (BlkR (w2.alloc (.cells #[.int .i64 rk, .slice r1 r2 r3, .slice r4 r5 r6] 26)) b s i wr ou fu) := HB.out.bel I2.out.bel; clear ho2 bb2)
      | (go_at_call 46; refine (kf _ B2.out).mono ?_; rintro _ w3 ⟨rfl, ex3, b3⟩; have E3 : Hid (Ex b w w3) := (Ex.of_bel I2.out.bel).trans ex3; have B3 : Hid (BlkR w3 b s i wr ou true) := b3; have R3 : Hid (Blk w3 (w.heap.size + 1) (encT ⟨0, ⟨none, 0, 0⟩, ⟨none, 0, 0⟩⟩).toArray 26) := Blk.ex ex3 I2.out.res (by omega); obtain ⟨y0, y1, y2⟩ := BlkT.cs R3.out; have z0 := R3.out.frozen; clear ex3 b3))
    refine bodyPost_ret (v := PC.v ⟨2, ⟨none, 0, 0⟩, ⟨none, 0, 0⟩⟩) ?_ rfl ⟨_, rfl, ?_, set3_ex E3.out (by omega) _ _ _, ?_⟩
    · simp [results, Tryz.results71]
      have B := blk_put3 R3.out ⟨2, ⟨none, 0, 0⟩, ⟨none, 0, 0⟩⟩
      simp only at B
      generalize hW7 : World.setCell _ _ _ = W7 at B ⊢
      exact run_ptv B
    · rw [HK2.out]
      exact HO_none 2
    · rw [HK2.out, Bool.or_true]
      exact B3.out.set3 (by omega) _ _ _

set_option maxRecDepth 100000 in
set_option maxHeartbeats 2000000 in
theorem one_any {s : ByteArray} {b i l h : Nat} {wr ou fu : Bool} {w : World} (hb : BlkR w b s i wr ou fu) :
    Calls Tryz.prog 85 #[.pointer (some ⟨b, 0, none⟩), .int .u64 (min l 4294967296 : Nat), .int .u64 (min h 4294967296 : Nat)] w fun e w' => ∃ r : PC, e = .returned r.v ∧ HO (fun g => w.heap.size ≤ g ∧ g < w'.heap.size) w' (numT l h) r ∧ Ex b w w' ∧ BlkR w' b s i wr (ou || oneO l h) fu := by
  obtain ⟨L, hL⟩ : ∃ L, L = min l 4294967296 := ⟨_, rfl⟩
  obtain ⟨M, hM⟩ : ∃ M, M = min h 4294967296 := ⟨_, rfl⟩
  rw [← hL, ← hM]
  have HB : Hid (BlkR w b s i wr ou fu) := hb
  have hlt := hb.lt
  have n1 : b ≠ w.heap.size := by omega
  have n2 : w.heap.size ≠ b := by omega
  have bL : L ≤ 4294967296 := by omega
  have bM : M ≤ 4294967296 := by omega
  have HO1 : Hid (oneO l h = (decide (4294967295 < M) || decide (M < L))) := by
    show _ = _
    unfold oneO
    apply Bool.eq_iff_iff.2
    simp
    omega
  have HN : Hid (numT l h = .mk 1 [(if L = 4294967296 then 0 else (L : Int), if M = 4294967296 then 0 else (M : Int))] []) := by
    show _ = _
    unfold numT
    unfold YtihnmamejfoeeaaGreatDoor.wr
    have a1 : (if 4294967295 < l then (0 : Int) else (l : Int)) = if L = 4294967296 then 0 else (L : Int) := by split <;> split <;> omega
    have a2 : (if 4294967295 < h then (0 : Int) else (h : Int)) = if M = 4294967296 then 0 else (M : Int) := by split <;> split <;> omega
    rw [a1, a2]
  clear hL hM hb
  have f3 := (HB.out.alloc (.cells #[.int .i64 0, .slice none 0 0, .slice none 0 0] 26)).frozen 3
  have c3 := (HB.out.alloc (.cells #[.int .i64 0, .slice none 0 0, .slice none 0 0] 26)).c 3
  simp at c3
  have w1 : (if L = 4294967296 then (0 : Int) else (L : Int)) = (L : Int) % 4294967296 := by split <;> omega
  have w2 : (if M = 4294967296 then (0 : Int) else (M : Int)) = (M : Int) % 4294967296 := by split <;> omega
  by_cases c1 : 4294967295 < M
  · have d1 : decide ((4294967295 : Int) < (M : Int)) = true := by simp; omega
    have HQ : Hid ((decide (4294967295 < M) || decide (M < L)) = true) := by show _ = _; simp [c1]
    clear c1
    go_enter Tryz.func85, Tryz.ntmps85
    go_wp2_with fail
    refine bodyPost_ret (v := PC.v ⟨1, ⟨some ⟨w.heap.size + 1, 0, none⟩, 1, 1⟩, ⟨none, 0, 0⟩⟩) ?_ rfl ⟨_, rfl, ?_, (((Ex.refl b w).setB 3 _).alloc _).alloc _, ?_⟩
    · simp [results, Tryz.results85]
      exact run_ptv (x := ⟨1, ⟨some ⟨w.heap.size + 1, 0, none⟩, 1, 1⟩, ⟨none, 0, 0⟩⟩) ((Blk.new' _ _ _ _ (by simp)).alloc _)
    · rw [HN.out, w1, w2]
      exact HO_one (Blk.new' _ _ _ _ (by simp)) (by first | rfl | (simp [cellsOf, encS]; omega)) ⟨by omega, by simp⟩
    · rw [HO1.out]
      rw [HQ.out, Bool.or_true]
      exact ((HB.out.set 3 (.bool true)).alloc _).alloc _
  · have d1 : decide ((4294967295 : Int) < (M : Int)) = false := by simp; omega
    by_cases c2 : M < L
    · have d2 : decide (M < L) = true := by simpa using c2
      have HQ : Hid ((decide (4294967295 < M) || decide (M < L)) = true) := by show _ = _; simp [c2]
      clear c1 c2
      go_enter Tryz.func85, Tryz.ntmps85
      go_wp2_with fail
      refine bodyPost_ret (v := PC.v ⟨1, ⟨some ⟨w.heap.size + 1, 0, none⟩, 1, 1⟩, ⟨none, 0, 0⟩⟩) ?_ rfl ⟨_, rfl, ?_, (((Ex.refl b w).setB 3 _).alloc _).alloc _, ?_⟩
      · simp [results, Tryz.results85]
        exact run_ptv (x := ⟨1, ⟨some ⟨w.heap.size + 1, 0, none⟩, 1, 1⟩, ⟨none, 0, 0⟩⟩) ((Blk.new' _ _ _ _ (by simp)).alloc _)
      · rw [HN.out, w1, w2]
        exact HO_one (Blk.new' _ _ _ _ (by simp)) (by first | rfl | (simp [cellsOf, encS]; omega)) ⟨by omega, by simp⟩
      · rw [HO1.out]
        rw [HQ.out, Bool.or_true]
        exact ((HB.out.set 3 (.bool true)).alloc _).alloc _
    · have d2 : decide (M < L) = false := by simpa using c2
      have HQ : Hid ((decide (4294967295 < M) || decide (M < L)) = false) := by show _ = _; simp [c1, c2]
      clear c1 c2
      go_enter Tryz.func85, Tryz.ntmps85
      go_wp2_with fail
      refine bodyPost_ret (v := PC.v ⟨1, ⟨some ⟨w.heap.size + 1, 0, none⟩, 1, 1⟩, ⟨none, 0, 0⟩⟩) ?_ rfl ⟨_, rfl, ?_, ((Ex.refl b w).alloc _).alloc _, ?_⟩
      · simp [results, Tryz.results85]
        exact run_ptv (x := ⟨1, ⟨some ⟨w.heap.size + 1, 0, none⟩, 1, 1⟩, ⟨none, 0, 0⟩⟩) ((Blk.new' _ _ _ _ (by simp)).alloc _)
      · rw [HN.out, w1, w2]
        exact HO_one (Blk.new' _ _ _ _ (by simp)) (by first | rfl | (simp [cellsOf, encS]; omega)) ⟨by omega, by simp⟩
      · rw [HO1.out]
        rw [HQ.out, Bool.or_false]
        exact (HB.out.alloc _).alloc _

end Go.Proofs.YtihnmamejfoeeaaGreatDoor
