/-
  Walks of the reader's methods that put patterns together: kept, One, Joined, Star, Maybe, Times.
-/
import Derived.Test.YtjjlkjfhhpogaaaGreatDoorRa1
import Derived.Test.YtjjlkjfhhpogaaaGreatDoorTi
import Derived.Test.YtjjlkjfhhpogaaaGreatDoorJm
namespace Go.Proofs.YtjjlkjfhhpogaaaGreatDoor
open Go.RowKit

theorem okL_of : ∀ {ts : List Tree}, (∀ t ∈ ts, okT t) → okL ts
  | [], _ => okL_nil.2 trivial
  | t :: ts, h => (okL_cons _ _).2 ⟨h t (by simp), okL_of fun u hu => h u (by simp [hu])⟩
theorem ok_kinds (m : Nat) : ∀ t : Tree, size t ≤ m → size t ≤ 1000000 → kindsT t = true → okT t := by
  induction m with
  | zero => intro t h; have := size_pos t; omega
  | succ m ih =>
    intro t h1 h2 h3
    obtain ⟨k, set, subs⟩ := t
    rw [size_mk] at h1 h2
    rw [kindsT_mk] at h3
    simp only [Bool.and_eq_true] at h3
    have hlen := length_le_sizeL subs
    refine (okT_mk _ _ _).2 ⟨?_, by omega, okL_of fun t ht => ?_⟩
    · have := h3.1
      unfold okAlone at this
      split at this
      · simp at this; omega
      · split at this
        · simp at this; simp [this]
        · split at this
          · simp at this; simp [this]
          · cases this
    · obtain ⟨i, hi⟩ := List.mem_iff_getElem?.1 ht
      exact ih t (by have := size_le_of_at hi; omega) (by have := size_le_of_at hi; omega) (kindsT_of_at h3.2 hi)
theorem ok_right {t : Tree} (h : rightT t = true) : okT t := by
  obtain ⟨h1, _, h3⟩ := right_parts h
  exact ok_kinds _ t (Nat.le_refl _) (by omega) h3
theorem ok_list {k : Int} {ts : List Tree} (hl : ts.length ≤ 3000) (h : ∀ t ∈ ts, rightT t = true) : okT (.mk k [] ts) :=
  (okT_mk _ _ _).2 ⟨by simp, by omega, okL_of fun t ht => ok_right (h t ht)⟩
theorem ok_st {t : Tree} (h : rightT t = true) : okT (stT t) := ok_list (by simp) (by simp; exact h)
theorem ok_opt {t : Tree} (h : rightT t = true) : okT (optT t) := ok_list (by simp) (by simp; exact ⟨h, right_em⟩)

/-- A function's frame: its argument in its box, its result's cells. -/
structure KI (b : Nat) (s : ByteArray) (i : Nat) (wr ou fu : Bool) (w : World) (x : PC) (W : World) : Prop where
  bel : Below w.heap.size w W
  box : Blk W w.heap.size (encT x).toArray 26
  res : Blk W (w.heap.size + 1) (encT ⟨0, ⟨none, 0, 0⟩, ⟨none, 0, 0⟩⟩).toArray 26
theorem KI.go {b : Nat} {s : ByteArray} {i : Nat} {wr ou fu : Bool} {w : World} {x : PC} {W W' : World} (h : KI b s i wr ou fu w x W) (g : Below W.heap.size W W') : KI b s i wr ou fu w x W' := ⟨bstep h.bel g, h.box.bel g, h.res.bel g⟩

theorem set3_bel {w W : World} (h : Below w.heap.size w W) {g : Nat} (hg : w.heap.size ≤ g) (v0 v1 v2 : Value) : Below w.heap.size w (((W.setCell ⟨g, 0, none⟩ v0).setCell ⟨g, 1, none⟩ v1).setCell ⟨g, 2, none⟩ v2) :=
  ((h.setCell (by exact hg) _).setCell (by exact hg) _).setCell (by exact hg) _
theorem set3_ex {b : Nat} {w W : World} (h : Ex b w W) {g : Nat} (hg : w.heap.size ≤ g) (v0 v1 v2 : Value) : Ex b w (((W.setCell ⟨g, 0, none⟩ v0).setCell ⟨g, 1, none⟩ v1).setCell ⟨g, 2, none⟩ v2) :=
  ((h.setNew hg 0 v0).setNew hg 1 v1).setNew hg 2 v2
theorem Blk.set3 {W : World} {g q : Nat} {cs : Array Value} {t : TypeId} (h : Blk W g cs t) (hg : g ≠ q) (v0 v1 v2 : Value) : Blk (((W.setCell ⟨q, 0, none⟩ v0).setCell ⟨q, 1, none⟩ v1).setCell ⟨q, 2, none⟩ v2) g cs t :=
  ((h.other (p := ⟨q, 0, none⟩) hg _).other (p := ⟨q, 1, none⟩) hg _).other (p := ⟨q, 2, none⟩) hg _

theorem HO.imp' {P Q : Nat → Prop} {w : World} {t : Tree} {x : PC} (h : HO P w t x) (hPQ : ∀ g, P g → Q g) : HO Q w t x := HO.same hPQ (fun _ _ => rfl) h

theorem heap_set3 {W : World} {g q : Nat} (hg : q ≠ g) (v0 v1 v2 : Value) : (((W.setCell ⟨g, 0, none⟩ v0).setCell ⟨g, 1, none⟩ v1).setCell ⟨g, 2, none⟩ v2).heap[q]? = W.heap[q]? := by
  rw [Below.heap_setCell _ _ _ _ hg, Below.heap_setCell _ _ _ _ hg, Below.heap_setCell _ _ _ _ hg]

set_option maxRecDepth 100000 in
set_option maxHeartbeats 1000000 in
theorem kept_any {P : Nat → Prop} {s : ByteArray} {b i : Nat} {wr ou fu : Bool} {t : Tree} {x : PC} {w : World} (hb : BlkR w b s i wr ou fu) (hok : okT t) (hP : ∀ g, P g → g < w.heap.size) (hx : HO P w t x) :
    Calls Tryz.prog 66 #[.pointer (some ⟨b, 0, none⟩), x.v] w fun e w' => ∃ r : PC, e = .returned r.v ∧ HO P w' (keptM t).1 r ∧ Ex b w w' ∧ BlkR w' b s i wr ou (fu || (keptM t).2) := by
  have HX : Hid (HO P w t x) := hx
  have HPp : Hid (∀ g, P g → g < w.heap.size) := hP
  have kr := fun W h => right_any t x W hok h
  have HB : Hid (BlkR w b s i wr ou fu) := hb
  have hlt := hb.lt
  have HK : Hid (keptM t = if rightT t = true then (t, false) else (emT, true)) := rfl
  obtain ⟨xk, ⟨x1, x2, x3⟩, x4, x5, x6⟩ := x
  have kf : ∀ W, BlkR W b s i wr ou fu → Calls Tryz.prog 81 #[.pointer (some ⟨b, 0, none⟩)] W fun e w' => e = .returned (PC.v ⟨2, ⟨none, 0, 0⟩, ⟨none, 0, 0⟩⟩) ∧ Ex b W w' ∧ BlkR w' b s i wr ou true := fun W h => tooFull_any h
  have HI : Hid (KI b s i wr ou fu w ⟨xk, ⟨x1, x2, x3⟩, ⟨x4, x5, x6⟩⟩ ((w.alloc (.cells #[.int .i64 xk, .slice x1 x2 x3, .slice x4 x5 x6] 26)).alloc (.cells #[.int .i64 0, .slice none 0 0, .slice none 0 0] 26))) :=
    ⟨bstep (bel_alloc _ _) (bel_alloc _ _), (Blk.new _ _ _).alloc _, Blk.new' _ _ _ _ (by simp)⟩
  cases hr : rightT t with
  | true =>
    rw [hr] at kr
    have HK2 : Hid (keptM t = (t, false)) := by show _ = _; rw [HK.out, if_pos hr]
    clear hx hb hok hP HK hr kf
    go_enter Tryz.func66, Tryz.ntmps66
    go_wp2_with (go_at_call 18; refine (kr _ (HX.out.held.bel' HI.out.bel)).mono ?_; rintro _ w2 ⟨rfl, gw⟩; have I2 : Hid (KI b s i wr ou fu w ⟨xk, ⟨x1, x2, x3⟩, ⟨x4, x5, x6⟩⟩ w2) := HI.out.go gw.below; obtain ⟨e0, e1, e2⟩ := BlkT.cs I2.out.box; have z0 := I2.out.res.frozen; obtain ⟨y0, y1, y2⟩ := BlkT.cs I2.out.res; clear gw)
    have hB3 := fun v0 v1 v2 => set3_bel I2.out.bel (g := w.heap.size + 1) (by omega) v0 v1 v2
    refine bodyPost_ret (v := PC.v ⟨xk, ⟨x1, x2, x3⟩, ⟨x4, x5, x6⟩⟩) ?_ rfl ⟨_, rfl, ?_, Ex.of_bel (hB3 _ _ _), ?_⟩
    · simp [results, Tryz.results66]
      have B := blk_put3 I2.out.res ⟨xk, ⟨x1, x2, x3⟩, ⟨x4, x5, x6⟩⟩
      simp only at B
      generalize hW7 : World.setCell _ _ _ = W7 at B ⊢
      exact run_ptv B
    · rw [HK2.out]
      exact HO.same (fun _ h => h) (fun g hg => (hB3 _ _ _).block g (HPp.out g hg)) HX.out
    · rw [HK2.out, Bool.or_false]
      exact HB.out.bel (hB3 _ _ _)
  | false =>
    rw [hr] at kr
    have HK2 : Hid (keptM t = (emT, true)) := by show _ = _; rw [HK.out, if_neg (by rw [hr]; decide)]
    clear hx hb hok hP HK hr
    go_enter Tryz.func66, Tryz.ntmps66
    go_wp2_with (first
      | (go_at_call 18; refine (kr _ (HX.out.held.bel' HI.out.bel)).mono ?_; rintro _ w2 ⟨rfl, gw⟩; have I2 : Hid (KI b s i wr ou fu w ⟨xk, ⟨x1, x2, x3⟩, ⟨x4, x5, x6⟩⟩ w2) := HI.out.go gw.below; have B2 : Hid (BlkR w2 b s i wr ou fu) := HB.out.bel I2.out.bel; clear gw)
      | (go_at_call 81; refine (kf _ B2.out).mono ?_; rintro _ w3 ⟨rfl, ex3, b3⟩; have E3 : Hid (Ex b w2 w3) := ex3; have B3 : Hid (BlkR w3 b s i wr ou true) := b3; have R3 : Hid (Blk w3 (w.heap.size + 1) (encT ⟨0, ⟨none, 0, 0⟩, ⟨none, 0, 0⟩⟩).toArray 26) := Blk.ex ex3 I2.out.res (by omega); obtain ⟨y0, y1, y2⟩ := BlkT.cs R3.out; have z0 := R3.out.frozen; clear ex3 b3))
    refine bodyPost_ret (v := PC.v ⟨2, ⟨none, 0, 0⟩, ⟨none, 0, 0⟩⟩) ?_ rfl ⟨_, rfl, ?_, set3_ex ((Ex.of_bel I2.out.bel).trans E3.out) (by omega) _ _ _, ?_⟩
    · simp [results, Tryz.results66]
      have B := blk_put3 R3.out ⟨2, ⟨none, 0, 0⟩, ⟨none, 0, 0⟩⟩
      simp only at B
      generalize hW7 : World.setCell _ _ _ = W7 at B ⊢
      exact run_ptv B
    · rw [HK2.out]
      exact HO_none 2
    · rw [HK2.out, Bool.or_true]
      exact B3.out.set3 (by omega) _ _ _

/-- A function's frame: its result's cells, the reader. -/
structure AX (s : ByteArray) (b : Nat) (w : World) (i : Nat) (wr ou fu : Bool) (W : World) : Prop where
  ex : Ex b w W
  res : Blk W w.heap.size (encT ⟨0, ⟨none, 0, 0⟩, ⟨none, 0, 0⟩⟩).toArray 26
  rd : BlkR W b s i wr ou fu
  lt : b < w.heap.size
theorem AX.start {s : ByteArray} {b : Nat} {w : World} {i : Nat} {wr ou fu : Bool} (hb : BlkR w b s i wr ou fu) : AX s b w i wr ou fu (w.alloc (.cells #[.int .i64 0, .slice none 0 0, .slice none 0 0] 26)) :=
  ⟨(Ex.refl _ _).alloc _, Blk.new _ _ _, hb.alloc _, hb.lt⟩
theorem AX.go {s : ByteArray} {b : Nat} {w : World} {i i' : Nat} {wr ou fu wr' ou' fu' : Bool} {W W' : World} (h : AX s b w i wr ou fu W) (g : Ex b W W') (hb : BlkR W' b s i' wr' ou' fu') : AX s b w i' wr' ou' fu' W' :=
  ⟨h.ex.trans g, Blk.ex g h.res (by have := h.lt; omega), hb, h.lt⟩
theorem AX.bel {s : ByteArray} {b : Nat} {w : World} {i : Nat} {wr ou fu : Bool} {W W' : World} (h : AX s b w i wr ou fu W) (g : Below W.heap.size W W') : AX s b w i wr ou fu W' := h.go (.of_bel g) (h.rd.bel g)

set_option maxRecDepth 100000 in
set_option maxHeartbeats 1000000 in
theorem one_any {s : ByteArray} {b i : Nat} {wr ou fu : Bool} {l h : Int} {w : World} (hb : BlkR w b s i wr ou fu) :
    Calls Tryz.prog 116 #[.pointer (some ⟨b, 0, none⟩), .int .u32 l, .int .u32 h] w fun e w' => ∃ r : PC, e = .returned r.v ∧ HO (fun g => w.heap.size ≤ g ∧ g < w'.heap.size) w' (.mk 1 [(l, h)] []) r ∧ Ex b w w' ∧ BlkR w' b s i wr (ou || decide (h < l)) fu := by
  have HA := AX.start hb
  have kr : ∀ W, AX s b w i wr ou fu W → Calls Tryz.prog 118 #[.pointer (some ⟨b, 0, none⟩), .int .u32 l, .int .u32 h] W fun e w' => (∃ v, e = .returned v) ∧ AX s b w i wr (ou || decide (h < l)) fu w' := fun W a => (rise_any a.rd).mono fun _ _ h => ⟨h.1, a.go h.2.1 h.2.2⟩
  have HI : Hid (AX s b w i wr ou fu _) := HA
  clear hb HA
  generalize (ou || decide (h < l)) = ou2 at *
  go_enter Tryz.func116, Tryz.ntmps116
  go_wp2_with (go_at_call 118; refine (kr _ HI.out).mono ?_; rintro _ w2 ⟨⟨v2, rfl⟩, a2⟩; have I2 : Hid (AX s b w i wr ou2 fu w2) := a2; have r2 := (I2.out.bel (bel_alloc _ (.cells #[.int .u32 l, .int .u32 h] 44))).res; obtain ⟨y0, y1, y2⟩ := BlkT.cs r2; have z0 := r2.frozen; clear a2 r2)
  have I3 : Hid (AX s b w i wr ou2 fu (w2.alloc (.cells #[.int .u32 l, .int .u32 h] 44))) := I2.out.bel (bel_alloc _ _)
  refine bodyPost_ret (v := PC.v ⟨1, ⟨some ⟨w2.heap.size, 0, none⟩, 1, 1⟩, ⟨none, 0, 0⟩⟩) ?_ rfl ⟨_, rfl, ?_, set3_ex I3.out.ex (Nat.le_refl _) _ _ _, I3.out.rd.set3 (by have := I3.out.lt; omega) _ _ _⟩
  · simp [results, Tryz.results116]
    have B := blk_put3 I3.out.res ⟨1, ⟨some ⟨w2.heap.size, 0, none⟩, 1, 1⟩, ⟨none, 0, 0⟩⟩
    simp only at B
    generalize hW7 : World.setCell _ _ _ = W7 at B ⊢
    exact run_ptv B
  · have hl := I2.out.res.lt
    exact HO_one ((Blk.new w2 #[.int .u32 l, .int .u32 h] 44).set3 (by omega) _ _ _) (by first | rfl | (simp [cellsOf, encS]; omega)) ⟨by omega, by simp⟩

set_option maxRecDepth 100000 in
set_option maxHeartbeats 1000000 in
theorem joinedR_any {P : Nat → Prop} {s : ByteArray} {b i : Nat} {wr ou fu : Bool} {k : Int} {ts : List Tree} {bs : Sl} {w : World} (hb : BlkR w b s i wr ou fu) (hok : okT (.mk k [] ts)) (hP : ∀ g, P g → g < w.heap.size) (hx : HO P w (.mk k [] ts) ⟨k, ⟨none, 0, 0⟩, bs⟩) :
    Calls Tryz.prog 50 #[.pointer (some ⟨b, 0, none⟩), .int .i64 k, bs.v] w fun e w' => ∃ r : PC, e = .returned r.v ∧ HO P w' (singleM k ts).1 r ∧ Ex b w w' ∧ BlkR w' b s i wr ou (fu || (singleM k ts).2) := by
  have HX : Hid (HO P w (.mk k [] ts) ⟨k, ⟨none, 0, 0⟩, bs⟩) := hx
  have HPp : Hid (∀ g, P g → g < w.heap.size) := hP
  have HB : Hid (BlkR w b s i wr ou fu) := hb
  have HA := AX.start hb
  have kk : ∀ W, AX s b w i wr ou fu W → Below w.heap.size w W → Calls Tryz.prog 66 #[.pointer (some ⟨b, 0, none⟩), PC.v ⟨k, ⟨none, 0, 0⟩, bs⟩] W fun e w' => ∃ r : PC, e = .returned r.v ∧ HO P w' (keptM (.mk k [] ts)).1 r ∧ AX s b w i wr ou (fu || (keptM (.mk k [] ts)).2) w' := fun W h1 h2 => (kept_any h1.rd hok (fun g hg => Nat.lt_of_lt_of_le (hP g hg) h2.size) (HO.same (fun _ h => h) (fun g hg => h2.block g (hP g hg)) hx)).mono fun _ _ ⟨r, e1, e2, e3, e4⟩ => ⟨r, e1, e2, h1.go e3 e4⟩
  obtain ⟨h1, h2, rows, ⟨h3, h3P⟩, h4⟩ := (HO_mk _ _ _ _ _ _).1 hx
  obtain ⟨x4, x5, x6⟩ := bs
  have h5 := h4.len
  obtain ⟨a', c', e'⟩ := h3.form
  injection e' with ea eb ec
  simp only at h3 h3P eb
  rw [h5] at eb
  have HI : Hid (AX s b w i wr ou fu (w.alloc (.cells #[.int .i64 0, .slice none 0 0, .slice none 0 0] 26))) := HA
  by_cases hn : ts.length = 1
  · obtain ⟨t, rfl⟩ := List.length_eq_one_iff.1 hn
    have e1 : ((x5 : Int) == 1) = true := by simp; omega
    have hl5 : (0 : Int) < x5 := by omega
    obtain ⟨r, rest, rfl, hr, hrest⟩ := (HOs_cons _ _ _ _ _).1 h4
    rw [HOs_nil] at hrest
    subst hrest
    have hrow : RowT w (.slice x4 x5 x6) [r] := h3.row encT_len
    obtain ⟨rb, ro, rfl, hrb, q0, q1, q2⟩ := RowX.cs3 hrow (k := 0) rfl
    have q0' := ((bel_alloc w (.cells #[.int .i64 0, .slice none 0 0, .slice none 0 0] 26)).cell (by exact hrb)).trans q0
    have q1' := ((bel_alloc w (.cells #[.int .i64 0, .slice none 0 0, .slice none 0 0] 26)).cell (by exact hrb)).trans q1
    have q2' := ((bel_alloc w (.cells #[.int .i64 0, .slice none 0 0, .slice none 0 0] 26)).cell (by exact hrb)).trans q2
    simp only [Nat.zero_mul, Nat.add_zero] at q0' q1' q2'
    have HR : Hid (HO P w t r) := hr
    obtain ⟨rk, ⟨r1, r2, r3⟩, r4, r5, r6⟩ := r
    simp only at q0' q1' q2'
    have HBr : Hid (rb < w.heap.size) := hrb
    clear hx hb hok hP kk h1 h2 h3 h3P h4 h5 ea eb ec hn hrow q0 q1 q2 hr HA
    obtain ⟨y0, y1, y2⟩ := BlkT.cs HI.out.res
    have z0 := HI.out.res.frozen
    show Calls Tryz.prog 50 #[.pointer (some ⟨b, 0, none⟩), .int .i64 k, .slice (some ⟨rb, ro, none⟩) x5 x6] w _
    go_enter Tryz.func50, Tryz.ntmps50
    go_wp2_with fail
    refine bodyPost_ret (v := PC.v ⟨rk, ⟨r1, r2, r3⟩, ⟨r4, r5, r6⟩⟩) ?_ rfl ⟨_, rfl, ?_, (Ex.refl b w).alloc _, ?_⟩
    · simp [results, Tryz.results50]
      exact run_ptv (x := ⟨rk, ⟨r1, r2, r3⟩, ⟨r4, r5, r6⟩⟩) (Blk.new' _ _ _ _ (by simp))
    · exact HO.same (fun _ h => h) (fun g hg => (bel_alloc _ _).block g (HPp.out g hg)) HR.out
    · show BlkR _ b s i wr ou (fu || false)
      rw [Bool.or_false]
      exact HB.out.alloc _
  · have e1 : ((x5 : Int) == 1) = false := by simp; omega
    have HS : Hid (singleM k ts = keptM (.mk k [] ts)) := by
      show _ = _
      unfold singleM
      split
      · exact absurd rfl hn
      · rfl
    clear hx hb hok hP h1 h2 h3 h3P h4 h5 ea eb ec hn HA
    show Calls Tryz.prog 50 #[.pointer (some ⟨b, 0, none⟩), .int .i64 k, .slice x4 x5 x6] w _
    go_enter Tryz.func50, Tryz.ntmps50
    go_wp2_with (go_at_call 66; refine (kk _ HI.out (bel_alloc _ _)).mono ?_; rintro _ w3 ⟨⟨rk, ⟨r1, r2, r3⟩, r4, r5, r6⟩, rfl, ho3, a3⟩; have H3 : Hid (HO P w3 (keptM (.mk k [] ts)).1 ⟨rk, ⟨r1, r2, r3⟩, r4, r5, r6⟩) := ho3; have A3 : Hid (AX s b w i wr ou (fu || (keptM (.mk k [] ts)).2) w3) := a3; obtain ⟨y0, y1, y2⟩ := BlkT.cs A3.out.res; have z0 := A3.out.res.frozen; clear ho3 a3)
    refine bodyPost_ret (v := PC.v ⟨rk, ⟨r1, r2, r3⟩, ⟨r4, r5, r6⟩⟩) ?_ rfl ⟨_, rfl, ?_, set3_ex A3.out.ex (Nat.le_refl _) _ _ _, ?_⟩
    · simp [results, Tryz.results50]
      have B := blk_put3 A3.out.res ⟨rk, ⟨r1, r2, r3⟩, ⟨r4, r5, r6⟩⟩
      simp only at B
      generalize hW7 : World.setCell _ _ _ = W7 at B ⊢
      exact run_ptv B
    · rw [HS.out]
      exact HO.same (fun _ h => h) (fun g hg => heap_set3 (by have := HPp.out g hg; omega) _ _ _) H3.out
    · rw [HS.out]
      exact A3.out.rd.set3 (by have := A3.out.lt; omega) _ _ _

set_option maxRecDepth 100000 in
set_option maxHeartbeats 1000000 in
theorem starR_P {P : Nat → Prop} {s : ByteArray} {b i : Nat} {wr ou fu : Bool} {t : Tree} {x : PC} {w : World} (hb : BlkR w b s i wr ou fu) (hr : rightT t = true) (hP : ∀ g, P g → g < w.heap.size) (hx : HO P w t x) :
    Calls Tryz.prog 47 #[.pointer (some ⟨b, 0, none⟩), x.v] w fun e w' => ∃ r : PC, e = .returned r.v ∧ HO (fun g => P g ∨ g = w.heap.size + 2) w' (keptM (stT t)).1 r ∧ Ex b w w' ∧ w.heap.size + 2 < w'.heap.size ∧ BlkR w' b s i wr ou (fu || (keptM (stT t)).2) := by
  have HX : Hid (HO P w t x) := hx
  have HPp : Hid (∀ g, P g → g < w.heap.size) := hP
  have HB : Hid (BlkR w b s i wr ou fu) := hb
  have hlt := hb.lt
  have kk : ∀ (Q : Nat → Prop) (y : PC) (W : World), BlkR W b s i wr ou fu → (∀ g, Q g → g < W.heap.size) → HO Q W (stT t) y → Calls Tryz.prog 66 #[.pointer (some ⟨b, 0, none⟩), y.v] W fun e w' => ∃ r : PC, e = .returned r.v ∧ HO Q w' (keptM (stT t)).1 r ∧ Ex b W w' ∧ BlkR w' b s i wr ou (fu || (keptM (stT t)).2) := fun Q y W h1 h2 h3 => kept_any h1 (ok_st hr) h2 h3
  obtain ⟨xk, ⟨x1, x2, x3⟩, x4, x5, x6⟩ := x
  have HI : Hid (KI b s i wr ou fu w ⟨xk, ⟨x1, x2, x3⟩, ⟨x4, x5, x6⟩⟩ ((w.alloc (.cells #[.int .i64 xk, .slice x1 x2 x3, .slice x4 x5 x6] 26)).alloc (.cells #[.int .i64 0, .slice none 0 0, .slice none 0 0] 26))) :=
    ⟨bstep (bel_alloc _ _) (bel_alloc _ _), (Blk.new _ _ _).alloc _, Blk.new' _ _ _ _ (by simp)⟩
  clear hx hb hP hr
  go_enter Tryz.func47, Tryz.ntmps47
  go_wp2_with (have I3 : Hid (KI b s i wr ou fu w ⟨xk, ⟨x1, x2, x3⟩, ⟨x4, x5, x6⟩⟩ (((w.alloc (.cells #[.int .i64 xk, .slice x1 x2 x3, .slice x4 x5 x6] 26)).alloc (.cells #[.int .i64 0, .slice none 0 0, .slice none 0 0] 26)).alloc (.cells #[.int .i64 xk, .slice x1 x2 x3, .slice x4 x5 x6] 26))) := HI.out.go (bel_alloc _ _); go_at_call 66; refine (kk (fun g => P g ∨ g = w.heap.size + 2) ⟨4, ⟨none, 0, 0⟩, ⟨some ⟨w.heap.size + 1 + 1, 0, none⟩, 1, 1⟩⟩ _ (HB.out.bel I3.out.bel) (fun g hg => hg.elim (fun h => Nat.lt_of_lt_of_le (HPp.out g h) I3.out.bel.size) (fun h => by subst h; simp)) (HO_sub1 (HO.same (fun _ h => Or.inl h) (fun g hg => I3.out.bel.block g (HPp.out g hg)) HX.out) (Blk.new' _ _ _ _ (by simp)) rfl (Or.inr rfl))).mono ?_; rintro _ w3 ⟨⟨rk, ⟨r1, r2, r3⟩, r4, r5, r6⟩, rfl, ho3, ex3, b3⟩; have H3 : Hid (HO (fun g => P g ∨ g = w.heap.size + 2) w3 (keptM (stT t)).1 ⟨rk, ⟨r1, r2, r3⟩, r4, r5, r6⟩) := ho3; have E3 : Hid (Ex b w w3) := (Ex.of_bel I3.out.bel).trans ex3; have S3 : Hid (w.heap.size + 2 < w3.heap.size) := (by have := ex3.size; simp at this; exact (by omega : w.heap.size + 2 < w3.heap.size)); have B3 : Hid (BlkR w3 b s i wr ou (fu || (keptM (stT t)).2)) := b3; have R3 : Hid (Blk w3 (w.heap.size + 1) (encT ⟨0, ⟨none, 0, 0⟩, ⟨none, 0, 0⟩⟩).toArray 26) := Blk.ex ex3 I3.out.res (by omega); obtain ⟨y0, y1, y2⟩ := BlkT.cs R3.out; have z0 := R3.out.frozen; clear ho3 ex3 b3)
  refine bodyPost_ret (v := PC.v ⟨rk, ⟨r1, r2, r3⟩, ⟨r4, r5, r6⟩⟩) ?_ rfl ⟨_, rfl, ?_, set3_ex E3.out (by omega) _ _ _, by simpa using S3.out, ?_⟩
  · simp [results, Tryz.results47]
    have B := blk_put3 R3.out ⟨rk, ⟨r1, r2, r3⟩, ⟨r4, r5, r6⟩⟩
    simp only at B
    generalize hW7 : World.setCell _ _ _ = W7 at B ⊢
    exact run_ptv B
  · exact HO.same (fun _ h => h) (fun g hg => heap_set3 (hg.elim (fun h => by have := HPp.out g h; omega) (fun h => by omega)) _ _ _) H3.out
  · exact B3.out.set3 (by omega) _ _ _

set_option maxRecDepth 100000 in
set_option maxHeartbeats 1000000 in
theorem maybeR_P {P : Nat → Prop} {s : ByteArray} {b i : Nat} {wr ou fu : Bool} {t : Tree} {x : PC} {w : World} (hb : BlkR w b s i wr ou fu) (hr : rightT t = true) (hP : ∀ g, P g → g < w.heap.size) (hx : HO P w t x) :
    Calls Tryz.prog 96 #[.pointer (some ⟨b, 0, none⟩), x.v] w fun e w' => ∃ r : PC, e = .returned r.v ∧ HO (fun g => P g ∨ g = w.heap.size + 2) w' (keptM (optT t)).1 r ∧ Ex b w w' ∧ w.heap.size + 2 < w'.heap.size ∧ BlkR w' b s i wr ou (fu || (keptM (optT t)).2) := by
  have HX : Hid (HO P w t x) := hx
  have HPp : Hid (∀ g, P g → g < w.heap.size) := hP
  have HB : Hid (BlkR w b s i wr ou fu) := hb
  have hlt := hb.lt
  have kk : ∀ (Q : Nat → Prop) (y : PC) (W : World), BlkR W b s i wr ou fu → (∀ g, Q g → g < W.heap.size) → HO Q W (optT t) y → Calls Tryz.prog 66 #[.pointer (some ⟨b, 0, none⟩), y.v] W fun e w' => ∃ r : PC, e = .returned r.v ∧ HO Q w' (keptM (optT t)).1 r ∧ Ex b W w' ∧ BlkR w' b s i wr ou (fu || (keptM (optT t)).2) := fun Q y W h1 h2 h3 => kept_any h1 (ok_opt hr) h2 h3
  obtain ⟨xk, ⟨x1, x2, x3⟩, x4, x5, x6⟩ := x
  have HI : Hid (KI b s i wr ou fu w ⟨xk, ⟨x1, x2, x3⟩, ⟨x4, x5, x6⟩⟩ ((w.alloc (.cells #[.int .i64 xk, .slice x1 x2 x3, .slice x4 x5 x6] 26)).alloc (.cells #[.int .i64 0, .slice none 0 0, .slice none 0 0] 26))) :=
    ⟨bstep (bel_alloc _ _) (bel_alloc _ _), (Blk.new _ _ _).alloc _, Blk.new' _ _ _ _ (by simp)⟩
  clear hx hb hP hr
  go_enter Tryz.func96, Tryz.ntmps96
  go_wp2_with (have I3 : Hid (KI b s i wr ou fu w ⟨xk, ⟨x1, x2, x3⟩, ⟨x4, x5, x6⟩⟩ (((w.alloc (.cells #[.int .i64 xk, .slice x1 x2 x3, .slice x4 x5 x6] 26)).alloc (.cells #[.int .i64 0, .slice none 0 0, .slice none 0 0] 26)).alloc (.cells #[.int .i64 xk, .slice x1 x2 x3, .slice x4 x5 x6, .int .i64 2, .slice none 0 0, .slice none 0 0] 26))) := HI.out.go (bel_alloc _ _); go_at_call 66; refine (kk (fun g => P g ∨ g = w.heap.size + 2) ⟨3, ⟨none, 0, 0⟩, ⟨some ⟨w.heap.size + 1 + 1, 0, none⟩, 2, 2⟩⟩ _ (HB.out.bel I3.out.bel) (fun g hg => hg.elim (fun h => Nat.lt_of_lt_of_le (HPp.out g h) I3.out.bel.size) (fun h => by subst h; simp)) (HO_sub2 (HO.same (fun _ h => Or.inl h) (fun g hg => I3.out.bel.block g (HPp.out g hg)) HX.out) (HO_none 2) (Blk.new' _ _ _ _ (by simp)) rfl (Or.inr rfl))).mono ?_; rintro _ w3 ⟨⟨rk, ⟨r1, r2, r3⟩, r4, r5, r6⟩, rfl, ho3, ex3, b3⟩; have H3 : Hid (HO (fun g => P g ∨ g = w.heap.size + 2) w3 (keptM (optT t)).1 ⟨rk, ⟨r1, r2, r3⟩, r4, r5, r6⟩) := ho3; have E3 : Hid (Ex b w w3) := (Ex.of_bel I3.out.bel).trans ex3; have S3 : Hid (w.heap.size + 2 < w3.heap.size) := (by have := ex3.size; simp at this; exact (by omega : w.heap.size + 2 < w3.heap.size)); have B3 : Hid (BlkR w3 b s i wr ou (fu || (keptM (optT t)).2)) := b3; have R3 : Hid (Blk w3 (w.heap.size + 1) (encT ⟨0, ⟨none, 0, 0⟩, ⟨none, 0, 0⟩⟩).toArray 26) := Blk.ex ex3 I3.out.res (by omega); obtain ⟨y0, y1, y2⟩ := BlkT.cs R3.out; have z0 := R3.out.frozen; clear ho3 ex3 b3)
  refine bodyPost_ret (v := PC.v ⟨rk, ⟨r1, r2, r3⟩, ⟨r4, r5, r6⟩⟩) ?_ rfl ⟨_, rfl, ?_, set3_ex E3.out (by omega) _ _ _, by simpa using S3.out, ?_⟩
  · simp [results, Tryz.results96]
    have B := blk_put3 R3.out ⟨rk, ⟨r1, r2, r3⟩, ⟨r4, r5, r6⟩⟩
    simp only at B
    generalize hW7 : World.setCell _ _ _ = W7 at B ⊢
    exact run_ptv B
  · exact HO.same (fun _ h => h) (fun g hg => heap_set3 (hg.elim (fun h => by have := HPp.out g h; omega) (fun h => by omega)) _ _ _) H3.out
  · exact B3.out.set3 (by omega) _ _ _

set_option maxRecDepth 100000 in
set_option maxHeartbeats 2000000 in
theorem timesR_P {s : ByteArray} {b i : Nat} {wr ou fu : Bool} {m n : Int} {t : Tree} {x : PC} {w : World} (hb : BlkR w b s i wr ou fu) (hr : rightT t = true) (hm : -9223372036854775808 ≤ m ∧ m ≤ 9223372036854775807) (hn : -9223372036854775808 ≤ n ∧ n ≤ 9223372036854775807) (hx : HT w t x) :
    Calls Tryz.prog 95 #[.pointer (some ⟨b, 0, none⟩), x.v, .int .i64 m, .int .i64 n] w fun e w' => ∃ r : PC, e = .returned r.v ∧ HO (fun g => w.heap.size + 2 ≤ g ∧ g < w'.heap.size) w' (timesK t m n).1 r ∧ Ex b w w' ∧ BlkR w' b s i wr ou (fu || (timesK t m n).2) := by
  have HX : Hid (HT w t x) := hx
  have HB : Hid (BlkR w b s i wr ou fu) := hb
  have hlt := hb.lt
  have kt : ∀ W, HT W t x → Calls Tryz.prog 117 #[x.v, .int .i64 m, .int .i64 n] W fun e w' => PostT (timesT t m n) W e w' := fun W h => times_any t x m n W (ok_right hr) h hm hn
  clear hm hn
  obtain ⟨xk, ⟨x1, x2, x3⟩, x4, x5, x6⟩ := x
  have HI : Hid (KI b s i wr ou fu w ⟨xk, ⟨x1, x2, x3⟩, ⟨x4, x5, x6⟩⟩ ((w.alloc (.cells #[.int .i64 xk, .slice x1 x2 x3, .slice x4 x5 x6] 26)).alloc (.cells #[.int .i64 0, .slice none 0 0, .slice none 0 0] 26))) :=
    ⟨bstep (bel_alloc _ _) (bel_alloc _ _), (Blk.new _ _ _).alloc _, Blk.new' _ _ _ _ (by simp)⟩
  have kf : ∀ W, BlkR W b s i wr ou fu → Calls Tryz.prog 81 #[.pointer (some ⟨b, 0, none⟩)] W fun e w' => e = .returned (PC.v ⟨2, ⟨none, 0, 0⟩, ⟨none, 0, 0⟩⟩) ∧ Ex b W w' ∧ BlkR w' b s i wr ou true := fun W h => tooFull_any h
  obtain ⟨⟨tt, cc⟩, hT⟩ : ∃ q, timesT t m n = q := ⟨_, rfl⟩
  rw [hT] at kt
  by_cases hc : cc = 0
  · subst hc
    have HK2 : Hid (timesK t m n = (tt, false)) := by show _ = _; unfold timesK; rw [hT]; rfl
    clear hx hb hr hT kf
    go_enter Tryz.func95, Tryz.ntmps95
    go_wp2_with (go_at_call 117; refine (kt _ (HX.out.bel' HI.out.bel)).mono ?_; rintro _ w2 ⟨⟨rk, ⟨r1, r2, r3⟩, r4, r5, r6⟩, rfl, ho2, bb2⟩; have I2 : Hid (KI b s i wr ou fu w ⟨xk, ⟨x1, x2, x3⟩, ⟨x4, x5, x6⟩⟩ (w2.alloc (.cells #[.int .i64 rk, .slice r1 r2 r3, .slice r4 r5 r6] 26))) := (HI.out.go bb2).go (bel_alloc _ _); have H2 : Hid (HO (fun g => w.heap.size + 2 ≤ g ∧ g < w2.heap.size) w2 tt ⟨rk, ⟨r1, r2, r3⟩, r4, r5, r6⟩) := ho2.low (by simp); obtain ⟨y0, y1, y2⟩ := BlkT.cs I2.out.res; have z0 := I2.out.res.frozen; clear ho2 bb2)
    refine bodyPost_ret (v := PC.v ⟨rk, ⟨r1, r2, r3⟩, ⟨r4, r5, r6⟩⟩) ?_ rfl ⟨_, rfl, ?_, Ex.of_bel (set3_bel I2.out.bel (by omega) _ _ _), ?_⟩
    · simp [results, Tryz.results95]
      have B := blk_put3 I2.out.res ⟨rk, ⟨r1, r2, r3⟩, ⟨r4, r5, r6⟩⟩
      simp only at B
      generalize hW7 : World.setCell _ _ _ = W7 at B ⊢
      exact run_ptv B
    · rw [HK2.out]
      refine HO.same ?_ ?_ (H2.out.bel (bel_alloc _ (.cells #[.int .i64 rk, .slice r1 r2 r3, .slice r4 r5 r6] 26)))
      · intro g hg
        exact ⟨hg.1, by simpa using hg.2⟩
      · intro g hg
        exact heap_set3 (by omega) _ _ _
    · rw [HK2.out, Bool.or_false]
      exact HB.out.bel (set3_bel I2.out.bel (by omega) _ _ _)
  · have HK2 : Hid (timesK t m n = (emT, true)) := by show _ = _; unfold timesK; rw [hT, if_neg hc]
    have hc2 : (cc != 0) = true := by simpa using hc
    clear hx hb hr hT hc
    go_enter Tryz.func95, Tryz.ntmps95
    go_wp2_with (first
      | (go_at_call 117; refine (kt _ (HX.out.bel' HI.out.bel)).mono ?_; rintro _ w2 ⟨⟨rk, ⟨r1, r2, r3⟩, r4, r5, r6⟩, rfl, ho2, bb2⟩; have I2 : Hid (KI b s i wr ou fu w ⟨xk, ⟨x1, x2, x3⟩, ⟨x4, x5, x6⟩⟩ (w2.alloc (.cells #[.int .i64 rk, .slice r1 r2 r3, .slice r4 r5 r6] 26))) := (HI.out.go bb2).go (bel_alloc _ _); have B2 : Hid (BlkR (w2.alloc (.cells #[.int .i64 rk, .slice r1 r2 r3, .slice r4 r5 r6] 26)) b s i wr ou fu) := HB.out.bel I2.out.bel; clear ho2 bb2)
      | (go_at_call 81; refine (kf _ B2.out).mono ?_; rintro _ w3 ⟨rfl, ex3, b3⟩; have E3 : Hid (Ex b w w3) := (Ex.of_bel I2.out.bel).trans ex3; have B3 : Hid (BlkR w3 b s i wr ou true) := b3; have R3 : Hid (Blk w3 (w.heap.size + 1) (encT ⟨0, ⟨none, 0, 0⟩, ⟨none, 0, 0⟩⟩).toArray 26) := Blk.ex ex3 I2.out.res (by omega); obtain ⟨y0, y1, y2⟩ := BlkT.cs R3.out; have z0 := R3.out.frozen; clear ex3 b3))
    refine bodyPost_ret (v := PC.v ⟨2, ⟨none, 0, 0⟩, ⟨none, 0, 0⟩⟩) ?_ rfl ⟨_, rfl, ?_, set3_ex E3.out (by omega) _ _ _, ?_⟩
    · simp [results, Tryz.results95]
      have B := blk_put3 R3.out ⟨2, ⟨none, 0, 0⟩, ⟨none, 0, 0⟩⟩
      simp only at B
      generalize hW7 : World.setCell _ _ _ = W7 at B ⊢
      exact run_ptv B
    · rw [HK2.out]
      exact HO_none 2
    · rw [HK2.out, Bool.or_true]
      exact B3.out.set3 (by omega) _ _ _


theorem times_plus {t : Tree} (h : rightT t = true) : timesK t 1 (-1) = keptM (plusT t) := by
  have e : rowT t 1 0 true = plusT t := rfl
  have e2 : timesT t 1 (-1) = if rightT (plusT t) = true then (plusT t, 0) else (zeroT, 6) := by
    unfold timesT
    rw [if_neg (by decide), if_neg (by rw [h]; decide), if_neg (by decide)]
    show (if rightT (rowT t 1 0 true) = true then (rowT t 1 0 true, 0) else (zeroT, 6)) = _
    rw [e]
  unfold timesK keptM
  rw [e2]
  by_cases hp : rightT (plusT t) = true
  · rw [if_pos hp, if_pos hp]; rfl
  · rw [if_neg hp, if_neg hp]; rfl

end Go.Proofs.YtjjlkjfhhpogaaaGreatDoor
