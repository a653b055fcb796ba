/-
  The walk of again.
-/
import Derived.Test.YtjjlkjfhhpogaaaDoorE2
import Derived.Test.YtjjlkjfhhpogaaaDoorEq
import Derived.WalkMore
import Derived.Deep.LoopGhost
namespace Go.Proofs.YtjjlkjfhhpogaaaDoor
open Go.RowKit

/-- The state between two rounds. -/
structure AG (l : List Int) (t : Tree) (b i : Nat) (rows : List PV) (lo hi : Nat) (w : World) (p4 p5 p6 : Nat) (wr : World) (x : PV) (o f : Pl) : Prop where
  st : St l t wr b i (rows.set i x) x lo hi
  fr : Fr lo hi b w wr
  res : BlkL wr p4 .zero
  out : BlkL wr p5 o
  fresh : BlkL wr p6 f

theorem AG.gr {l : List Int} {t : Tree} {b i : Nat} {rows : List PV} {lo hi : Nat} {w wr w' : World} {p4 p5 p6 : Nat} {x : PV} {o f : Pl} (h : AG l t b i rows lo hi w p4 p5 p6 wr x o f) (k : Gr wr w') : AG l t b i rows lo hi w p4 p5 p6 w' x o f :=
  ⟨h.st.gr k, h.fr.gr k, h.res.gr k, h.out.gr k, h.fresh.gr k⟩
theorem AG.put6 {l : List Int} {t : Tree} {b i : Nat} {rows : List PV} {lo hi : Nat} {w wr : World} {p4 p5 p6 : Nat} {x : PV} {o f : Pl} (h : AG l t b i rows lo hi w p4 p5 p6 wr x o f) (hb : b < w.heap.size) (ht : hi ≤ w.heap.size) (h4 : p4 ≠ p6) (h5 : p5 ≠ p6) (h6 : w.heap.size ≤ p6) (qa qb qc qd : BitVec 64) :
    AG l t b i rows lo hi w p4 p5 p6 ((((wr.setCell ⟨p6, 0, none⟩ (.int .u64 (u qa))).setCell ⟨p6, 1, none⟩ (.int .u64 (u qb))).setCell ⟨p6, 2, none⟩ (.int .u64 (u qc))).setCell ⟨p6, 3, none⟩ (.int .u64 (u qd))) x o ⟨qa, qb, qc, qd⟩ :=
  ⟨h.st.set4 (by omega) (by omega) (by omega) _ _ _ _ _ _ _ _, h.fr.set4 (Or.inl (by omega)) _ _ _ _ _ _ _ _, Blk.other4 h.res h4 _ _ _ _ _ _ _ _, Blk.other4 h.out h5 _ _ _ _ _ _ _ _, BlkL.set4 h.fresh qa qb qc qd⟩
theorem AG.put5 {l : List Int} {t : Tree} {b i : Nat} {rows : List PV} {lo hi : Nat} {w wr : World} {p4 p5 p6 : Nat} {x : PV} {o f : Pl} (h : AG l t b i rows lo hi w p4 p5 p6 wr x o f) (hb : b < w.heap.size) (ht : hi ≤ w.heap.size) (h4 : p4 ≠ p5) (h5 : p6 ≠ p5) (h6 : w.heap.size ≤ p5) (qa qb qc qd : BitVec 64) :
    AG l t b i rows lo hi w p4 p5 p6 ((((wr.setCell ⟨p5, 0, none⟩ (.int .u64 (u qa))).setCell ⟨p5, 1, none⟩ (.int .u64 (u qb))).setCell ⟨p5, 2, none⟩ (.int .u64 (u qc))).setCell ⟨p5, 3, none⟩ (.int .u64 (u qd))) x ⟨qa, qb, qc, qd⟩ f :=
  ⟨h.st.set4 (by omega) (by omega) (by omega) _ _ _ _ _ _ _ _, h.fr.set4 (Or.inl (by omega)) _ _ _ _ _ _ _ _, Blk.other4 h.res h4 _ _ _ _ _ _ _ _, BlkL.set4 h.out qa qb qc qd, Blk.other4 h.fresh h5 _ _ _ _ _ _ _ _⟩

/-- What has been found so far, and what of it is new. -/
structure Found (l : List Int) (s : Tree) (N o f : Pl) : Prop where
  from_ : ∀ n, N.has n = true → o.has n = true
  chain : ∀ n, o.has n = true → ∃ i, N.has i = true ∧ Chain (Goes l s) i n
  new_ : ∀ n, f.has n = true → o.has n = true
  old : ∀ n j, o.has n = true → f.has n = false → Goes l s n j → o.has j = true

theorem Found.begin (l : List Int) (s : Tree) (N : Pl) : Found l s N N N :=
  ⟨fun _ h => h, fun n h => ⟨n, h, .refl _⟩, fun _ h => h, fun n j h1 h2 => by rw [h1] at h2; cases h2⟩
theorem Found.le {l : List Int} {s : Tree} {N o f : Pl} (h : Found l s N o f) (hN : ∀ n, N.has n = true → n ≤ l.length) : ∀ n, f.has n = true → n ≤ l.length := fun n hn => by
  obtain ⟨i, h1, h2⟩ := h.chain n (h.new_ n hn)
  exact (chain_le h2).2 (hN i h1)
theorem Found.next {l : List Int} {s : Tree} {N o f r : Pl} (h : Found l s N o f) (hr : ∀ j, r.has j = true ↔ ∃ n, f.has n = true ∧ Goes l s n j) : Found l s N (o.or (r.sub o)) (r.sub o) := by
  have e : ∀ j, (r.sub o).has j = true ↔ (∃ n, f.has n = true ∧ Goes l s n j) ∧ o.has j = false := fun j => by
    rw [Pl.has_sub, ← hr j]
    simp
  refine ⟨fun n hn => by rw [Pl.has_or, h.from_ n hn]; rfl, fun n hn => ?_, fun n hn => by rw [Pl.has_or, hn]; simp, fun n j h1 h2 h3 => ?_⟩
  · rw [Pl.has_or] at hn
    simp only [Bool.or_eq_true] at hn
    rcases hn with hn | hn
    · exact h.chain n hn
    · obtain ⟨⟨m, k1, k2⟩, _⟩ := (e n).1 hn
      obtain ⟨i, k3, k4⟩ := h.chain m (h.new_ m k1)
      exact ⟨i, k3, k4.snoc k2⟩
  · rw [Pl.has_or, h2, Bool.or_false] at h1
    rw [Pl.has_or]
    cases c : f.has n
    · rw [h.old n j h1 c h3]; rfl
    · cases d : o.has j
      · rw [(e j).2 ⟨⟨n, c, h3⟩, d⟩]; rfl
      · rfl
theorem Found.end_ {l : List Int} {s : Tree} {N o f r : Pl} (h : Found l s N o f) (hr : ∀ j, r.has j = true ↔ ∃ n, f.has n = true ∧ Goes l s n j) (hz : r.sub o = .zero) : ∀ j, o.has j = true ↔ ∃ i, N.has i = true ∧ Chain (Goes l s) i j := by
  have cl : ∀ n j, o.has n = true → Goes l s n j → o.has j = true := fun n j h1 h2 => by
    cases c : f.has n
    · exact h.old n j h1 c h2
    · cases d : o.has j
      · have e : (r.sub o).has j = true := by
          rw [Pl.has_sub, (hr j).2 ⟨n, c, h2⟩, d]; rfl
        rw [hz, Pl.has_zero] at e
        exact e
      · rfl
  intro j
  constructor
  · exact h.chain j
  · rintro ⟨i, h1, h2⟩
    have := h.from_ i h1
    clear h1
    induction h2 with
    | refl i => exact this
    | step k1 _ ih => exact ih (cl _ _ this k1)
theorem Found.less {o r : Pl} (hz : r.sub o ≠ .zero) : (o.or (r.sub o)).left < o.left := Pl.left_lt hz fun n hn => by
  rw [Pl.has_sub] at hn
  simp at hn
  exact hn.2

set_option maxRecDepth 100000 in
set_option maxHeartbeats 4000000 in
theorem again_any {l : List Int} (hl : l.length ≤ 255) {set : List (Int × Int)} {s : Tree} (hE : CE l s) (w : World) (b i : Nat) (rows : List PV) (x : PV) (lo hi : Nat) (N : Pl) (hS : St l (.mk 4 set [s]) w b i rows x lo hi) (hN : ∀ n, N.has n = true → n ≤ l.length) :
    Calls Tryd.prog 67 #[.pointer (some ⟨b, i * 11, none⟩), plv N] w fun e w' => PostG l (.mk 4 set [s]) (fun j => ∃ n, N.has n = true ∧ Chain (Goes l s) n j) b i rows lo hi w e w' := by
  have ks := fun (W : World) (R : List PV) (x : PV) (f : Pl) h hn => step_any (set := set) hl hE W b i R x lo hi f h hn
  have kw := fun o q W => with_any o q W
  have kn := fun o q W => without_any o q W
  have HBl : Hid (b < w.heap.size) := hS.lt
  have HTop : Hid (hi ≤ w.heap.size) := hS.top
  have HAt : Hid (rows[i]? = some x) := hS.at_
  have HN : Hid (∀ n, N.has n = true → n ≤ l.length) := hN
  have HS : Hid (St l (.mk 4 set [s]) w b i rows x lo hi) := hS
  clear hS hE hN
  go_enter Tryd.func67, Tryd.ntmps67
  go_wp2_with fail
  go_step3
  go_wp2_with fail
  go_region
  all_goals
    generalize hW : World.drew _ = W
    have g0 : Gr w W := by
      rw [← hW]
      exact (((((Gr.refl _).alloc _).alloc _).alloc _).alloc _).drewN 1
    have h4 : BlkL W (w.heap.size + 1) .zero := by
      rw [← hW]
      exact ((((Blk.new' _ _ _ _ (by simp)).alloc _).alloc _).drewN 1)
    have h5 : BlkL W (w.heap.size + 1 + 1) N := by
      rw [← hW]
      exact (((Blk.new' _ _ _ _ (by simp)).alloc _).drewN 1)
    have h6 : BlkL W (w.heap.size + 1 + 1 + 1) N := by
      rw [← hW]
      exact ((Blk.new' _ _ _ _ (by simp)).drewN 1)
    have hst : St l (.mk 4 set [s]) W b i (rows.set i x) x lo hi := by rw [set_id HAt.out]; exact HS.out.gr g0
    have hfr : Fr lo hi b w W := .of_gr g0
    clear hW g0
    generalize e4 : w.heap.size + 1 = p4 at *
  ·
    generalize ea : p4 + 1 = p5 at *
    generalize eb : p5 + 1 = p6 at *
    have n45 : p4 ≠ p5 := by omega
    have n46 : p4 ≠ p6 := by omega
    have n56 : p5 ≠ p6 := by omega
    have n65 : p6 ≠ p5 := by omega
    have m4 : w.heap.size ≤ p4 := by omega
    have m5 : w.heap.size ≤ p5 := by omega
    have m6 : w.heap.size ≤ p6 := by omega
    clear e4 ea eb
    have HG : Hid (AG l (.mk 4 set [s]) b i rows lo hi w p4 p5 p6 W x N N) := ⟨hst, hfr, h4, h5, h6⟩
    clear h4 h5 h6 hst hfr HS HAt
    go_wp2_with fail
    go_step3
    go_wp2_with fail
    go_loopg [] N.left (fun g wr => ∃ (x' : PV) (o f : Pl), o.left ≤ g ∧ Hid (AG l (.mk 4 set [s]) b i rows lo hi w p4 p5 p6 wr x' o f) ∧ Hid (Found l s N o f))
    case atStart => exact ⟨x, N, N, Nat.le_refl _, HG, Found.begin l s N⟩
    case round =>
      clear HG
      obtain ⟨x', o, f, hg, HI, HF⟩ := hrel
      obtain ⟨c0, c1, c2, c3⟩ := BlkL.cs HI.out.out
      obtain ⟨d0, d1, d2, d3⟩ := BlkL.cs HI.out.fresh
      go_wp2_with fail
      go_region_with
        (first
          | (go_at_call 84; refine (ks _ _ _ f (HI.out.st.drewN 1) (HF.out.le HN.out)).mono ?_; rintro _ w4 ⟨r4, x4, rfl, hr4, s4, f4⟩; have HR4 : Hid (∀ j, r4.has j = true ↔ ∃ n, f.has n = true ∧ Goes l s n j) := hr4; have I4 : Hid (AG l (.mk 4 set [s]) b i rows lo hi w p4 p5 p6 w4 x4 o f) := ⟨(by rw [List.set_set] at s4; exact s4), HI.out.fr.trans ((Fr.of_gr ((Gr.refl _).drewN 1)).trans f4), Blk.fr f4 HI.out.res (by have := HTop.out; omega) (by have := HBl.out; omega), Blk.fr f4 HI.out.out (by have := HTop.out; omega) (by have := HBl.out; omega), Blk.fr f4 HI.out.fresh (by have := HTop.out; omega) (by have := HBl.out; omega)⟩; clear hr4 s4 f4; obtain ⟨f0, f1, f2, f3⟩ := BlkL.cs I4.out.out)
          | (go_at_call 85; refine (kn r4 o _).mono ?_; rintro _ w5 ⟨rfl, gw⟩; have I5 : Hid (AG l (.mk 4 set [s]) b i rows lo hi w p4 p5 p6 w5 x4 o f) := I4.out.gr gw; clear gw; obtain ⟨g0, g1, g2, g3⟩ := BlkL.cs I5.out.fresh; have gf := I5.out.fresh.frozen))
      all_goals
        have I6 := I5.out.put6 HBl.out HTop.out n46 n56 m6 (r4.sub o).a (r4.sub o).b (r4.sub o).c (r4.sub o).d
        generalize hW6 : World.setCell _ _ _ = W6 at I6 ⊢
        have H6 : Hid (AG l (.mk 4 set [s]) b i rows lo hi w p4 p5 p6 W6 x4 o (r4.sub o)) := I6
        clear I6 hW6 c0 c1 c2 c3 d0 d1 d2 d3 f0 f1 f2 f3 g0 g1 g2 g3 gf HI I4 I5
        obtain ⟨c0, c1, c2, c3⟩ := BlkL.cs H6.out.out
        obtain ⟨d0, d1, d2, d3⟩ := BlkL.cs H6.out.fresh
        by_cases hz : r4.sub o = .zero
        case pos =>
          rw [hz] at d0 d1 d2 d3
          have z0 : u Pl.zero.a = 0 := rfl
          have z1 : u Pl.zero.b = 0 := rfl
          have z2 : u Pl.zero.c = 0 := rfl
          have z3 : u Pl.zero.d = 0 := rfl
          have HE : Hid (∀ j, o.has j = true ↔ ∃ i, N.has i = true ∧ Chain (Goes l s) i j) := HF.out.end_ HR4.out hz
          rw [z0] at d0
          rw [z1] at d1
          rw [z2] at d2
          rw [z3] at d3
          have HHZ : Hid (r4.sub o = .zero) := hz
          clear z0 z1 z2 z3 hz HF HR4
          obtain ⟨y0, y1, y2, y3⟩ := BlkL.cs H6.out.res
          have yf := H6.out.res.frozen
          have eqz : ∀ W, (Op.equalIn 10000 67 (.agg #[.int .u64 0, .int .u64 0, .int .u64 0, .int .u64 0]) (.agg #[.int .u64 0, .int .u64 0, .int .u64 0, .int .u64 0])).run Tryd.prog W = .ok true W := fun W => eqIn50z .zero W
          obtain ⟨oa, ob, oc, od⟩ := o
          simp only at c0 c1 c2 c3
          go_wp2_with fail
          try rw [Exit.noGoto_ret]
          refine bodyPost_ret (v := plv ⟨oa, ob, oc, od⟩) ?_ rfl ⟨⟨oa, ob, oc, od⟩, x4, rfl, HE.out, ?_, ?_⟩
          · simp [results, Tryd.results67]
            exact run_plv (BlkL.set4 H6.out.res oa ob oc od)
          · exact H6.out.st.set4 (by have := HBl.out; omega) (by have := HTop.out; omega) (by have := HBl.out; have := m4; omega) _ _ _ _ _ _ _ _
          · exact H6.out.fr.set4 (Or.inl (by omega)) _ _ _ _ _ _ _ _
        case neg =>
          have eqn : ∀ W, (Op.equalIn 10000 67 (.agg #[.int .u64 (u (r4.sub o).a), .int .u64 (u (r4.sub o).b), .int .u64 (u (r4.sub o).c), .int .u64 (u (r4.sub o).d)]) (.agg #[.int .u64 0, .int .u64 0, .int .u64 0, .int .u64 0])).run Tryd.prog W = .ok false W := fun W => (eqIn50z (r4.sub o) W).trans (by rw [zero_test _ hz])
          have HF2 : Hid (Found l s N (o.or (r4.sub o)) (r4.sub o)) := HF.out.next HR4.out
          have HLs : Hid ((o.or (r4.sub o)).left < o.left) := Found.less hz
          clear HF HR4 hz
          generalize r4.sub o = f2 at *
          have c5 := H6.out.out.frozen
          go_wp2_with (go_at_call 62; refine (kw o f2 _).mono ?_; rintro _ w7 ⟨rfl, gw⟩; have I7 : Hid (AG l (.mk 4 set [s]) b i rows lo hi w p4 p5 p6 w7 x4 o f2) := H6.out.gr gw; clear gw; obtain ⟨g0, g1, g2, g3⟩ := BlkL.cs I7.out.out; have gf := I7.out.out.frozen)
          have I8 := I7.out.put5 HBl.out HTop.out n45 n65 m5 (o.or f2).a (o.or f2).b (o.or f2).c (o.or f2).d
          go_roundg (o.or f2).left
          case measure => have := HLs.out; omega
          case rel => exact ⟨x4, o.or f2, f2, Nat.le_refl _, I8, HF2⟩
  ·
    generalize ea : p4 + 1 = p6 at *
    generalize eb : p6 + 1 = p5 at *
    have n45 : p4 ≠ p5 := by omega
    have n46 : p4 ≠ p6 := by omega
    have n56 : p5 ≠ p6 := by omega
    have n65 : p6 ≠ p5 := by omega
    have m4 : w.heap.size ≤ p4 := by omega
    have m5 : w.heap.size ≤ p5 := by omega
    have m6 : w.heap.size ≤ p6 := by omega
    clear e4 ea eb
    have HG : Hid (AG l (.mk 4 set [s]) b i rows lo hi w p4 p5 p6 W x N N) := ⟨hst, hfr, h4, h6, h5⟩
    clear h4 h5 h6 hst hfr HS HAt
    go_wp2_with fail
    go_step3
    go_wp2_with fail
    go_loopg [] N.left (fun g wr => ∃ (x' : PV) (o f : Pl), o.left ≤ g ∧ Hid (AG l (.mk 4 set [s]) b i rows lo hi w p4 p5 p6 wr x' o f) ∧ Hid (Found l s N o f))
    case atStart => exact ⟨x, N, N, Nat.le_refl _, HG, Found.begin l s N⟩
    case round =>
      clear HG
      obtain ⟨x', o, f, hg, HI, HF⟩ := hrel
      obtain ⟨c0, c1, c2, c3⟩ := BlkL.cs HI.out.out
      obtain ⟨d0, d1, d2, d3⟩ := BlkL.cs HI.out.fresh
      go_wp2_with fail
      go_region_with
        (first
          | (go_at_call 84; refine (ks _ _ _ f (HI.out.st.drewN 1) (HF.out.le HN.out)).mono ?_; rintro _ w4 ⟨r4, x4, rfl, hr4, s4, f4⟩; have HR4 : Hid (∀ j, r4.has j = true ↔ ∃ n, f.has n = true ∧ Goes l s n j) := hr4; have I4 : Hid (AG l (.mk 4 set [s]) b i rows lo hi w p4 p5 p6 w4 x4 o f) := ⟨(by rw [List.set_set] at s4; exact s4), HI.out.fr.trans ((Fr.of_gr ((Gr.refl _).drewN 1)).trans f4), Blk.fr f4 HI.out.res (by have := HTop.out; omega) (by have := HBl.out; omega), Blk.fr f4 HI.out.out (by have := HTop.out; omega) (by have := HBl.out; omega), Blk.fr f4 HI.out.fresh (by have := HTop.out; omega) (by have := HBl.out; omega)⟩; clear hr4 s4 f4; obtain ⟨f0, f1, f2, f3⟩ := BlkL.cs I4.out.out)
          | (go_at_call 85; refine (kn r4 o _).mono ?_; rintro _ w5 ⟨rfl, gw⟩; have I5 : Hid (AG l (.mk 4 set [s]) b i rows lo hi w p4 p5 p6 w5 x4 o f) := I4.out.gr gw; clear gw; obtain ⟨g0, g1, g2, g3⟩ := BlkL.cs I5.out.fresh; have gf := I5.out.fresh.frozen))
      all_goals
        have I6 := I5.out.put6 HBl.out HTop.out n46 n56 m6 (r4.sub o).a (r4.sub o).b (r4.sub o).c (r4.sub o).d
        generalize hW6 : World.setCell _ _ _ = W6 at I6 ⊢
        have H6 : Hid (AG l (.mk 4 set [s]) b i rows lo hi w p4 p5 p6 W6 x4 o (r4.sub o)) := I6
        clear I6 hW6 c0 c1 c2 c3 d0 d1 d2 d3 f0 f1 f2 f3 g0 g1 g2 g3 gf HI I4 I5
        obtain ⟨c0, c1, c2, c3⟩ := BlkL.cs H6.out.out
        obtain ⟨d0, d1, d2, d3⟩ := BlkL.cs H6.out.fresh
        by_cases hz : r4.sub o = .zero
        case pos =>
          rw [hz] at d0 d1 d2 d3
          have z0 : u Pl.zero.a = 0 := rfl
          have z1 : u Pl.zero.b = 0 := rfl
          have z2 : u Pl.zero.c = 0 := rfl
          have z3 : u Pl.zero.d = 0 := rfl
          have HE : Hid (∀ j, o.has j = true ↔ ∃ i, N.has i = true ∧ Chain (Goes l s) i j) := HF.out.end_ HR4.out hz
          rw [z0] at d0
          rw [z1] at d1
          rw [z2] at d2
          rw [z3] at d3
          have HHZ : Hid (r4.sub o = .zero) := hz
          clear z0 z1 z2 z3 hz HF HR4
          obtain ⟨y0, y1, y2, y3⟩ := BlkL.cs H6.out.res
          have yf := H6.out.res.frozen
          have eqz : ∀ W, (Op.equalIn 10000 67 (.agg #[.int .u64 0, .int .u64 0, .int .u64 0, .int .u64 0]) (.agg #[.int .u64 0, .int .u64 0, .int .u64 0, .int .u64 0])).run Tryd.prog W = .ok true W := fun W => eqIn50z .zero W
          obtain ⟨oa, ob, oc, od⟩ := o
          simp only at c0 c1 c2 c3
          go_wp2_with fail
          try rw [Exit.noGoto_ret]
          refine bodyPost_ret (v := plv ⟨oa, ob, oc, od⟩) ?_ rfl ⟨⟨oa, ob, oc, od⟩, x4, rfl, HE.out, ?_, ?_⟩
          · simp [results, Tryd.results67]
            exact run_plv (BlkL.set4 H6.out.res oa ob oc od)
          · exact H6.out.st.set4 (by have := HBl.out; omega) (by have := HTop.out; omega) (by have := HBl.out; have := m4; omega) _ _ _ _ _ _ _ _
          · exact H6.out.fr.set4 (Or.inl (by omega)) _ _ _ _ _ _ _ _
        case neg =>
          have eqn : ∀ W, (Op.equalIn 10000 67 (.agg #[.int .u64 (u (r4.sub o).a), .int .u64 (u (r4.sub o).b), .int .u64 (u (r4.sub o).c), .int .u64 (u (r4.sub o).d)]) (.agg #[.int .u64 0, .int .u64 0, .int .u64 0, .int .u64 0])).run Tryd.prog W = .ok false W := fun W => (eqIn50z (r4.sub o) W).trans (by rw [zero_test _ hz])
          have HF2 : Hid (Found l s N (o.or (r4.sub o)) (r4.sub o)) := HF.out.next HR4.out
          have HLs : Hid ((o.or (r4.sub o)).left < o.left) := Found.less hz
          clear HF HR4 hz
          generalize r4.sub o = f2 at *
          have c5 := H6.out.out.frozen
          go_wp2_with (go_at_call 62; refine (kw o f2 _).mono ?_; rintro _ w7 ⟨rfl, gw⟩; have I7 : Hid (AG l (.mk 4 set [s]) b i rows lo hi w p4 p5 p6 w7 x4 o f2) := H6.out.gr gw; clear gw; obtain ⟨g0, g1, g2, g3⟩ := BlkL.cs I7.out.out; have gf := I7.out.out.frozen)
          have I8 := I7.out.put5 HBl.out HTop.out n45 n65 m5 (o.or f2).a (o.or f2).b (o.or f2).c (o.or f2).d
          go_roundg (o.or f2).left
          case measure => have := HLs.out; omega
          case rel => exact ⟨x4, o.or f2, f2, Nat.le_refl _, I8, HF2⟩
end Go.Proofs.YtjjlkjfhhpogaaaDoor
