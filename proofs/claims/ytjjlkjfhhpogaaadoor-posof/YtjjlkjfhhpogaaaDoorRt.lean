/-
  Rows of bools in memory: made, copied, stored; what the document's ends comes to.
  The walk of the document's ends, of a One.
  The walk of the document's ends, of a Cat.
  The walk of the document's ends, of an Alt.
  The walk of the document's ends, of a Star.
  The walks of the document's ends, of any right pattern, and of the document's Match and Takes.
-/
import Derived.Test.YtjjlkjfhhpogaaaDoorMa
import Derived.Test.YtjjlkjfhhpogaaaDoorTm
import Derived.Laws.CopyOwn
import Derived.Deep.LoopGhost
namespace Go.Proofs.YtjjlkjfhhpogaaaDoor
open Go.RowKit

def brow (l : List Bool) : Array Value := (cellsOf encB l).toArray
theorem info4 : (Tryd.prog.info? 4).map (fun i => (i.zero, i.size, i.bytes)) = some (some (.bool false), 1, 1) := by kernel_rfl
theorem make4 (N : Nat) (hN : N ≤ 400) (W : World) : (Instr.makeSlice 96 (.int .i64 N) (.int .i64 N)).run Tryd.prog W = .ok (.slice (some ⟨W.heap.size, 0, none⟩) N N) (W.alloc (.cells (brow (List.replicate N false)) 4)) := by
  obtain ⟨i, hi, hz, hz1, hz2⟩ := info_parts info4
  have := run_make (P := Tryd.prog) W 96 4 i _ Tryd.underlying96 hi hz .i64 .i64 N N (by omega) (by omega) (by rw [hz2]; omega) (by omega)
  rw [this, hz1]
  exact congrArg (fun c => Result.ok (Value.slice (some ⟨W.heap.size, 0, none⟩) N N) (W.alloc (.cells c 4))) (made_rows encB_len (by omega) false _ rfl N)

theorem brow_at {W : World} {b i : Nat} {bs : List Bool} {q : Bool} (h : Blk W b (brow bs) 4) (hi : bs[i]? = some q) : W.cell? ⟨b, i, none⟩ = some (.bool q) := by
  rw [h.c i]
  unfold brow
  rw [List.getElem?_toArray]
  have := cellsOf_at encB_len bs i q hi 0 _ rfl
  rw [show i * 1 + 0 = i by omega] at this
  exact this
theorem brow_set {W : World} {b i : Nat} {bs : List Bool} (h : Blk W b (brow bs) 4) (hi : i < bs.length) (q : Bool) : Blk (W.setCell ⟨b, i, none⟩ (.bool q)) b (brow (bs.set i q)) 4 := by
  have h1 := h.set i (.bool q)
  unfold brow at h1 ⊢
  rw [List.setIfInBounds_toArray] at h1
  obtain ⟨y, hy⟩ : ∃ y, bs[i]? = some y := ⟨_, List.getElem?_eq_getElem hi⟩
  have h2 := cellsOf_set encB_len bs i y q hy 0 (.bool q) rfl (by omega)
  rw [show i * 1 + 0 = i by omega] at h2
  rw [h2] at h1
  exact h1
theorem brow_toList (bs : List Bool) : (brow bs).toList = cellsOf encB bs := by simp [brow]
theorem brow_size (bs : List Bool) : (brow bs).size = bs.length := by
  have := cellsOf_length encB_len bs
  simp [brow, this]

/-- 'copy' of a whole row of bools over another one. -/
theorem wp_copyB {w : World} {ops : Array Oper} {rest : List Oper} {o : Oper} {a : Act} {Q : Exit → Act → World → Prop} (hgd : o.guard = none) (d s : Operand)
    (ho : o.op = .call { callee := .builtin .copy, args := #[d, s], argTypes := #[96, 96] }) (g ab n : Nat) (hd : a.eval d = .slice (some ⟨g, 0, none⟩) n n) (hs : a.eval s = .slice (some ⟨ab, 0, none⟩) n n)
    (cur bs : List Bool) (hg : Blk w g (brow cur) 4) (hb : Blk w ab (brow bs) 4) (hc : cur.length = n) (hl : bs.length = n)
    (h : ∀ w', Blk w' g (brow bs) 4 → Below g w w' → w.drawn ≤ w'.drawn → wpList Tryd.prog ops Q rest (a.put o.dst (goInt n)) w') : wpList Tryd.prog ops Q (o :: rest) a w := by
  have hlen : (cellsOf encB bs).length = n := by rw [cellsOf_length encB_len, hl, Nat.mul_one]
  have hcur : (cellsOf encB cur).length = n := by rw [cellsOf_length encB_len, hc, Nat.mul_one]
  have hsz : (Tryd.prog.info? 4).map (·.size) = some 1 := by kernel_rfl
  refine wpList_copy_own hgd d s 96 96 ho 4 Tryd.underlying96 hsz g 0 n n ⟨ab, 0, none⟩ n n hd hs (brow cur) 4 hg (cellsOf encB bs) (by rw [hlen]; exact (Nat.min_self n).symm) ?_ ?_ ?_ ?_
  · intro j v hv
    rw [add_none, Nat.zero_add, hb.c, ← Array.getElem?_toList, brow_toList]
    exact hv
  · rw [brow_size, hc, hlen]; omega
  · intro v hv
    obtain ⟨x, _, hx⟩ := List.mem_flatMap.1 hv
    exact oneB x v hx
  · rw [hlen]
    have e : ((brow cur).toList.take 0 ++ (cellsOf encB bs ++ (brow cur).toList.drop (0 + n))).toArray = brow bs := by
      rw [brow_toList, List.take_zero, List.nil_append, Nat.zero_add, List.drop_eq_nil_of_le (by omega), List.append_nil]
      rfl
    rw [e]
    exact h _ (setRow_heap w g _ _ 4 _ hg) (below_setRow (Below.refl _ _) (Nat.le_refl _) _) (Nat.le_refl _)

/-- A place is on. -/
def On (bs : List Bool) (j : Nat) : Prop := bs[j]? = some true
theorem on_false (N j : Nat) : ¬ On (List.replicate N false) j := by
  unfold On
  rw [List.getElem?_replicate]
  split <;> simp
theorem on_set {bs : List Bool} {i : Nat} (hi : i < bs.length) (j : Nat) : On (bs.set i true) j ↔ On bs j ∨ j = i := by
  unfold On
  by_cases e : i = j
  · subst e
    simp [hi]
  · rw [List.getElem?_set_ne e]
    constructor
    · intro h; exact Or.inl h
    · rintro (h | h)
      · exact h
      · exact absurd h.symm e
theorem on_lt {bs : List Bool} {j : Nat} (h : On bs j) : j < bs.length := (List.getElem?_eq_some_iff.1 h).1
theorem off_of {bs : List Bool} {j : Nat} (h : bs[j]? = some false) : ¬ On bs j := by unfold On; rw [h]; simp

def PostE (l : List Int) (t : Tree) (bs : List Bool) (w : World) (e : Ending) (w' : World) : Prop :=
  ∃ (ob : Nat) (os : List Bool), e = .returned (.slice (some ⟨ob, 0, none⟩) (l.length + 1) (l.length + 1)) ∧ w.heap.size ≤ ob ∧ Blk w' ob (brow os) 4 ∧ os.length = l.length + 1 ∧ (∀ j, On os j ↔ ∃ i, On bs i ∧ Goes l t i j) ∧ Gr w w'
/-- What the document's ends does with a part. -/
def CR (l : List Int) (pv : Value) (t : Tree) : Prop := ∀ (x : PC) (w : World) (ab : Nat) (bs : List Bool), HT w t x → RowN w pv l → Blk w ab (brow bs) 4 → bs.length = l.length + 1 →
  Calls Tryd.prog 68 #[x.v, pv, .slice (some ⟨ab, 0, none⟩) (l.length + 1) (l.length + 1)] w fun e w' => PostE l t bs w e w'

/-- Between the rounds: the pattern in its box, the answer in its block. -/
structure EX (w : World) (x : PC) (ob : Nat) (os : List Bool) (W : World) : Prop where
  gr : Gr w W
  box : Blk W w.heap.size (encT x).toArray 25
  out : Blk W ob (brow os) 4
  hob : w.heap.size < ob
theorem EX.bel {w : World} {x : PC} {ob : Nat} {os : List Bool} {W : World} (h : EX w x ob os W) : Below w.heap.size w W := h.gr.below
theorem EX.go {w : World} {x : PC} {ob : Nat} {os : List Bool} {W W' : World} (h : EX w x ob os W) (g : Gr W W') : EX w x ob os W' := ⟨h.gr.trans g, h.box.bel g.below, h.out.bel g.below, h.hob⟩
theorem EX.set {w : World} {x : PC} {ob : Nat} {os : List Bool} {W : World} (h : EX w x ob os W) {i : Nat} (hi : i < os.length) (q : Bool) : EX w x ob (os.set i q) (W.setCell ⟨ob, i, none⟩ (.bool q)) :=
  ⟨h.gr.setCell (by have := h.hob; show w.heap.size ≤ ob; omega) _, h.box.other (by have := h.hob; show w.heap.size ≠ ob; omega) _, brow_set h.out hi q, h.hob⟩
theorem EX.copied {w : World} {x : PC} {ob : Nat} {os bs : List Bool} {W W' : World} (h : EX w x ob os W) (hb : Blk W' ob (brow bs) 4) (g : Below ob W W') (d : W.drawn ≤ W'.drawn) : EX w x ob bs W' :=
  ⟨.of (h.bel.trans (g.mono (by have := h.hob; omega))) (Nat.le_trans h.gr.drawn d), (g.block _ h.hob).trans h.box, hb, h.hob⟩

end Go.Proofs.YtjjlkjfhhpogaaaDoor

namespace Go.Proofs.YtjjlkjfhhpogaaaDoor
open Go.RowKit


set_option maxRecDepth 100000 in
set_option maxHeartbeats 8000000 in
theorem rends_one {l : List Int} {pv : Value} {set : List (Int × Int)} {subs : List Tree} (hl : l.length ≤ 255) (hset : set.length ≤ 256) : CR l pv (.mk 1 set subs) := by
  intro x w ab bs hx hp hab hbs
  obtain ⟨k, set', subs', rows, sa, sc, ba, bc, he, rfl, hS, hB, hT⟩ := hx.parts
  injection he with e1 e2 e3
  subst e1 e2 e3
  obtain ⟨pa, pc, rfl⟩ := hp.form
  obtain ⟨N, hN⟩ : ∃ N, N = subs.length := ⟨_, rfl⟩
  obtain ⟨S, hSn⟩ : ∃ S, S = set.length := ⟨_, rfl⟩
  obtain ⟨L, hL⟩ : ∃ L, L = l.length := ⟨_, rfl⟩
  have HN : Hid (N = subs.length) := hN
  have HL : Hid (L = l.length) := hL
  have HSn : Hid (S = set.length) := hSn
  have HS : Hid (RowS w (.slice sa S sc) set) := by rw [hSn]; exact hS
  have HB : Hid (RowT w (.slice ba N bc) rows) := by rw [hN]; exact hB
  have HT' : Hid (HTs w subs rows) := hT
  have HP : Hid (RowN w (.slice pa L pc) l) := by rw [hL]; exact hp
  have HA : Hid (Blk w ab (brow bs) 4) := hab
  have HAl : Hid (bs.length = L + 1) := by rw [hL]; exact hbs
  have hll : L ≤ 255 := by omega
  have hab2 : ab < w.heap.size := hab.lt
  rw [← hN, ← hSn, ← hL]
  have HPo : Hid (PostE l (.mk 1 set subs) bs w = fun e w' => ∃ (ob : Nat) (os : List Bool), e = .returned (.slice (some ⟨ob, 0, none⟩) (L + 1) (L + 1)) ∧ w.heap.size ≤ ob ∧ Blk w' ob (brow os) 4 ∧ os.length = L + 1 ∧ (∀ j, On os j ↔ ∃ i, On bs i ∧ Goes l (.mk 1 set subs) i j) ∧ Gr w w') := by show _ = _; rw [hL]; rfl
  have mk : ∀ W : World, (Instr.makeSlice 96 (.int .i64 ((L : Int) + 1)) (.int .i64 ((L : Int) + 1))).run Tryd.prog W = .ok (.slice (some ⟨W.heap.size, 0, none⟩) (L + 1) (L + 1)) (W.alloc (.cells (brow (List.replicate (L + 1) false)) 4)) := fun W => make4 (L + 1) (by omega) W
  clear hx hp hab hbs hS hB hT hN hSn hL
  go_enter Tryd.func68, Tryd.ntmps68
  go_upto_region 2 with fail
  generalize hW : World.alloc _ _ = W2
  have HI : Hid (EX w ⟨1, ⟨sa, S, sc⟩, ⟨ba, N, bc⟩⟩ (w.heap.size + 1) (List.replicate (L + 1) false) W2) := by
    rw [← hW]
    exact ⟨((Gr.refl _).alloc _).alloc _, (Blk.new _ _ _).alloc _, Blk.new' _ _ _ _ (by simp), by omega⟩
  clear hW mk
  obtain ⟨x0, x1, x2⟩ := BlkT.cs HI.out.box
  simp only at x0 x1 x2
  have kin : ∀ W n, Below w.heap.size w W → Calls Tryd.prog 37 #[.slice sa S sc, .int .u32 n] W fun e w' => e = .returned (.bool (inSet set n)) ∧ Gr W w' := fun W n g => rin_any _ set n W (by omega) (HS.out.bel g)
  go_wp2_with fail
  clear x0 x1 x2
  go_loopw [28] (fun vi wr => ∃ (k : Nat) (os : List Bool), k ≤ L ∧ vi = .int .i64 k ∧ Hid (EX w ⟨1, ⟨sa, S, sc⟩, ⟨ba, N, bc⟩⟩ (w.heap.size + 1) os wr) ∧ Hid (os.length = L + 1 ∧ ∀ j, On os j ↔ ∃ i, i < k ∧ On bs i ∧ ∃ n, l[i]? = some n ∧ inSet set n = true ∧ j = i + 1)) (fun vi _ => L - (intOf vi).toNat)
  case atStart =>
    refine ⟨0, _, Nat.zero_le _, rfl, HI, by simp, fun j => ?_⟩
    constructor
    · intro h; exact absurd h (on_false _ _)
    · rintro ⟨i, h, _⟩; omega
  case round =>
    clear HI
    obtain ⟨k, os, hk, rfl, HI, HO⟩ := hrel
    by_cases hlt : k < L
    case neg =>
      have hle : ¬ (k : Int) < L := by omega
      go_wp2_with fail
      go_ret
      rw [HPo.out]
      refine ⟨_, os, rfl, by omega, HI.out.out, HO.out.1, fun j => ?_, HI.out.gr⟩
      rw [HO.out.2 j]
      constructor
      · rintro ⟨i, _, h1, n, h2, h3, rfl⟩
        exact ⟨i, h1, (goes_one _ _ _ _ _).2 ⟨rfl, n, h2, h3⟩⟩
      · rintro ⟨i, h1, h2⟩
        obtain ⟨rfl, n, h3, h4⟩ := (goes_one _ _ _ _ _).1 h2
        have := (List.getElem?_eq_some_iff.1 h3).1
        exact ⟨i, by have := HL.out; omega, h1, n, h3, h4, rfl⟩
    case pos =>
      obtain ⟨v, hv⟩ : ∃ v, l[k]? = some v := ⟨_, List.getElem?_eq_getElem (by have := HL.out; omega)⟩
      obtain ⟨q, hq⟩ : ∃ q, bs[k]? = some q := ⟨_, List.getElem?_eq_getElem (by have := HAl.out; omega)⟩
      have HV : Hid (l[k]? = some v) := hv
      obtain ⟨pb, po, rfl, hpb, c0⟩ := RowX.cs1 HP.out hv
      have c0' := (HI.out.bel.cell (by exact hpb)).trans c0
      have a0 := brow_at (HA.out.bel HI.out.bel) hq
      have HQ : Hid (bs[k]? = some q) := hq
      have hlt2 : (k : Int) < L := by omega
      have hlt3 : (k : Int) < (L : Int) + 1 := by omega
      obtain ⟨x0, x1, x2⟩ := BlkT.cs HI.out.box
      simp only at x0 x1 x2
      clear c0 hv hq
      cases q
      · go_wp2_with fail
        go_roundw
        case rel =>
          refine ⟨k + 1, os, by omega, by go_num, HI, HO.out.1, fun j => ?_⟩
          rw [HO.out.2 j]
          constructor
          · rintro ⟨i, h0, h⟩; exact ⟨i, by omega, h⟩
          · rintro ⟨i, h0, h1, h⟩
            by_cases e : i = k
            · subst e; exact absurd h1 (off_of HQ.out)
            · exact ⟨i, by omega, h1, h⟩
        case measure => simp [intOf]; omega
      · have HZ : Hid (∀ (os' : List Bool), (inSet set v = true → os' = os.set (k + 1) true) → (inSet set v = false → os' = os) → os'.length = L + 1 ∧ ∀ j, On os' j ↔ ∃ i, i < k + 1 ∧ On bs i ∧ ∃ n, l[i]? = some n ∧ inSet set n = true ∧ j = i + 1) := by
          intro os' h1 h2
          cases hin : inSet set v
          · rw [h2 hin]
            refine ⟨HO.out.1, fun j => ?_⟩
            rw [HO.out.2 j]
            constructor
            · rintro ⟨i, h0, h⟩; exact ⟨i, by omega, h⟩
            · rintro ⟨i, h0, h1, n, h3, h4, h5⟩
              by_cases e : i = k
              · subst e
                rw [HV.out] at h3
                injection h3 with h3
                rw [← h3, hin] at h4
                cases h4
              · exact ⟨i, by omega, h1, n, h3, h4, h5⟩
          · rw [h1 hin]
            refine ⟨by rw [List.length_set]; exact HO.out.1, fun j => ?_⟩
            rw [on_set (by have := HO.out.1; omega), HO.out.2 j]
            constructor
            · rintro (⟨i, h0, h⟩ | rfl)
              · exact ⟨i, by omega, h⟩
              · exact ⟨k, by omega, HQ.out, v, HV.out, hin, rfl⟩
            · rintro ⟨i, h0, h1, n, h3, h4, h5⟩
              by_cases e : i = k
              · subst e; exact Or.inr h5
              · exact Or.inl ⟨i, by omega, h1, n, h3, h4, h5⟩
        go_wp2_with fail
        refine (kin _ v HI.out.bel).mono ?_
        rintro _ w1 ⟨rfl, g1⟩
        have I1 : Hid (EX w ⟨1, ⟨sa, S, sc⟩, ⟨ba, N, bc⟩⟩ (w.heap.size + 1) os w1) := HI.out.go g1
        clear HI g1 x0 x1 x2 c0' a0
        cases hin : inSet set v with
        | false =>
          have HIN := HZ.out os (fun h => by rw [hin] at h; cases h) (fun _ => rfl)
          have H9 : Hid (os.length = L + 1 ∧ ∀ j, On os j ↔ ∃ i, i < k + 1 ∧ On bs i ∧ ∃ n, l[i]? = some n ∧ inSet set n = true ∧ j = i + 1) := HIN
          clear hin HIN HZ
          go_wp2_with fail
          go_roundw
          case rel => exact ⟨k + 1, os, by omega, by go_num, I1, H9⟩
          case measure => simp [intOf]; omega
        | true =>
          have HIN := HZ.out (os.set (k + 1) true) (fun _ => rfl) (fun h => by rw [hin] at h; cases h)
          have H9 : Hid ((os.set (k + 1) true).length = L + 1 ∧ ∀ j, On (os.set (k + 1) true) j ↔ ∃ i, i < k + 1 ∧ On bs i ∧ ∃ n, l[i]? = some n ∧ inSet set n = true ∧ j = i + 1) := HIN
          obtain ⟨z, hz⟩ : ∃ z, os[k + 1]? = some z := ⟨_, List.getElem?_eq_getElem (by have := HO.out.1; omega)⟩
          have o0 := brow_at I1.out.out hz
          have of := I1.out.out.frozen
          have hk1 : (k : Int) + 1 < (L : Int) + 1 := by omega
          clear hin HIN HZ hz
          go_wp2_with fail
          have J6 := I1.out.set (i := k + 1) (by have := HO.out.1; omega) true
          generalize hW6 : World.setCell _ _ _ = W6 at J6 ⊢
          have H6 : Hid (EX w ⟨1, ⟨sa, S, sc⟩, ⟨ba, N, bc⟩⟩ (w.heap.size + 1) (os.set (k + 1) true) W6) := J6
          clear J6 hW6 o0 of I1 HO
          go_wp2_with fail
          go_roundw
          case rel => exact ⟨k + 1, _, by omega, by go_num, H6, H9⟩
          case measure => simp [intOf]; omega

end Go.Proofs.YtjjlkjfhhpogaaaDoor

namespace Go.Proofs.YtjjlkjfhhpogaaaDoor
open Go.RowKit

theorem goesR_take {l : List Int} {subs : List Tree} {k : Nat} {s : Tree} (hs : subs[k]? = some s) {bs os rs : List Bool} (ho : ∀ j, On os j ↔ ∃ i, On bs i ∧ GoesC l (subs.take k) i j) (hr : ∀ j, On rs j ↔ ∃ i, On os i ∧ Goes l s i j) : ∀ j, On rs j ↔ ∃ i, On bs i ∧ GoesC l (subs.take (k + 1)) i j := by
  intro j
  rw [hr j, take_succ_of hs]
  constructor
  · rintro ⟨m, h1, h2⟩
    obtain ⟨i, h3, h4⟩ := (ho m).1 h1
    exact ⟨i, h3, (goesC_snoc _ _ _ _ _).2 ⟨m, h4, h2⟩⟩
  · rintro ⟨i, h3, h4⟩
    obtain ⟨m, h5, h6⟩ := (goesC_snoc _ _ _ _ _).1 h4
    exact ⟨m, (ho m).2 ⟨i, h3, h5⟩, h6⟩


set_option maxRecDepth 100000 in
set_option maxHeartbeats 8000000 in
theorem rends_cat {l : List Int} {pv : Value} {set : List (Int × Int)} {subs : List Tree} (hl : l.length ≤ 255) (hlen : subs.length ≤ 200) (hE : ∀ (n : Nat) (s : Tree), subs[n]? = some s → CR l pv s) : CR l pv (.mk 2 set subs) := by
  intro x w ab bs hx hp hab hbs
  obtain ⟨k, set', subs', rows, sa, sc, ba, bc, he, rfl, hS, hB, hT⟩ := hx.parts
  injection he with e1 e2 e3
  subst e1 e2 e3
  obtain ⟨pa, pc, rfl⟩ := hp.form
  obtain ⟨N, hN⟩ : ∃ N, N = subs.length := ⟨_, rfl⟩
  obtain ⟨S, hSn⟩ : ∃ S, S = set.length := ⟨_, rfl⟩
  obtain ⟨L, hL⟩ : ∃ L, L = l.length := ⟨_, rfl⟩
  have HN : Hid (N = subs.length) := hN
  have HL : Hid (L = l.length) := hL
  have HSn : Hid (S = set.length) := hSn
  have HS : Hid (RowS w (.slice sa S sc) set) := by rw [hSn]; exact hS
  have HB : Hid (RowT w (.slice ba N bc) rows) := by rw [hN]; exact hB
  have HT' : Hid (HTs w subs rows) := hT
  have HP : Hid (RowN w (.slice pa L pc) l) := by rw [hL]; exact hp
  have HA : Hid (Blk w ab (brow bs) 4) := hab
  have HAl : Hid (bs.length = L + 1) := by rw [hL]; exact hbs
  have hll : L ≤ 255 := by omega
  have hab2 : ab < w.heap.size := hab.lt
  have hN2 : N ≤ 200 := by omega
  have kE0 : ∀ (j : Nat) (s : Tree) (r : PC) (W : World) (ob : Nat) (os : List Bool), subs[j]? = some s → HT W s r → RowN W (.slice pa L pc) l → Blk W ob (brow os) 4 → os.length = L + 1 → Calls Tryd.prog 68 #[r.v, .slice pa L pc, .slice (some ⟨ob, 0, none⟩) (L + 1) (L + 1)] W fun e w' => PostE l s os W e w' := fun j s r W ob os hs h1 h2 h3 h4 => by
    rw [hL] at h2 h4 ⊢
    exact hE j s hs r W ob os h1 h2 h3 h4
  have HE : Hid (∀ (j : Nat) (s : Tree) (r : PC) (W : World) (ob : Nat) (os : List Bool), subs[j]? = some s → HT W s r → RowN W (.slice pa L pc) l → Blk W ob (brow os) 4 → os.length = L + 1 → Calls Tryd.prog 68 #[r.v, .slice pa L pc, .slice (some ⟨ob, 0, none⟩) (L + 1) (L + 1)] W fun e w' => ∃ (ob' : Nat) (os' : List Bool), e = .returned (.slice (some ⟨ob', 0, none⟩) (L + 1) (L + 1)) ∧ W.heap.size ≤ ob' ∧ Blk w' ob' (brow os') 4 ∧ os'.length = L + 1 ∧ (∀ j, On os' j ↔ ∃ i, On os i ∧ Goes l s i j) ∧ Gr W w') := fun j s r W ob os hs h1 h2 h3 h4 => by
    have := kE0 j s r W ob os hs h1 h2 h3 h4
    unfold PostE at this
    rw [← hL] at this
    exact this
  clear kE0 hE
  rw [← hN, ← hSn, ← hL]
  have HPo : Hid (PostE l (.mk 2 set subs) bs w = fun e w' => ∃ (ob : Nat) (os : List Bool), e = .returned (.slice (some ⟨ob, 0, none⟩) (L + 1) (L + 1)) ∧ w.heap.size ≤ ob ∧ Blk w' ob (brow os) 4 ∧ os.length = L + 1 ∧ (∀ j, On os j ↔ ∃ i, On bs i ∧ Goes l (.mk 2 set subs) i j) ∧ Gr w w') := by show _ = _; rw [hL]; rfl
  have mk : ∀ W : World, (Instr.makeSlice 96 (.int .i64 ((L : Int) + 1)) (.int .i64 ((L : Int) + 1))).run Tryd.prog W = .ok (.slice (some ⟨W.heap.size, 0, none⟩) (L + 1) (L + 1)) (W.alloc (.cells (brow (List.replicate (L + 1) false)) 4)) := fun W => make4 (L + 1) (by omega) W
  clear hx hp hab hbs hS hB hT hN hSn hL
  go_enter Tryd.func68, Tryd.ntmps68
  go_upto_region 2 with fail
  generalize hW : World.alloc _ _ = W2
  have HI : Hid (EX w ⟨2, ⟨sa, S, sc⟩, ⟨ba, N, bc⟩⟩ (w.heap.size + 1) (List.replicate (L + 1) false) W2) := by
    rw [← hW]
    exact ⟨((Gr.refl _).alloc _).alloc _, (Blk.new _ _ _).alloc _, Blk.new' _ _ _ _ (by simp), by omega⟩
  clear hW mk
  obtain ⟨x0, x1, x2⟩ := BlkT.cs HI.out.box
  simp only at x0 x1 x2
  go_wp2_with (refine wp_copyB (by rfl) _ _ (by rfl) (w.heap.size + 1) ab (L + 1) (by rfl) (by rfl) (List.replicate (L + 1) false) bs HI.out.out (HA.out.bel HI.out.bel) (by simp) HAl.out ?_; intro w3 hb3 bb3 dd3; have I3 : Hid (EX w ⟨2, ⟨sa, S, sc⟩, ⟨ba, N, bc⟩⟩ (w.heap.size + 1) bs w3) := HI.out.copied hb3 bb3 dd3; clear hb3 bb3 dd3; obtain ⟨y0, y1, y2⟩ := BlkT.cs I3.out.box)
  clear HI x0 x1 x2
  go_loopw [7, 56] (fun v7 vi wr => ∃ (k ob : Nat) (os : List Bool), k ≤ N ∧ vi = .int .i64 k ∧ v7 = .slice (some ⟨ob, 0, none⟩) (L + 1) (L + 1) ∧ Hid (EX w ⟨2, ⟨sa, S, sc⟩, ⟨ba, N, bc⟩⟩ ob os wr) ∧ Hid (os.length = L + 1 ∧ ∀ j, On os j ↔ ∃ i, On bs i ∧ GoesC l (subs.take k) i j)) (fun _ vi _ => N - (intOf vi).toNat)
  case atStart =>
    refine ⟨0, w.heap.size + 1, bs, Nat.zero_le _, rfl, rfl, I3, HAl.out, fun j => ?_⟩
    rw [List.take_zero]
    constructor
    · intro h
      exact ⟨j, h, (goesC_nil _ _ _).2 ⟨rfl, by have := on_lt h; have := HAl.out; have := HL.out; omega⟩⟩
    · rintro ⟨i, h1, h2⟩
      rw [← ((goesC_nil _ _ _).1 h2).1]
      exact h1
  case round =>
    clear I3
    obtain ⟨k, ob, os, hk, rfl, rfl, HI, HO⟩ := hrel
    by_cases hlt : k < N
    case neg =>
      have hle : ¬ (k : Int) < N := by omega
      have hkN : k = subs.length := by have := HN.out; omega
      go_wp2_with fail
      go_ret
      rw [HPo.out]
      refine ⟨_, os, rfl, by have := HI.out.hob; omega, HI.out.out, HO.out.1, fun j => ?_, HI.out.gr⟩
      rw [HO.out.2 j, hkN, List.take_length]
      constructor
      · rintro ⟨i, h1, h2⟩; exact ⟨i, h1, (goes_cat _ _ _ _ _).2 h2⟩
      · rintro ⟨i, h1, h2⟩; exact ⟨i, h1, (goes_cat _ _ _ _ _).1 h2⟩
    case pos =>
      obtain ⟨s, hs⟩ : ∃ s, subs[k]? = some s := ⟨_, List.getElem?_eq_getElem (by have := HN.out; omega)⟩
      obtain ⟨r, hr, hr2⟩ := HTs.at HT'.out hs
      obtain ⟨rb, ro, rfl, hrb, q0, q1, q2⟩ := RowX.cs3 HB.out hr
      have q0' := (HI.out.bel.cell (by exact hrb)).trans q0
      have q1' := (HI.out.bel.cell (by exact hrb)).trans q1
      have q2' := (HI.out.bel.cell (by exact hrb)).trans q2
      have kE : ∀ W, Below wr.heap.size wr W → Calls Tryd.prog 68 #[r.v, .slice pa L pc, .slice (some ⟨ob, 0, none⟩) (L + 1) (L + 1)] W fun e w' => ∃ (ob' : Nat) (os' : List Bool), e = .returned (.slice (some ⟨ob', 0, none⟩) (L + 1) (L + 1)) ∧ W.heap.size ≤ ob' ∧ Blk w' ob' (brow os') 4 ∧ os'.length = L + 1 ∧ (∀ j, On os' j ↔ ∃ i, On os i ∧ Goes l s i j) ∧ Gr W w' := fun W g => HE.out k s r W ob os hs (HT.bel (bstep HI.out.bel g) hr2) (HP.out.bel (bstep HI.out.bel g)) (HI.out.out.bel g) HO.out.1
      have HTk : Hid (∀ rs : List Bool, (∀ j, On rs j ↔ ∃ i, On os i ∧ Goes l s i j) → ∀ j, On rs j ↔ ∃ i, On bs i ∧ GoesC l (subs.take (k + 1)) i j) := fun rs h => goesR_take hs HO.out.2 h
      have hlt2 : (k : Int) < N := by omega
      obtain ⟨rk, ⟨rsa, rsn, rsc⟩, rba, rbn, rbc⟩ := r
      simp only at q0' q1' q2'
      have HOb : Hid (w.heap.size < wr.heap.size) := HI.out.box.lt
      clear q0 q1 q2 hr hr2 hs HB
      go_wp2_with (go_at_call 68; refine (kE _ (bel_alloc _ _)).mono ?_; rintro _ w5 ⟨ob5, os5, rfl, hob5, bl5, len5, on5, bb5⟩; have I5 : Hid (EX w ⟨2, ⟨sa, S, sc⟩, ⟨some ⟨rb, ro, none⟩, N, bc⟩⟩ ob5 os5 w5) := ⟨HI.out.gr.trans (((Gr.refl _).alloc _).trans bb5), (HI.out.box.alloc _).bel bb5.below, bl5, (by have := HOb.out; have := Nat.le_trans (show wr.heap.size ≤ _ from (bel_alloc wr _).size) hob5; omega)⟩; have O5 : Hid (os5.length = L + 1 ∧ ∀ j, On os5 j ↔ ∃ i, On bs i ∧ GoesC l (subs.take (k + 1)) i j) := ⟨len5, HTk.out os5 on5⟩; clear hob5 bl5 len5 on5 bb5)
      go_roundw
      case rel => exact ⟨k + 1, ob5, os5, by omega, by go_num, rfl, I5, O5⟩
      case measure => simp [intOf]; omega

end Go.Proofs.YtjjlkjfhhpogaaaDoor

namespace Go.Proofs.YtjjlkjfhhpogaaaDoor
open Go.RowKit

/-- A row, another one taken in as far as a place. -/
def mixB (os rs : List Bool) (i : Nat) : List Bool := (List.zipWith (fun a b => a || b) (os.take i) (rs.take i)) ++ os.drop i
theorem mixB_zero (os rs : List Bool) : mixB os rs 0 = os := by simp [mixB]
theorem mixB_len {os rs : List Bool} {i : Nat} (h : os.length = rs.length) : (mixB os rs i).length = os.length := by simp [mixB]; omega
theorem mixB_at {os rs : List Bool} {i : Nat} {a : Bool} (h : os.length = rs.length) (ha : os[i]? = some a) : (mixB os rs i)[i]? = some a := by
  have hi := (List.getElem?_eq_some_iff.1 ha).1
  unfold mixB
  have hl : (List.zipWith (fun a b => a || b) (os.take i) (rs.take i)).length = i := by simp; omega
  rw [List.getElem?_append_right (by omega), hl, Nat.sub_self, List.getElem?_drop, Nat.add_zero]
  exact ha
theorem mixB_set {os rs : List Bool} {i : Nat} {a b : Bool} (h : os.length = rs.length) (ha : os[i]? = some a) (hb : rs[i]? = some b) : (mixB os rs i).set i (a || b) = mixB os rs (i + 1) := by
  have hi := (List.getElem?_eq_some_iff.1 ha).1
  unfold mixB
  have hl : (List.zipWith (fun a b => a || b) (os.take i) (rs.take i)).length = i := by simp; omega
  rw [List.set_append_right _ _ (by omega), hl, Nat.sub_self, drop_of ha, List.set_cons_zero, take_succ_of ha, take_succ_of hb, List.zipWith_append (by simp; omega)]
  simp
theorem mixB_on {os rs : List Bool} {n : Nat} (h1 : os.length = n) (h2 : rs.length = n) (j : Nat) : On (mixB os rs n) j ↔ On os j ∨ On rs j := by
  unfold On mixB
  rw [List.drop_eq_nil_of_le (by omega), List.append_nil, List.take_of_length_le (by omega), List.take_of_length_le (by omega), List.getElem?_zipWith]
  cases ha : os[j]? with
  | none =>
    have : os.length ≤ j := List.getElem?_eq_none_iff.1 ha
    have hb : rs[j]? = none := List.getElem?_eq_none_iff.2 (by omega)
    simp [hb]
  | some a =>
    have := (List.getElem?_eq_some_iff.1 ha).1
    obtain ⟨b, hb⟩ : ∃ b, rs[j]? = some b := ⟨_, List.getElem?_eq_getElem (by omega)⟩
    simp [hb]
theorem goesA_r {l : List Int} {subs : List Tree} {k : Nat} {s : Tree} (hs : subs[k]? = some s) {bs os rs ms : List Bool} (ho : ∀ j, On os j ↔ ∃ i n t, n < k ∧ subs[n]? = some t ∧ On bs i ∧ Goes l t i j) (hr : ∀ j, On rs j ↔ ∃ i, On bs i ∧ Goes l s i j) (hm : ∀ j, On ms j ↔ On os j ∨ On rs j) :
    ∀ j, On ms j ↔ ∃ i n t, n < k + 1 ∧ subs[n]? = some t ∧ On bs i ∧ Goes l t i j := by
  intro j
  rw [hm j, ho j, hr j]
  constructor
  · rintro (⟨i, n, t, h1, h2⟩ | ⟨i, h1, h2⟩)
    · exact ⟨i, n, t, by omega, h2⟩
    · exact ⟨i, k, s, by omega, hs, h1, h2⟩
  · rintro ⟨i, n, t, h1, h2, h3, h4⟩
    by_cases c : n < k
    · exact Or.inl ⟨i, n, t, c, h2, h3, h4⟩
    · have : n = k := by omega
      subst this
      rw [hs] at h2
      injection h2 with h2
      subst h2
      exact Or.inr ⟨i, h3, h4⟩

set_option maxRecDepth 100000 in
set_option maxHeartbeats 8000000 in
theorem rends_alt {l : List Int} {pv : Value} {set : List (Int × Int)} {subs : List Tree} (hl : l.length ≤ 255) (hlen : subs.length ≤ 200) (hE : ∀ (n : Nat) (s : Tree), subs[n]? = some s → CR l pv s) : CR l pv (.mk 3 set subs) := by
  intro x w ab bs hx hp hab hbs
  obtain ⟨k, set', subs', rows, sa, sc, ba, bc, he, rfl, hS, hB, hT⟩ := hx.parts
  injection he with e1 e2 e3
  subst e1 e2 e3
  obtain ⟨pa, pc, rfl⟩ := hp.form
  obtain ⟨N, hN⟩ : ∃ N, N = subs.length := ⟨_, rfl⟩
  obtain ⟨S, hSn⟩ : ∃ S, S = set.length := ⟨_, rfl⟩
  obtain ⟨L, hL⟩ : ∃ L, L = l.length := ⟨_, rfl⟩
  have HN : Hid (N = subs.length) := hN
  have HL : Hid (L = l.length) := hL
  have HSn : Hid (S = set.length) := hSn
  have HS : Hid (RowS w (.slice sa S sc) set) := by rw [hSn]; exact hS
  have HB : Hid (RowT w (.slice ba N bc) rows) := by rw [hN]; exact hB
  have HT' : Hid (HTs w subs rows) := hT
  have HP : Hid (RowN w (.slice pa L pc) l) := by rw [hL]; exact hp
  have HA : Hid (Blk w ab (brow bs) 4) := hab
  have HAl : Hid (bs.length = L + 1) := by rw [hL]; exact hbs
  have hll : L ≤ 255 := by omega
  have hab2 : ab < w.heap.size := hab.lt
  have hN2 : N ≤ 200 := by omega
  have kE0 : ∀ (j : Nat) (s : Tree) (r : PC) (W : World) (ob : Nat) (os : List Bool), subs[j]? = some s → HT W s r → RowN W (.slice pa L pc) l → Blk W ob (brow os) 4 → os.length = L + 1 → Calls Tryd.prog 68 #[r.v, .slice pa L pc, .slice (some ⟨ob, 0, none⟩) (L + 1) (L + 1)] W fun e w' => PostE l s os W e w' := fun j s r W ob os hs h1 h2 h3 h4 => by
    rw [hL] at h2 h4 ⊢
    exact hE j s hs r W ob os h1 h2 h3 h4
  have HE : Hid (∀ (j : Nat) (s : Tree) (r : PC) (W : World) (ob : Nat) (os : List Bool), subs[j]? = some s → HT W s r → RowN W (.slice pa L pc) l → Blk W ob (brow os) 4 → os.length = L + 1 → Calls Tryd.prog 68 #[r.v, .slice pa L pc, .slice (some ⟨ob, 0, none⟩) (L + 1) (L + 1)] W fun e w' => ∃ (ob' : Nat) (os' : List Bool), e = .returned (.slice (some ⟨ob', 0, none⟩) (L + 1) (L + 1)) ∧ W.heap.size ≤ ob' ∧ Blk w' ob' (brow os') 4 ∧ os'.length = L + 1 ∧ (∀ j, On os' j ↔ ∃ i, On os i ∧ Goes l s i j) ∧ Gr W w') := fun j s r W ob os hs h1 h2 h3 h4 => by
    have := kE0 j s r W ob os hs h1 h2 h3 h4
    unfold PostE at this
    rw [← hL] at this
    exact this
  clear kE0 hE
  rw [← hN, ← hSn, ← hL]
  have HPo : Hid (PostE l (.mk 3 set subs) bs w = fun e w' => ∃ (ob : Nat) (os : List Bool), e = .returned (.slice (some ⟨ob, 0, none⟩) (L + 1) (L + 1)) ∧ w.heap.size ≤ ob ∧ Blk w' ob (brow os) 4 ∧ os.length = L + 1 ∧ (∀ j, On os j ↔ ∃ i, On bs i ∧ Goes l (.mk 3 set subs) i j) ∧ Gr w w') := by show _ = _; rw [hL]; rfl
  have mk : ∀ W : World, (Instr.makeSlice 96 (.int .i64 ((L : Int) + 1)) (.int .i64 ((L : Int) + 1))).run Tryd.prog W = .ok (.slice (some ⟨W.heap.size, 0, none⟩) (L + 1) (L + 1)) (W.alloc (.cells (brow (List.replicate (L + 1) false)) 4)) := fun W => make4 (L + 1) (by omega) W
  clear hx hp hab hbs hS hB hT hN hSn hL
  go_enter Tryd.func68, Tryd.ntmps68
  go_upto_region 2 with fail
  generalize hW : World.alloc _ _ = W2
  have HI : Hid (EX w ⟨3, ⟨sa, S, sc⟩, ⟨ba, N, bc⟩⟩ (w.heap.size + 1) (List.replicate (L + 1) false) W2) := by
    rw [← hW]
    exact ⟨((Gr.refl _).alloc _).alloc _, (Blk.new _ _ _).alloc _, Blk.new' _ _ _ _ (by simp), by omega⟩
  clear hW mk
  obtain ⟨x0, x1, x2⟩ := BlkT.cs HI.out.box
  simp only at x0 x1 x2
  go_wp2_with fail
  clear x0 x1 x2
  go_loopw [70] (fun vi wr => ∃ (k : Nat) (os : List Bool), k ≤ N ∧ vi = .int .i64 k ∧ Hid (EX w ⟨3, ⟨sa, S, sc⟩, ⟨ba, N, bc⟩⟩ (w.heap.size + 1) os wr) ∧ Hid (os.length = L + 1 ∧ ∀ j, On os j ↔ ∃ i n t, n < k ∧ subs[n]? = some t ∧ On bs i ∧ Goes l t i j)) (fun vi _ => N - (intOf vi).toNat)
  case atStart =>
    refine ⟨0, _, Nat.zero_le _, rfl, HI, by simp, fun j => ?_⟩
    constructor
    · intro h; exact absurd h (on_false _ _)
    · rintro ⟨i, n, t, h, _⟩; omega
  case round =>
    clear HI
    obtain ⟨k, os, hk, rfl, HI, HO⟩ := hrel
    by_cases hlt : k < N
    case neg =>
      have hle : ¬ (k : Int) < N := by omega
      have hkN : k = subs.length := by have := HN.out; omega
      go_wp2_with fail
      go_ret
      rw [HPo.out]
      refine ⟨_, os, rfl, by have := HI.out.hob; omega, HI.out.out, HO.out.1, fun j => ?_, HI.out.gr⟩
      rw [HO.out.2 j]
      constructor
      · rintro ⟨i, n, t, _, h2, h3, h4⟩
        exact ⟨i, h3, (goes_alt _ _ _ _ _).2 ⟨n, t, h2, h4⟩⟩
      · rintro ⟨i, h3, h4⟩
        obtain ⟨n, t, h5, h6⟩ := (goes_alt _ _ _ _ _).1 h4
        have := (List.getElem?_eq_some_iff.1 h5).1
        exact ⟨i, n, t, by omega, h5, h3, h6⟩
    case pos =>
      obtain ⟨s, hs⟩ : ∃ s, subs[k]? = some s := ⟨_, List.getElem?_eq_getElem (by have := HN.out; omega)⟩
      obtain ⟨r, hr, hr2⟩ := HTs.at HT'.out hs
      obtain ⟨rb, ro, rfl, hrb, q0, q1, q2⟩ := RowX.cs3 HB.out hr
      have q0' := (HI.out.bel.cell (by exact hrb)).trans q0
      have q1' := (HI.out.bel.cell (by exact hrb)).trans q1
      have q2' := (HI.out.bel.cell (by exact hrb)).trans q2
      have kE : ∀ W, Below wr.heap.size wr W → Calls Tryd.prog 68 #[r.v, .slice pa L pc, .slice (some ⟨ab, 0, none⟩) (L + 1) (L + 1)] W fun e w' => ∃ (ob' : Nat) (os' : List Bool), e = .returned (.slice (some ⟨ob', 0, none⟩) (L + 1) (L + 1)) ∧ W.heap.size ≤ ob' ∧ Blk w' ob' (brow os') 4 ∧ os'.length = L + 1 ∧ (∀ j, On os' j ↔ ∃ i, On bs i ∧ Goes l s i j) ∧ Gr W w' := fun W g => HE.out k s r W ab bs hs (HT.bel (bstep HI.out.bel g) hr2) (HP.out.bel (bstep HI.out.bel g)) (HA.out.bel (bstep HI.out.bel g)) HAl.out
      have HTk : Hid (∀ rs : List Bool, rs.length = L + 1 → (∀ j, On rs j ↔ ∃ i, On bs i ∧ Goes l s i j) → (mixB os rs (L + 1)).length = L + 1 ∧ ∀ j, On (mixB os rs (L + 1)) j ↔ ∃ i n t, n < k + 1 ∧ subs[n]? = some t ∧ On bs i ∧ Goes l t i j) := fun rs h0 h => ⟨by rw [mixB_len (by rw [HO.out.1, h0]), HO.out.1], goesA_r hs HO.out.2 h (mixB_on HO.out.1 h0)⟩
      have hlt2 : (k : Int) < N := by omega
      obtain ⟨rk, ⟨rsa, rsn, rsc⟩, rba, rbn, rbc⟩ := r
      simp only at q0' q1' q2'
      have HOb : Hid (w.heap.size + 1 < wr.heap.size) := HI.out.out.lt
      clear q0 q1 q2 hr hr2 hs
      go_wp2_with (go_at_call 68; refine (kE _ (bel_alloc _ _)).mono ?_; rintro _ w5 ⟨ob5, os5, rfl, hob5, bl5, len5, on5, bb5⟩; have I5 : Hid (EX w ⟨3, ⟨sa, S, sc⟩, ⟨some ⟨rb, ro, none⟩, N, bc⟩⟩ (w.heap.size + 1) os w5) := (HI.out.go ((Gr.refl _).alloc _)).go bb5; have B5 : Hid (Blk w5 ob5 (brow os5) 4) := bl5; have N5 : Hid (w.heap.size + 1 < ob5) := (by have := HOb.out; have := Nat.le_trans (show wr.heap.size ≤ _ from (bel_alloc wr _).size) hob5; exact (by omega : w.heap.size + 1 < ob5)); have L5 : Hid (os5.length = L + 1) := len5; have O5 : Hid ((mixB os os5 (L + 1)).length = L + 1 ∧ ∀ j, On (mixB os os5 (L + 1)) j ↔ ∃ i n t, n < k + 1 ∧ subs[n]? = some t ∧ On bs i ∧ Goes l t i j) := HTk.out os5 len5 on5; clear hob5 bl5 len5 on5 bb5)
      clear HI q0' q1' q2' kE HTk
      go_loopw [79] (fun vi wq => ∃ (i : Nat), i ≤ L + 1 ∧ vi = .int .i64 i ∧ Hid (EX w ⟨3, ⟨sa, S, sc⟩, ⟨some ⟨rb, ro, none⟩, N, bc⟩⟩ (w.heap.size + 1) (mixB os os5 i) wq ∧ Blk wq ob5 (brow os5) 4)) (fun vi _ => L + 1 - (intOf vi).toNat)
      case atStart => exact ⟨0, Nat.zero_le _, rfl, by rw [mixB_zero]; exact I5.out, B5.out⟩
      case round =>
        clear I5 B5
        obtain ⟨i, hi, rfl, HI⟩ := hrel
        by_cases hlt3 : i < L + 1
        case neg =>
          have hle : ¬ (i : Int) < (L : Int) + 1 := by omega
          have hiL : i = L + 1 := by omega
          rw [hiL] at HI
          clear hiL
          go_wp2_with fail
          go_roundw
          case rel => exact ⟨k + 1, _, by omega, by go_num, HI.out.1, O5⟩
          case measure => simp [intOf]; omega
        case pos =>
          obtain ⟨a, ha⟩ : ∃ a, os[i]? = some a := ⟨_, List.getElem?_eq_getElem (by have := HO.out.1; omega)⟩
          obtain ⟨b, hb⟩ : ∃ b, os5[i]? = some b := ⟨_, List.getElem?_eq_getElem (by have := L5.out; omega)⟩
          have c0 := brow_at HI.out.2 hb
          have o0 := brow_at HI.out.1.out (mixB_at (by rw [HO.out.1, L5.out]) ha)
          have of := HI.out.1.out.frozen
          have hle : (i : Int) < (L : Int) + 1 := by omega
          have HJ : Hid (EX w ⟨3, ⟨sa, S, sc⟩, ⟨some ⟨rb, ro, none⟩, N, bc⟩⟩ (w.heap.size + 1) (mixB os os5 (i + 1)) (wr.setCell ⟨w.heap.size + 1, i, none⟩ (.bool (a || b))) ∧ Blk (wr.setCell ⟨w.heap.size + 1, i, none⟩ (.bool (a || b))) ob5 (brow os5) 4) := by
            have j1 := HI.out.1.set (i := i) (by rw [mixB_len (by rw [HO.out.1, L5.out])]; have := HO.out.1; omega) (a || b)
            rw [mixB_set (by rw [HO.out.1, L5.out]) ha hb] at j1
            exact ⟨j1, HI.out.2.other (by have := N5.out; show ob5 ≠ w.heap.size + 1; omega) _⟩
          clear ha hb
          cases a
          · simp only [Bool.false_or] at HJ
            go_wp2_with fail
            have J6 := HJ.out
            generalize hW6 : World.setCell _ _ _ = W6 at J6 ⊢
            have H6 : Hid (EX w ⟨3, ⟨sa, S, sc⟩, ⟨some ⟨rb, ro, none⟩, N, bc⟩⟩ (w.heap.size + 1) (mixB os os5 (i + 1)) W6 ∧ Blk W6 ob5 (brow os5) 4) := J6
            clear J6 hW6 HJ HI c0 o0 of
            go_wp2_with fail
            go_roundw
            case rel => exact ⟨i + 1, by omega, by go_num, H6⟩
            case measure => simp [intOf]; omega
          · simp only [Bool.true_or] at HJ
            go_wp2_with fail
            have J6 := HJ.out
            generalize hW6 : World.setCell _ _ _ = W6 at J6 ⊢
            have H6 : Hid (EX w ⟨3, ⟨sa, S, sc⟩, ⟨some ⟨rb, ro, none⟩, N, bc⟩⟩ (w.heap.size + 1) (mixB os os5 (i + 1)) W6 ∧ Blk W6 ob5 (brow os5) 4) := J6
            clear J6 hW6 HJ HI c0 o0 of
            go_wp2_with fail
            go_roundw
            case rel => exact ⟨i + 1, by omega, by go_num, H6⟩
            case measure => simp [intOf]; omega

end Go.Proofs.YtjjlkjfhhpogaaaDoor

namespace Go.Proofs.YtjjlkjfhhpogaaaDoor
open Go.RowKit

/-- How many places are off. -/
def offs (bs : List Bool) : Nat := bs.countP fun b => !b
theorem offs_set : ∀ {bs : List Bool} {i : Nat}, bs[i]? = some false → offs (bs.set i true) + 1 = offs bs
  | [], _, h => by simp at h
  | a :: bs, 0, h => by simp at h; subst h; simp [offs]
  | a :: bs, i + 1, h => by
    have := offs_set (bs := bs) (i := i) (by simpa using h)
    unfold offs at this ⊢
    rw [List.set_cons_succ, List.countP_cons, List.countP_cons]
    omega
def bit (b : Bool) : Nat := if b = true then 1 else 0

/-- The Star between its rounds. -/
structure StarG (l : List Int) (s : Tree) (bs os : List Bool) (more : Bool) : Prop where
  len : os.length = bs.length
  low : ∀ j, On bs j → On os j
  high : ∀ j, On os j → ∃ i, On bs i ∧ Chain (Goes l s) i j
  shut : more = false → ∀ i j, On os i → Goes l s i j → On os j
/-- The Star's answer, one round's ends taken in as far as a place. -/
structure StarR (os rs ms : List Bool) (i : Nat) (more : Bool) : Prop where
  len : ms.length = os.length
  on : ∀ j, On ms j ↔ On os j ∨ (j < i ∧ On rs j)
  le : offs ms ≤ offs os
  less : more = true → offs ms < offs os
  same : more = false → ∀ j, j < i → On rs j → On os j

theorem StarG.start (l : List Int) (s : Tree) (bs : List Bool) : StarG l s bs bs true := ⟨rfl, fun _ h => h, fun j h => ⟨j, h, .refl j⟩, fun h => by cases h⟩
theorem StarR.start (os rs : List Bool) : StarR os rs os 0 false := ⟨rfl, fun j => by simp, Nat.le_refl _, (fun h => by cases h), (fun _ j h _ => by omega)⟩
theorem StarR.off {os rs ms : List Bool} {i : Nat} {m : Bool} (h : StarR os rs ms i m) (hr : rs[i]? = some false) : StarR os rs ms (i + 1) m := by
  have no := off_of hr
  refine ⟨h.len, fun j => ?_, h.le, h.less, fun e j hj hj2 => ?_⟩
  · rw [h.on j]
    constructor
    · rintro (h1 | ⟨h1, h2⟩)
      · exact Or.inl h1
      · exact Or.inr ⟨by omega, h2⟩
    · rintro (h1 | ⟨h1, h2⟩)
      · exact Or.inl h1
      · by_cases c : j = i
        · subst c; exact absurd h2 no
        · exact Or.inr ⟨by omega, h2⟩
  · by_cases c : j = i
    · subst c; exact absurd hj2 no
    · exact h.same e j (by omega) hj2
theorem StarR.old {os rs ms : List Bool} {i : Nat} {m : Bool} (h : StarR os rs ms i m) (hm : ms[i]? = some true) : StarR os rs ms (i + 1) m := by
  have hon : On os i := by
    rcases (h.on i).1 hm with h1 | ⟨h1, _⟩
    · exact h1
    · omega
  refine ⟨h.len, fun j => ?_, h.le, h.less, fun e j hj hj2 => ?_⟩
  · rw [h.on j]
    constructor
    · rintro (h1 | ⟨h1, h2⟩)
      · exact Or.inl h1
      · exact Or.inr ⟨by omega, h2⟩
    · rintro (h1 | ⟨h1, h2⟩)
      · exact Or.inl h1
      · by_cases c : j = i
        · subst c; exact Or.inl hon
        · exact Or.inr ⟨by omega, h2⟩
  · by_cases c : j = i
    · subst c; exact hon
    · exact h.same e j (by omega) hj2
theorem StarR.new {os rs ms : List Bool} {i : Nat} {m : Bool} (h : StarR os rs ms i m) (hr : rs[i]? = some true) (hm : ms[i]? = some false) : StarR os rs (ms.set i true) (i + 1) true := by
  have hi := (List.getElem?_eq_some_iff.1 hm).1
  have ho := offs_set hm
  have hl := h.le
  refine ⟨by rw [List.length_set, h.len], fun j => ?_, by omega, fun _ => by omega, fun e => by cases e⟩
  rw [on_set hi, h.on j]
  constructor
  · rintro ((h1 | ⟨h1, h2⟩) | rfl)
    · exact Or.inl h1
    · exact Or.inr ⟨by omega, h2⟩
    · exact Or.inr ⟨by omega, hr⟩
  · rintro (h1 | ⟨h1, h2⟩)
    · exact Or.inl (Or.inl h1)
    · by_cases c : j = i
      · exact Or.inr c
      · exact Or.inl (Or.inr ⟨by omega, h2⟩)
theorem StarG.next {l : List Int} {s : Tree} {bs os rs ms : List Bool} {more m : Bool} {n : Nat} (h : StarG l s bs os more) (hr : ∀ j, On rs j ↔ ∃ i, On os i ∧ Goes l s i j) (hn : rs.length = n) (hR : StarR os rs ms n m) : StarG l s bs ms m := by
  refine ⟨by rw [hR.len, h.len], fun j hj => (hR.on j).2 (Or.inl (h.low j hj)), fun j hj => ?_, fun e i j hi hg => ?_⟩
  · rcases (hR.on j).1 hj with h1 | ⟨_, h1⟩
    · exact h.high j h1
    · obtain ⟨i, h2, h3⟩ := (hr j).1 h1
      obtain ⟨i0, h4, h5⟩ := h.high i h2
      exact ⟨i0, h4, h5.snoc h3⟩
  · have hi2 : On os i := by
      rcases (hR.on i).1 hi with h1 | ⟨h1, h2⟩
      · exact h1
      · exact hR.same e i h1 h2
    have hj : On rs j := (hr j).2 ⟨i, hi2, hg⟩
    exact (hR.on j).2 (Or.inr ⟨by have := on_lt hj; omega, hj⟩)
theorem StarG.end_ {l : List Int} {s : Tree} {set : List (Int × Int)} {bs os : List Bool} (h : StarG l s bs os false) (hb : bs.length = l.length + 1) : ∀ j, On os j ↔ ∃ i, On bs i ∧ Goes l (.mk 4 set [s]) i j := by
  have hc : ∀ i j, Chain (Goes l s) i j → On os i → On os j := by
    intro i j c
    induction c with
    | refl i => exact id
    | step h1 _ ih => exact fun h2 => ih (h.shut rfl _ _ h2 h1)
  intro j
  constructor
  · intro hj
    obtain ⟨i, h1, h2⟩ := h.high j hj
    exact ⟨i, h1, (goes_star _ _ _ _ _).2 ⟨by have := on_lt h1; omega, h2⟩⟩
  · rintro ⟨i, h1, h2⟩
    exact hc i j ((goes_star _ _ _ _ _).1 h2).2 (h.low i h1)

set_option maxRecDepth 100000 in
set_option maxHeartbeats 8000000 in
theorem rends_star {l : List Int} {pv : Value} {set : List (Int × Int)} {s : Tree} (hl : l.length ≤ 255) (hE : CR l pv s) : CR l pv (.mk 4 set [s]) := by
  intro x w ab bs hx hp hab hbs
  obtain ⟨k, set', subs', rows, sa, sc, ba, bc, he, rfl, hS, hB, hT⟩ := hx.parts
  injection he with e1 e2 e3
  subst e1 e2 e3
  obtain ⟨pa, pc, rfl⟩ := hp.form
  obtain ⟨S, hSn⟩ : ∃ S, S = set.length := ⟨_, rfl⟩
  obtain ⟨L, hL⟩ : ∃ L, L = l.length := ⟨_, rfl⟩
  have HL : Hid (L = l.length) := hL
  have HSn : Hid (S = set.length) := hSn
  have HP : Hid (RowN w (.slice pa L pc) l) := by rw [hL]; exact hp
  have HA : Hid (Blk w ab (brow bs) 4) := hab
  have HAl : Hid (bs.length = L + 1) := by rw [hL]; exact hbs
  have hll : L ≤ 255 := by omega
  have hab2 : ab < w.heap.size := hab.lt
  have kE0 : ∀ (r : PC) (W : World) (ob : Nat) (os : List Bool), HT W s r → RowN W (.slice pa L pc) l → Blk W ob (brow os) 4 → os.length = L + 1 → Calls Tryd.prog 68 #[r.v, .slice pa L pc, .slice (some ⟨ob, 0, none⟩) (L + 1) (L + 1)] W fun e w' => PostE l s os W e w' := fun r W ob os h1 h2 h3 h4 => by
    rw [hL] at h2 h4 ⊢
    exact hE r W ob os h1 h2 h3 h4
  have HE : Hid (∀ (r : PC) (W : World) (ob : Nat) (os : List Bool), HT W s r → RowN W (.slice pa L pc) l → Blk W ob (brow os) 4 → os.length = L + 1 → Calls Tryd.prog 68 #[r.v, .slice pa L pc, .slice (some ⟨ob, 0, none⟩) (L + 1) (L + 1)] W fun e w' => ∃ (ob' : Nat) (os' : List Bool), e = .returned (.slice (some ⟨ob', 0, none⟩) (L + 1) (L + 1)) ∧ W.heap.size ≤ ob' ∧ Blk w' ob' (brow os') 4 ∧ os'.length = L + 1 ∧ (∀ j, On os' j ↔ ∃ i, On os i ∧ Goes l s i j) ∧ Gr W w') := fun r W ob os h1 h2 h3 h4 => by
    have := kE0 r W ob os h1 h2 h3 h4
    unfold PostE at this
    rw [← hL] at this
    exact this
  clear kE0 hE
  rw [← hSn, ← hL]
  have HPo : Hid (PostE l (.mk 4 set [s]) bs w = fun e w' => ∃ (ob : Nat) (os : List Bool), e = .returned (.slice (some ⟨ob, 0, none⟩) (L + 1) (L + 1)) ∧ w.heap.size ≤ ob ∧ Blk w' ob (brow os) 4 ∧ os.length = L + 1 ∧ (∀ j, On os j ↔ ∃ i, On bs i ∧ Goes l (.mk 4 set [s]) i j) ∧ Gr w w') := by show _ = _; rw [hL]; rfl
  have mk : ∀ W : World, (Instr.makeSlice 96 (.int .i64 ((L : Int) + 1)) (.int .i64 ((L : Int) + 1))).run Tryd.prog W = .ok (.slice (some ⟨W.heap.size, 0, none⟩) (L + 1) (L + 1)) (W.alloc (.cells (brow (List.replicate (L + 1) false)) 4)) := fun W => make4 (L + 1) (by omega) W
  obtain ⟨r, hr, hr2⟩ := HTs.at hT (i := 0) (t := s) rfl
  obtain ⟨rb, ro, rfl, hrb, q0, q1, q2⟩ := RowX.cs3 hB hr
  have HR : Hid (HT w s r) := hr2
  obtain ⟨rk, ⟨rsa, rsn, rsc⟩, rba, rbn, rbc⟩ := r
  simp only [Nat.zero_mul, Nat.add_zero] at q0 q1 q2
  simp only [List.length_singleton]
  clear hx hp hab hbs hS hB hT hSn hL hr hr2
  go_enter Tryd.func68, Tryd.ntmps68
  go_upto_region 2 with fail
  generalize hW : World.alloc _ _ = W2
  have HI : Hid (EX w ⟨4, ⟨sa, S, sc⟩, ⟨some ⟨rb, ro, none⟩, 1, bc⟩⟩ (w.heap.size + 1) (List.replicate (L + 1) false) W2) := by
    rw [← hW]
    exact ⟨((Gr.refl _).alloc _).alloc _, (Blk.new _ _ _).alloc _, Blk.new' _ _ _ _ (by simp), by omega⟩
  clear hW mk
  obtain ⟨x0, x1, x2⟩ := BlkT.cs HI.out.box
  simp only at x0 x1 x2
  go_wp2_with (refine wp_copyB (by rfl) _ _ (by rfl) (w.heap.size + 1) ab (L + 1) (by rfl) (by rfl) (List.replicate (L + 1) false) bs HI.out.out (HA.out.bel HI.out.bel) (by simp) HAl.out ?_; intro w3 hb3 bb3 dd3; have I3 : Hid (EX w ⟨4, ⟨sa, S, sc⟩, ⟨some ⟨rb, ro, none⟩, 1, bc⟩⟩ (w.heap.size + 1) bs w3) := HI.out.copied hb3 bb3 dd3; clear hb3 bb3 dd3)
  clear HI x0 x1 x2
  go_loopg [16] (2 * offs bs + 1) (fun g v16 wr => ∃ (os : List Bool) (more : Bool), 2 * offs os + bit more ≤ g ∧ v16 = .bool more ∧ Hid (EX w ⟨4, ⟨sa, S, sc⟩, ⟨some ⟨rb, ro, none⟩, 1, bc⟩⟩ (w.heap.size + 1) os wr) ∧ StarG l s bs os more)
  case atStart => exact ⟨bs, true, by simp [bit], rfl, I3, StarG.start _ _ _⟩
  case round =>
    clear I3
    obtain ⟨os, more, hg, rfl, HI, HG⟩ := hrel
    cases more
    case false =>
      go_wp2_with fail
      go_ret
      rw [HPo.out]
      exact ⟨_, os, rfl, by omega, HI.out.out, by rw [HG.len, HAl.out], HG.end_ (by rw [HAl.out, HL.out]), HI.out.gr⟩
    case true =>
      have q0' := (HI.out.bel.cell (by exact hrb)).trans q0
      have q1' := (HI.out.bel.cell (by exact hrb)).trans q1
      have q2' := (HI.out.bel.cell (by exact hrb)).trans q2
      obtain ⟨x0, x1, x2⟩ := BlkT.cs HI.out.box
      simp only at x0 x1 x2
      have HLe : os.length = L + 1 := by rw [HG.len, HAl.out]
      have kE := fun W g => HE.out ⟨rk, ⟨rsa, rsn, rsc⟩, ⟨rba, rbn, rbc⟩⟩ W (w.heap.size + 1) os (HT.bel (bstep HI.out.bel g) HR.out) (HP.out.bel (bstep HI.out.bel g)) (HI.out.out.bel g) HLe
      have h2 : 2 * offs os + 1 ≤ gk := hg
      have HGg : Hid (2 * offs os + 1 ≤ gk) := h2
      have HOl : Hid (os.length = L + 1) := HLe
      clear hg HLe h2
      go_wp2_with (go_at_call 68; refine (kE _ (Below.refl _ _)).mono ?_; rintro _ w5 ⟨ob5, os5, rfl, hob5, bl5, len5, on5, bb5⟩; have I5 : Hid (EX w ⟨4, ⟨sa, S, sc⟩, ⟨some ⟨rb, ro, none⟩, 1, bc⟩⟩ (w.heap.size + 1) os w5) := HI.out.go bb5; have B5 : Hid (Blk w5 ob5 (brow os5) 4) := bl5; have N5 : Hid (w.heap.size + 1 < ob5) := (by have := HI.out.out.lt; exact (by omega : w.heap.size + 1 < ob5)); have L5 : Hid (os5.length = L + 1) := len5; have O5 : Hid (∀ j, On os5 j ↔ ∃ i, On os i ∧ Goes l s i j) := on5; clear hob5 bl5 len5 on5 bb5)
      clear HI q0' q1' q2' x0 x1 x2 kE
      go_loopw [16, 110] (fun v16 vi wq => ∃ (i : Nat) (ms : List Bool) (m : Bool), i ≤ L + 1 ∧ vi = .int .i64 i ∧ v16 = .bool m ∧ Hid (EX w ⟨4, ⟨sa, S, sc⟩, ⟨some ⟨rb, ro, none⟩, 1, bc⟩⟩ (w.heap.size + 1) ms wq ∧ Blk wq ob5 (brow os5) 4) ∧ StarR os os5 ms i m) (fun _ vi _ => L + 1 - (intOf vi).toNat)
      case atStart => exact ⟨0, os, false, Nat.zero_le _, rfl, rfl, ⟨I5.out, B5.out⟩, StarR.start _ _⟩
      case round =>
        clear I5 B5
        obtain ⟨i, ms, m, hi, rfl, rfl, HI, HM⟩ := hrel
        by_cases hlt : i < L + 1
        case neg =>
          have hle : ¬ (i : Int) < (L : Int) + 1 := by omega
          have hiL : i = L + 1 := by omega
          rw [hiL] at HM
          have HN : StarG l s bs ms m := HG.next O5.out L5.out HM
          have HLt : Hid (2 * offs ms + bit m < 2 * offs os + 1) := by
            have h1 := HM.le
            cases m
            · show 2 * offs ms + 0 < _; omega
            · have := HM.less rfl; show 2 * offs ms + 1 < _; omega
          clear hiL HM HG
          go_wp2_with fail
          go_roundg (2 * offs ms + bit m)
          case measure => have := HLt.out; have := HGg.out; omega
          case rel => exact ⟨ms, m, Nat.le_refl _, rfl, HI.out.1, HN⟩
        case pos =>
          have hml : ms.length = L + 1 := by rw [HM.len, HOl.out]
          obtain ⟨a, ha⟩ : ∃ a, ms[i]? = some a := ⟨_, List.getElem?_eq_getElem (by omega)⟩
          obtain ⟨b, hb⟩ : ∃ b, os5[i]? = some b := ⟨_, List.getElem?_eq_getElem (by have := L5.out; omega)⟩
          have c0 := brow_at HI.out.2 hb
          have o0 := brow_at HI.out.1.out ha
          have of := HI.out.1.out.frozen
          have hle : (i : Int) < (L : Int) + 1 := by omega
          cases b
          · have HM2 := HM.off hb
            clear HM ha hb hml
            go_wp2_with fail
            go_roundw
            case rel => exact ⟨i + 1, ms, m, by omega, by go_num, rfl, HI, HM2⟩
            case measure => simp [intOf]; omega
          · cases a
            · have HM2 := HM.new hb ha
              have HJ : Hid (EX w ⟨4, ⟨sa, S, sc⟩, ⟨some ⟨rb, ro, none⟩, 1, bc⟩⟩ (w.heap.size + 1) (ms.set i true) (wr.setCell ⟨w.heap.size + 1, i, none⟩ (.bool true)) ∧ Blk (wr.setCell ⟨w.heap.size + 1, i, none⟩ (.bool true)) ob5 (brow os5) 4) :=
                ⟨HI.out.1.set (by omega) true, HI.out.2.other (by have := N5.out; show ob5 ≠ w.heap.size + 1; omega) _⟩
              clear HM ha hb hml
              go_wp2_with fail
              have J6 := HJ.out
              generalize hW6 : World.setCell _ _ _ = W6 at J6 ⊢
              have H6 : Hid (EX w ⟨4, ⟨sa, S, sc⟩, ⟨some ⟨rb, ro, none⟩, 1, bc⟩⟩ (w.heap.size + 1) (ms.set i true) W6 ∧ Blk W6 ob5 (brow os5) 4) := J6
              clear J6 hW6 HJ HI c0 o0 of
              go_wp2_with fail
              go_roundw
              case rel => exact ⟨i + 1, _, true, by omega, by go_num, rfl, H6, HM2⟩
              case measure => simp [intOf]; omega
            · have HM2 := HM.old ha
              clear HM ha hb hml
              go_wp2_with fail
              go_roundw
              case rel => exact ⟨i + 1, ms, m, by omega, by go_num, rfl, HI, HM2⟩
              case measure => simp [intOf]; omega

end Go.Proofs.YtjjlkjfhhpogaaaDoor

namespace Go.Proofs.YtjjlkjfhhpogaaaDoor
open Go.RowKit

/-- Of any right pattern. -/
theorem rends_all {l : List Int} {pv : Value} (hl : l.length ≤ 255) (n : Nat) : ∀ t : Tree, size t ≤ n → size t ≤ 200 → kindsT t = true → CR l pv t := by
  induction n with
  | zero => intro t h; have := size_pos t; omega
  | succ n ih =>
    intro t h1 h2 h3
    obtain ⟨k, set, subs⟩ := t
    rw [size_mk] at h1 h2
    rw [kindsT_mk] at h3
    simp only [Bool.and_eq_true] at h3
    have hlen := length_le_sizeL subs
    have hE : ∀ (n : Nat) (s : Tree), subs[n]? = some s → CR l pv s := fun m s hs => ih s (by have := size_le_of_at hs; omega) (by have := size_le_of_at hs; omega) (kindsT_of_at h3.2 hs)
    rcases okAlone_cases h3.1 with ⟨rfl, _, h4⟩ | ⟨rfl, _⟩ | ⟨rfl, _⟩ | ⟨rfl, _, h4⟩
    · exact rends_one hl h4
    · exact rends_cat hl (by omega) hE
    · exact rends_alt hl (by omega) hE
    · obtain ⟨s, rfl⟩ := List.length_eq_one_iff.1 h4
      exact rends_star hl (hE 0 s rfl)

set_option maxRecDepth 100000 in
set_option maxHeartbeats 4000000 in
theorem rmatch_any (t : Tree) (x : PC) (pv : Value) (l : List Int) (w : World) (hz : size t ≤ 200) (hk : kindsT t = true) (hl : l.length ≤ 255) (hx : HT w t x) (hp : RowN w pv l) :
    Calls Tryd.prog 46 #[x.v, pv] w fun e w' => (∃ q : Bool, e = .returned (.bool q) ∧ (q = true ↔ takes t l)) ∧ Gr w w' := by
  have kE0 := rends_all (pv := pv) hl _ t (Nat.le_refl _) hz hk
  have HX : Hid (HT w t x) := hx
  obtain ⟨pa, pc, rfl⟩ := hp.form
  obtain ⟨L, hL⟩ : ∃ L, L = l.length := ⟨_, rfl⟩
  have HL : Hid (L = l.length) := hL
  have HP : Hid (RowN w (.slice pa L pc) l) := by rw [hL]; exact hp
  have hll : L ≤ 255 := by omega
  have kE : ∀ (W : World) (ob : Nat) (os : List Bool), HT W t x → RowN W (.slice pa L pc) l → Blk W ob (brow os) 4 → os.length = L + 1 → Calls Tryd.prog 68 #[x.v, .slice pa L pc, .slice (some ⟨ob, 0, none⟩) (L + 1) (L + 1)] W fun e w' => ∃ (ob' : Nat) (os' : List Bool), e = .returned (.slice (some ⟨ob', 0, none⟩) (L + 1) (L + 1)) ∧ W.heap.size ≤ ob' ∧ Blk w' ob' (brow os') 4 ∧ os'.length = L + 1 ∧ (∀ j, On os' j ↔ ∃ i, On os i ∧ Goes l t i j) ∧ Gr W w' := fun W ob os h1 h2 h3 h4 => by
    rw [hL] at h2 h4
    have := kE0 x W ob os h1 h2 h3 h4
    unfold PostE at this
    rw [← hL] at this
    exact this
  rw [← hL]
  obtain ⟨xk, ⟨x1, x2, x3⟩, x4, x5, x6⟩ := x
  have mk : ∀ W : World, (Instr.makeSlice 96 (.int .i64 ((L : Int) + 1)) (.int .i64 ((L : Int) + 1))).run Tryd.prog W = .ok (.slice (some ⟨W.heap.size, 0, none⟩) (L + 1) (L + 1)) (W.alloc (.cells (brow (List.replicate (L + 1) false)) 4)) := fun W => make4 (L + 1) (by omega) W
  clear kE0 hx hp hL hz hk hl
  go_enter Tryd.func46, Tryd.ntmps46
  go_upto_region 2 with fail
  generalize hW : World.alloc _ _ = W2
  have HI : Hid (EX w ⟨xk, ⟨x1, x2, x3⟩, ⟨x4, x5, x6⟩⟩ (w.heap.size + 1) (List.replicate (L + 1) false) W2) := by
    rw [← hW]
    exact ⟨((Gr.refl _).alloc _).alloc _, (Blk.new _ _ _).alloc _, Blk.new' _ _ _ _ (by simp), by omega⟩
  clear hW mk
  have hz : (List.replicate (L + 1) false)[0]? = some false := by simp
  have o0 := brow_at HI.out.out hz
  have of := HI.out.out.frozen
  have hL1 : (0 : Int) < (L : Int) + 1 := by omega
  have hL2 : (L : Int) < (L : Int) + 1 := by omega
  clear hz
  go_upto_region 3 with fail
  have J3 := HI.out.set (i := 0) (by simp) true
  generalize hW3 : World.setCell _ _ _ = W3 at J3 ⊢
  have H3 : Hid (EX w ⟨xk, ⟨x1, x2, x3⟩, ⟨x4, x5, x6⟩⟩ (w.heap.size + 1) ((List.replicate (L + 1) false).set 0 true) W3) := J3
  clear J3 hW3 HI o0 of
  obtain ⟨x0, x1', x2'⟩ := BlkT.cs H3.out.box
  simp only at x0 x1' x2'
  have kE2 := kE W3 _ _ (HT.bel H3.out.bel HX.out) (HP.out.bel H3.out.bel) H3.out.out (by simp)
  clear kE
  go_wp2_with (go_at_call 68; refine kE2.mono ?_; rintro _ w5 ⟨ob5, os5, rfl, hob5, bl5, len5, on5, g5⟩; obtain ⟨q, hq⟩ : ∃ q, os5[L]? = some q := ⟨_, List.getElem?_eq_getElem (by omega)⟩; have c5 := brow_at bl5 hq; have HQ : Hid (os5[L]? = some q) := hq; have HOn : Hid (∀ j, On os5 j ↔ ∃ i, On ((List.replicate (L + 1) false).set 0 true) i ∧ Goes l t i j) := on5; have G5 : Hid (Gr w w5) := H3.out.gr.trans g5; clear hob5 bl5 len5 on5 g5 hq)
  go_ret
  refine ⟨⟨q, rfl, ?_⟩, G5.out⟩
  have e : q = true ↔ On os5 L := by
    unfold On
    rw [HQ.out]
    simp
  rw [e, HOn.out L, ← goes_whole, ← HL.out]
  constructor
  · rintro ⟨i, h1, h2⟩
    rcases (on_set (by simp) i).1 h1 with h3 | rfl
    · exact absurd h3 (on_false _ _)
    · exact h2
  · intro h
    exact ⟨0, (on_set (by simp) 0).2 (Or.inr rfl), h⟩

end Go.Proofs.YtjjlkjfhhpogaaaDoor
