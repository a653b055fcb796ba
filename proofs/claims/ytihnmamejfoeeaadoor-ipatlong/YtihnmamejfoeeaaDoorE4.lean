/-
  The walk of ends.
-/
import Derived.Test.YtihnmamejfoeeaaDoorE3
namespace Go.Proofs.YtihnmamejfoeeaaDoor
open Go.RowKit

/-- What a part says of its subs. -/
theorem St.subs {l : List Int} {k : Int} {set : List (Int × Int)} {subs : List Tree} {w : World} {b i : Nat} {rows : List PV} {x : PV} {lo hi : Nat} (h : St l (.mk k set subs) w b i rows x lo hi) {n : Nat} {s : Tree} (hs : subs[n]? = some s) :
    ∃ sb R r a m, x.sub = ⟨some ⟨sb, 0, none⟩, subs.length, subs.length⟩ ∧ lo ≤ sb ∧ sb < a ∧ m ≤ hi ∧ St l s w sb n R r a m ∧
      ∀ w' r', k ≠ 4 → St l s w' sb n (R.set n r') r' a m → Fr a m sb w w' → St l (.mk k set subs) w' b i rows x lo hi := by
  obtain ⟨h1, h2, sb, a0, c0, R, h3, h4, h5, h6, h7, h8, h9, h10⟩ := (PT_mk _ _ _ _ _ _ _ _).1 h.pt
  obtain ⟨r, a, m, k1, k2, k3, k4, k5, k6⟩ := h9.at hs
  have ht := h.top
  have hp := h.pos
  have ho := h.out
  refine ⟨sb, R, r, a, m, h3, h4, by omega, by omega, ⟨h8, k1, k5, k3, by omega, Or.inl (by omega), h.tab, by omega, by omega⟩, fun w' r' hk hs' hf => ?_⟩
  refine ⟨h.blk.fr hf (by omega) (by omega), h.at_, (PT_mk _ _ _ _ _ _ _ _).2 ⟨h1, h2, sb, a0, c0, R.set n r', h3, h4, h5, h6, h7, hs'.blk, ?_, fun e => absurd e hk⟩, h.le, Nat.le_trans h.top hf.size, h.out, hs'.tab, h.pos, h.bpos⟩
  exact k6 w' r' hs'.pt fun g g1 g2 g3 => hf.block g (by omega) g3 (by omega)

/-- The state between two rounds. -/
structure EI (l : List Int) (t : Tree) (b i : Nat) (rows : List PV) (lo hi : Nat) (w : World) (p3 p4 : Nat) (wr : World) (x : PV) (o : Pl) : Prop where
  st : St l t wr b i rows x lo hi
  fr : Fr lo hi b w wr
  res : BlkL wr p4 .zero
  out : BlkL wr p3 o
theorem EI.gr {l : List Int} {t : Tree} {b i : Nat} {rows : List PV} {lo hi : Nat} {w wr w' : World} {p3 p4 : Nat} {x : PV} {o : Pl} (h : EI l t b i rows lo hi w p3 p4 wr x o) (k : Gr wr w') : EI l t b i rows lo hi w p3 p4 w' x o :=
  ⟨h.st.gr k, h.fr.gr k, h.res.gr k, h.out.gr k⟩
theorem EI.put {l : List Int} {t : Tree} {b i : Nat} {rows : List PV} {lo hi : Nat} {w wr : World} {p3 p4 : Nat} {x : PV} {o : Pl} (h : EI l t b i rows lo hi w p3 p4 wr x o) (hb : b < w.heap.size) (ht : hi ≤ w.heap.size) (h4 : p4 ≠ p3) (h3 : w.heap.size ≤ p3) (qa qb qc qd : BitVec 64) :
    EI l t b i rows lo hi w p3 p4 ((((wr.setCell ⟨p3, 0, none⟩ (.int .u64 (u qa))).setCell ⟨p3, 1, none⟩ (.int .u64 (u qb))).setCell ⟨p3, 2, none⟩ (.int .u64 (u qc))).setCell ⟨p3, 3, none⟩ (.int .u64 (u qd))) x ⟨qa, qb, qc, qd⟩ :=
  ⟨h.st.set4 (by omega) (by omega) (by omega) _ _ _ _ _ _ _ _, h.fr.set4 (Or.inl h3) _ _ _ _ _ _ _ _, Blk.other4 h.res h4 _ _ _ _ _ _ _ _, BlkL.set4 h.out qa qb qc qd⟩

theorem onw_goes {l : List Int} (hl : l.length ≤ 255) {set : List (Int × Int)} {subs : List Tree} {N tk : Pl} (ht : ∀ i, tk.has i = true ↔ ∃ n, l[i]? = some n ∧ inSet set n = true) (j : Nat) : (N.and tk).onw.has j = true ↔ ∃ i, N.has i = true ∧ Goes l (.mk 1 set subs) i j := by
  cases j with
  | zero =>
    rw [Pl.has_onw_zero]
    simp only [Bool.false_eq_true, false_iff]
    rintro ⟨i, _, h⟩
    have := ((goes_one _ _ _ _ _).1 h).1
    omega
  | succ n =>
    constructor
    · intro h
      by_cases c : n < 255
      · rw [Pl.has_onw _ c, Pl.has_and] at h
        simp only [Bool.and_eq_true] at h
        exact ⟨n, h.1, (goes_one _ _ _ _ _).2 ⟨rfl, (ht n).1 h.2⟩⟩
      · rw [Pl.has_big _ (by omega)] at h
        cases h
    · rintro ⟨i, h1, h2⟩
      obtain ⟨h3, x, h4, h5⟩ := (goes_one _ _ _ _ _).1 h2
      have hi : i = n := by omega
      subst hi
      have := (List.getElem?_eq_some_iff.1 h4).1
      rw [Pl.has_onw _ (by omega), Pl.has_and, h1, (ht i).2 ⟨x, h4, h5⟩]
      rfl

set_option maxRecDepth 100000 in
set_option maxHeartbeats 4000000 in
theorem ends_one {l : List Int} (hl : l.length ≤ 255) {set : List (Int × Int)} {subs : List Tree} : CE l (.mk 1 set subs) := by
  intro w b i rows x lo hi N hS hN
  have HBl : Hid (b < w.heap.size) := hS.lt
  have HTop : Hid (hi ≤ w.heap.size) := hS.top
  have HAt : Hid (rows[i]? = some x) := hS.at_
  have HS : Hid (St l (.mk 1 set subs) w b i rows x lo hi) := hS
  obtain ⟨h1, h2, _⟩ := (PT_mk _ _ _ _ _ _ _ _).1 hS.pt
  have HT2 : Hid (∀ i, x.tk.has i = true ↔ ∃ n, l[i]? = some n ∧ inSet set n = true) := h2 rfl
  obtain ⟨xk, xsub, tk, xst, ak⟩ := x
  simp only at h1 HT2
  subst h1
  have kb := fun W => both_any N tk W
  have ko := fun W => onward_any (N.and tk) W
  obtain ⟨c0, _, _, _, _, _, _, _, _, _, _⟩ := part_cs hS.blk hS.at_
  simp only at c0
  have bl := hS.lt
  clear hS hN h2
  go_enter Tryd.func18, Tryd.ntmps18
  go_wp2_with fail
  generalize hW : World.alloc _ _ = W
  have g0 : Gr w W := by
    rw [← hW]
    exact ((Gr.refl _).alloc _).alloc _
  have h1 : EI l (.mk 1 set subs) b i rows lo hi w w.heap.size (w.heap.size + 1) W ⟨1, xsub, tk, xst, ak⟩ N := by
    refine ⟨HS.out.gr g0, .of_gr g0, ?_, ?_⟩
    · rw [← hW]; exact Blk.new' _ _ _ _ (by simp)
    · rw [← hW]; exact (Blk.new _ _ _).alloc _
  have HI : Hid (EI l (.mk 1 set subs) b i rows lo hi w w.heap.size (w.heap.size + 1) W ⟨1, xsub, tk, xst, ak⟩ N) := h1
  clear hW g0 h1 c0 bl
  obtain ⟨_, _, d2, d3, d4, d5, _, _, _, _, _⟩ := part_cs HI.out.st.blk HI.out.st.at_
  simp only at d2 d3 d4 d5
  obtain ⟨c0, c1, c2, c3⟩ := BlkL.cs HI.out.out
  go_region_with
    (first
      | (go_at_call 35; refine (kb _).mono ?_; rintro _ w2 ⟨rfl, gw⟩; have I2 : Hid (EI l (.mk 1 set subs) b i rows lo hi w w.heap.size (w.heap.size + 1) w2 ⟨1, xsub, tk, xst, ak⟩ N) := HI.out.gr (((Gr.refl _).drewN 1).trans gw); clear gw)
      | (go_at_call 36; refine (ko _).mono ?_; rintro _ w3 ⟨rfl, gw⟩; have I3 : Hid (EI l (.mk 1 set subs) b i rows lo hi w w.heap.size (w.heap.size + 1) w3 ⟨1, xsub, tk, xst, ak⟩ N) := I2.out.gr gw; clear gw; obtain ⟨z0, z1, z2, z3⟩ := BlkL.cs I3.out.res; have zf := I3.out.res.frozen))
  all_goals
    have HO : Hid (∀ j, (N.and tk).onw.has j = true ↔ ∃ i, N.has i = true ∧ Goes l (.mk 1 set subs) i j) := onw_goes hl HT2.out
    generalize (N.and tk).onw = q at *
    obtain ⟨qa, qb, qc, qd⟩ := q
    go_wp2_with fail
    refine bodyPost_ret (v := plv ⟨qa, qb, qc, qd⟩) ?_ rfl ⟨⟨qa, qb, qc, qd⟩, ⟨1, xsub, tk, xst, ak⟩, rfl, HO.out, ?_, ?_⟩
    · simp [results, Tryd.results18]
      exact run_plv (BlkL.set4 I3.out.res qa qb qc qd)
    · rw [set_id HAt.out]
      exact I3.out.st.set4 (by have := HBl.out; omega) (by have := HTop.out; omega) (by omega) _ _ _ _ _ _ _ _
    · exact I3.out.fr.set4 (Or.inl (by omega)) _ _ _ _ _ _ _ _

set_option maxRecDepth 100000 in
set_option maxHeartbeats 4000000 in
theorem ends_star {l : List Int} (hl : l.length ≤ 255) {set : List (Int × Int)} {s : Tree} (hE : CE l s) : CE l (.mk 4 set [s]) := by
  intro w b i rows x lo hi N hS hN
  have ka := fun (W : World) h => again_any (set := set) hl hE W b i rows x lo hi N h hN
  have HBl : Hid (b < w.heap.size) := hS.lt
  have HTop : Hid (hi ≤ w.heap.size) := hS.top
  have HS : Hid (St l (.mk 4 set [s]) w b i rows x lo hi) := hS
  have HN : Hid (∀ n, N.has n = true → n ≤ l.length) := hN
  obtain ⟨h1, _⟩ := (PT_mk _ _ _ _ _ _ _ _).1 hS.pt
  obtain ⟨c0, _, _, _, _, _, _, _, _, _, _⟩ := part_cs hS.blk hS.at_
  rw [h1] at c0
  have bl := hS.lt
  clear hS hN h1 hE
  go_enter Tryd.func18, Tryd.ntmps18
  go_wp2_with (go_at_call 37; refine (ka _ ((HS.out.alloc _).alloc _)).mono ?_; rintro _ w2 ⟨r2, x2, rfl, hr2, s2, f2⟩; have HR2 : Hid (∀ j, r2.has j = true ↔ ∃ n, N.has n = true ∧ Chain (Goes l s) n j) := hr2; have HS2 : Hid (St l (.mk 4 set [s]) w2 b i (rows.set i x2) x2 lo hi) := s2; have HF2 : Hid (Fr lo hi b w w2) := (Fr.of_gr (((Gr.refl _).alloc _).alloc _)).trans f2; have R2 : Hid (BlkL w2 (w.heap.size + 1) .zero) := Blk.fr f2 (Blk.new' _ _ _ _ (by simp)) (by have := HTop.out; omega) (by have := HBl.out; omega); clear hr2 s2 f2; obtain ⟨z0, z1, z2, z3⟩ := BlkL.cs R2.out; have zf := R2.out.frozen)
  obtain ⟨qa, qb, qc, qd⟩ := r2
  go_wp2_with fail
  refine bodyPost_ret (v := plv ⟨qa, qb, qc, qd⟩) ?_ rfl ⟨⟨qa, qb, qc, qd⟩, x2, rfl, ?_, ?_, ?_⟩
  · simp [results, Tryd.results18]
    exact run_plv (BlkL.set4 R2.out qa qb qc qd)
  · intro j
    rw [HR2.out j]
    constructor
    · rintro ⟨n, k1, k2⟩
      exact ⟨n, k1, (goes_star _ _ _ _ _).2 ⟨HN.out n k1, k2⟩⟩
    · rintro ⟨n, k1, k2⟩
      exact ⟨n, k1, ((goes_star _ _ _ _ _).1 k2).2⟩
  · exact HS2.out.set4 (by have := HBl.out; omega) (by have := HTop.out; omega) (by omega) _ _ _ _ _ _ _ _
  · exact HF2.out.set4 (Or.inl (by omega)) _ _ _ _ _ _ _ _

end Go.Proofs.YtihnmamejfoeeaaDoor
