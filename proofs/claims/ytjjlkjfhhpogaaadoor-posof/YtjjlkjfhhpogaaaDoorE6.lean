/-
  The walk of ends.
  The walk of ends, of a Cat and of an Alt; of any right pattern.
  The walk of ends, of an Alt; of any right pattern.
-/
import Derived.Test.YtjjlkjfhhpogaaaDoorE3
namespace Go.Proofs.YtjjlkjfhhpogaaaDoor
open Go.RowKit

/-- What a part says of its subs. -/
theorem St.subs {l : List Int} {k : Int} {set : List (Int × Int)} {subs : List Tree} {w : World} {b i : Nat} {rows : List PV} {x : PV} {lo hi : Nat} (h : St l (.mk k set subs) w b i rows x lo hi) {n : Nat} {s : Tree} (hs : subs[n]? = some s) :
    ∃ sb R r a m, x.sub = ⟨some ⟨sb, 0, none⟩, subs.length, subs.length⟩ ∧ lo ≤ sb ∧ sb < a ∧ m ≤ hi ∧ St l s w sb n R r a m ∧
      ∀ w' r', k ≠ 4 → St l s w' sb n (R.set n r') r' a m → Fr a m sb w w' → St l (.mk k set subs) w' b i rows x lo hi := by
  obtain ⟨h1, h2, sb, a0, c0, R, h3, h4, h5, h6, h7, h8, h9, h10⟩ := (PT_mk _ _ _ _ _ _ _ _).1 h.pt
  obtain ⟨r, a, m, k1, k2, k3, k4, k5, k6⟩ := h9.at hs
  have ht := h.top
  have hp := h.pos
  have ho := h.out
  refine ⟨sb, R, r, a, m, h3, h4, by omega, by omega, ⟨h8, k1, k5, k3, by omega, Or.inl (by omega), h.tab, by omega, by omega⟩, fun w' r' hk hs' hf => ?_⟩
  refine ⟨h.blk.fr hf (by omega) (by omega), h.at_, (PT_mk _ _ _ _ _ _ _ _).2 ⟨h1, h2, sb, a0, c0, R.set n r', h3, h4, h5, h6, h7, hs'.blk, ?_, fun e => absurd e hk⟩, h.le, Nat.le_trans h.top hf.size, h.out, hs'.tab, h.pos, h.bpos⟩
  exact k6 w' r' hs'.pt fun g g1 g2 g3 => hf.block g (by omega) g3 (by omega)

/-- The state between two rounds. -/
structure EI (l : List Int) (t : Tree) (b i : Nat) (rows : List PV) (lo hi : Nat) (w : World) (p3 p4 : Nat) (wr : World) (x : PV) (o : Pl) : Prop where
  st : St l t wr b i rows x lo hi
  fr : Fr lo hi b w wr
  res : BlkL wr p4 .zero
  out : BlkL wr p3 o
theorem EI.gr {l : List Int} {t : Tree} {b i : Nat} {rows : List PV} {lo hi : Nat} {w wr w' : World} {p3 p4 : Nat} {x : PV} {o : Pl} (h : EI l t b i rows lo hi w p3 p4 wr x o) (k : Gr wr w') : EI l t b i rows lo hi w p3 p4 w' x o :=
  ⟨h.st.gr k, h.fr.gr k, h.res.gr k, h.out.gr k⟩
theorem EI.put {l : List Int} {t : Tree} {b i : Nat} {rows : List PV} {lo hi : Nat} {w wr : World} {p3 p4 : Nat} {x : PV} {o : Pl} (h : EI l t b i rows lo hi w p3 p4 wr x o) (hb : b < w.heap.size) (ht : hi ≤ w.heap.size) (h4 : p4 ≠ p3) (h3 : w.heap.size ≤ p3) (qa qb qc qd : BitVec 64) :
    EI l t b i rows lo hi w p3 p4 ((((wr.setCell ⟨p3, 0, none⟩ (.int .u64 (u qa))).setCell ⟨p3, 1, none⟩ (.int .u64 (u qb))).setCell ⟨p3, 2, none⟩ (.int .u64 (u qc))).setCell ⟨p3, 3, none⟩ (.int .u64 (u qd))) x ⟨qa, qb, qc, qd⟩ :=
  ⟨h.st.set4 (by omega) (by omega) (by omega) _ _ _ _ _ _ _ _, h.fr.set4 (Or.inl h3) _ _ _ _ _ _ _ _, Blk.other4 h.res h4 _ _ _ _ _ _ _ _, BlkL.set4 h.out qa qb qc qd⟩

theorem onw_goes {l : List Int} (hl : l.length ≤ 255) {set : List (Int × Int)} {subs : List Tree} {N tk : Pl} (ht : ∀ i, tk.has i = true ↔ ∃ n, l[i]? = some n ∧ inSet set n = true) (j : Nat) : (N.and tk).onw.has j = true ↔ ∃ i, N.has i = true ∧ Goes l (.mk 1 set subs) i j := by
  cases j with
  | zero =>
    rw [Pl.has_onw_zero]
    simp only [Bool.false_eq_true, false_iff]
    rintro ⟨i, _, h⟩
    have := ((goes_one _ _ _ _ _).1 h).1
    omega
  | succ n =>
    constructor
    · intro h
      by_cases c : n < 255
      · rw [Pl.has_onw _ c, Pl.has_and] at h
        simp only [Bool.and_eq_true] at h
        exact ⟨n, h.1, (goes_one _ _ _ _ _).2 ⟨rfl, (ht n).1 h.2⟩⟩
      · rw [Pl.has_big _ (by omega)] at h
        cases h
    · rintro ⟨i, h1, h2⟩
      obtain ⟨h3, x, h4, h5⟩ := (goes_one _ _ _ _ _).1 h2
      have hi : i = n := by omega
      subst hi
      have := (List.getElem?_eq_some_iff.1 h4).1
      rw [Pl.has_onw _ (by omega), Pl.has_and, h1, (ht i).2 ⟨x, h4, h5⟩]
      rfl

set_option maxRecDepth 100000 in
set_option maxHeartbeats 4000000 in
theorem ends_one {l : List Int} (hl : l.length ≤ 255) {set : List (Int × Int)} {subs : List Tree} : CE l (.mk 1 set subs) := by
  intro w b i rows x lo hi N hS hN
  have HBl : Hid (b < w.heap.size) := hS.lt
  have HTop : Hid (hi ≤ w.heap.size) := hS.top
  have HAt : Hid (rows[i]? = some x) := hS.at_
  have HS : Hid (St l (.mk 1 set subs) w b i rows x lo hi) := hS
  obtain ⟨h1, h2, _⟩ := (PT_mk _ _ _ _ _ _ _ _).1 hS.pt
  have HT2 : Hid (∀ i, x.tk.has i = true ↔ ∃ n, l[i]? = some n ∧ inSet set n = true) := h2 rfl
  obtain ⟨xk, xsub, tk, xst, ak⟩ := x
  simp only at h1 HT2
  subst h1
  have kb := fun W => both_any N tk W
  have ko := fun W => onward_any (N.and tk) W
  obtain ⟨c0, _, _, _, _, _, _, _, _, _, _⟩ := part_cs hS.blk hS.at_
  simp only at c0
  have bl := hS.lt
  clear hS hN h2
  go_enter Tryd.func43, Tryd.ntmps43
  go_wp2_with fail
  generalize hW : World.alloc _ _ = W
  have g0 : Gr w W := by
    rw [← hW]
    exact ((Gr.refl _).alloc _).alloc _
  have h1 : EI l (.mk 1 set subs) b i rows lo hi w w.heap.size (w.heap.size + 1) W ⟨1, xsub, tk, xst, ak⟩ N := by
    refine ⟨HS.out.gr g0, .of_gr g0, ?_, ?_⟩
    · rw [← hW]; exact Blk.new' _ _ _ _ (by simp)
    · rw [← hW]; exact (Blk.new _ _ _).alloc _
  have HI : Hid (EI l (.mk 1 set subs) b i rows lo hi w w.heap.size (w.heap.size + 1) W ⟨1, xsub, tk, xst, ak⟩ N) := h1
  clear hW g0 h1 c0 bl
  obtain ⟨_, _, d2, d3, d4, d5, _, _, _, _, _⟩ := part_cs HI.out.st.blk HI.out.st.at_
  simp only at d2 d3 d4 d5
  obtain ⟨c0, c1, c2, c3⟩ := BlkL.cs HI.out.out
  go_region_with
    (first
      | (go_at_call 63; refine (kb _).mono ?_; rintro _ w2 ⟨rfl, gw⟩; have I2 : Hid (EI l (.mk 1 set subs) b i rows lo hi w w.heap.size (w.heap.size + 1) w2 ⟨1, xsub, tk, xst, ak⟩ N) := HI.out.gr (((Gr.refl _).drewN 1).trans gw); clear gw)
      | (go_at_call 66; refine (ko _).mono ?_; rintro _ w3 ⟨rfl, gw⟩; have I3 : Hid (EI l (.mk 1 set subs) b i rows lo hi w w.heap.size (w.heap.size + 1) w3 ⟨1, xsub, tk, xst, ak⟩ N) := I2.out.gr gw; clear gw; obtain ⟨z0, z1, z2, z3⟩ := BlkL.cs I3.out.res; have zf := I3.out.res.frozen))
  all_goals
    have HO : Hid (∀ j, (N.and tk).onw.has j = true ↔ ∃ i, N.has i = true ∧ Goes l (.mk 1 set subs) i j) := onw_goes hl HT2.out
    generalize (N.and tk).onw = q at *
    obtain ⟨qa, qb, qc, qd⟩ := q
    go_wp2_with fail
    refine bodyPost_ret (v := plv ⟨qa, qb, qc, qd⟩) ?_ rfl ⟨⟨qa, qb, qc, qd⟩, ⟨1, xsub, tk, xst, ak⟩, rfl, HO.out, ?_, ?_⟩
    · simp [results, Tryd.results43]
      exact run_plv (BlkL.set4 I3.out.res qa qb qc qd)
    · rw [set_id HAt.out]
      exact I3.out.st.set4 (by have := HBl.out; omega) (by have := HTop.out; omega) (by omega) _ _ _ _ _ _ _ _
    · exact I3.out.fr.set4 (Or.inl (by omega)) _ _ _ _ _ _ _ _

set_option maxRecDepth 100000 in
set_option maxHeartbeats 4000000 in
theorem ends_star {l : List Int} (hl : l.length ≤ 255) {set : List (Int × Int)} {s : Tree} (hE : CE l s) : CE l (.mk 4 set [s]) := by
  intro w b i rows x lo hi N hS hN
  have ka := fun (W : World) h => again_any (set := set) hl hE W b i rows x lo hi N h hN
  have HBl : Hid (b < w.heap.size) := hS.lt
  have HTop : Hid (hi ≤ w.heap.size) := hS.top
  have HS : Hid (St l (.mk 4 set [s]) w b i rows x lo hi) := hS
  have HN : Hid (∀ n, N.has n = true → n ≤ l.length) := hN
  obtain ⟨h1, _⟩ := (PT_mk _ _ _ _ _ _ _ _).1 hS.pt
  obtain ⟨c0, _, _, _, _, _, _, _, _, _, _⟩ := part_cs hS.blk hS.at_
  rw [h1] at c0
  have bl := hS.lt
  clear hS hN h1 hE
  go_enter Tryd.func43, Tryd.ntmps43
  go_wp2_with (go_at_call 67; refine (ka _ ((HS.out.alloc _).alloc _)).mono ?_; rintro _ w2 ⟨r2, x2, rfl, hr2, s2, f2⟩; have HR2 : Hid (∀ j, r2.has j = true ↔ ∃ n, N.has n = true ∧ Chain (Goes l s) n j) := hr2; have HS2 : Hid (St l (.mk 4 set [s]) w2 b i (rows.set i x2) x2 lo hi) := s2; have HF2 : Hid (Fr lo hi b w w2) := (Fr.of_gr (((Gr.refl _).alloc _).alloc _)).trans f2; have R2 : Hid (BlkL w2 (w.heap.size + 1) .zero) := Blk.fr f2 (Blk.new' _ _ _ _ (by simp)) (by have := HTop.out; omega) (by have := HBl.out; omega); clear hr2 s2 f2; obtain ⟨z0, z1, z2, z3⟩ := BlkL.cs R2.out; have zf := R2.out.frozen)
  obtain ⟨qa, qb, qc, qd⟩ := r2
  go_wp2_with fail
  refine bodyPost_ret (v := plv ⟨qa, qb, qc, qd⟩) ?_ rfl ⟨⟨qa, qb, qc, qd⟩, x2, rfl, ?_, ?_, ?_⟩
  · simp [results, Tryd.results43]
    exact run_plv (BlkL.set4 R2.out qa qb qc qd)
  · intro j
    rw [HR2.out j]
    constructor
    · rintro ⟨n, k1, k2⟩
      exact ⟨n, k1, (goes_star _ _ _ _ _).2 ⟨HN.out n k1, k2⟩⟩
    · rintro ⟨n, k1, k2⟩
      exact ⟨n, k1, ((goes_star _ _ _ _ _).1 k2).2⟩
  · exact HS2.out.set4 (by have := HBl.out; omega) (by have := HTop.out; omega) (by omega) _ _ _ _ _ _ _ _
  · exact HF2.out.set4 (Or.inl (by omega)) _ _ _ _ _ _ _ _

end Go.Proofs.YtjjlkjfhhpogaaaDoor

namespace Go.Proofs.YtjjlkjfhhpogaaaDoor
open Go.RowKit

theorem goesC_take {l : List Int} {subs : List Tree} {k : Nat} {s : Tree} (hs : subs[k]? = some s) {N o r : Pl} (ho : ∀ j, o.has j = true ↔ ∃ i, N.has i = true ∧ GoesC l (subs.take k) i j) (hr : ∀ j, r.has j = true ↔ ∃ i, o.has i = true ∧ Goes l s i j) :
    ∀ j, r.has j = true ↔ ∃ i, N.has i = true ∧ GoesC l (subs.take (k + 1)) i j := by
  intro j
  rw [hr j, take_succ_of hs]
  constructor
  · rintro ⟨m, h1, h2⟩
    obtain ⟨i, h3, h4⟩ := (ho m).1 h1
    exact ⟨i, h3, (goesC_snoc _ _ _ _ _).2 ⟨m, h4, h2⟩⟩
  · rintro ⟨i, h3, h4⟩
    obtain ⟨m, h5, h6⟩ := (goesC_snoc _ _ _ _ _).1 h4
    exact ⟨m, (ho m).2 ⟨i, h3, h5⟩, h6⟩
theorem goesC_le {l : List Int} {ts : List Tree} {i j : Nat} (h : GoesC l ts i j) : j ≤ l.length := h.2.1

set_option maxRecDepth 100000 in
set_option maxHeartbeats 4000000 in
theorem ends_cat {l : List Int} {set : List (Int × Int)} {subs : List Tree} (hlen : subs.length ≤ 200) (hE : ∀ (n : Nat) (s : Tree), subs[n]? = some s → CE l s) : CE l (.mk 2 set subs) := by
  intro w b i rows x lo hi N hS hN
  have HBl : Hid (b < w.heap.size) := hS.lt
  have HTop : Hid (hi ≤ w.heap.size) := hS.top
  have HAt : Hid (rows[i]? = some x) := hS.at_
  have HS : Hid (St l (.mk 2 set subs) w b i rows x lo hi) := hS
  have HN : Hid (∀ n, N.has n = true → n ≤ l.length) := hN
  obtain ⟨h1, _, sb, _, _, _, h3, _⟩ := (PT_mk _ _ _ _ _ _ _ _).1 hS.pt
  obtain ⟨M, hM⟩ : ∃ M, M = subs.length := ⟨_, rfl⟩
  have HM : Hid (M = subs.length) := hM
  rw [← hM] at h3 hlen
  obtain ⟨xk, xsub, tk, xst, ak⟩ := x
  simp only at h1 h3
  subst h1 h3
  obtain ⟨c0, c1, _, _, _, _, _, _, _, _, _⟩ := part_cs hS.blk hS.at_
  simp only at c0 c1
  have bl := hS.lt
  clear hS hN hM
  go_enter Tryd.func43, Tryd.ntmps43
  go_wp2_with fail
  generalize hW : World.alloc _ _ = W
  have g0 : Gr w W := by
    rw [← hW]
    exact ((Gr.refl _).alloc _).alloc _
  have h1 : EI l (.mk 2 set subs) b i rows lo hi w w.heap.size (w.heap.size + 1) W ⟨2, ⟨some ⟨sb, 0, none⟩, M, M⟩, tk, xst, ak⟩ N := by
    refine ⟨HS.out.gr g0, .of_gr g0, ?_, ?_⟩
    · rw [← hW]; exact Blk.new' _ _ _ _ (by simp)
    · rw [← hW]; exact (Blk.new _ _ _).alloc _
  have HI : Hid (EI l (.mk 2 set subs) b i rows lo hi w w.heap.size (w.heap.size + 1) W ⟨2, ⟨some ⟨sb, 0, none⟩, M, M⟩, tk, xst, ak⟩ N) := h1
  clear hW g0 h1 c0 c1 bl HS
  go_loopw [28] (fun vi wr => ∃ (k : Nat) (o : Pl), k ≤ M ∧ vi = .int .i64 k ∧ Hid (EI l (.mk 2 set subs) b i rows lo hi w w.heap.size (w.heap.size + 1) wr ⟨2, ⟨some ⟨sb, 0, none⟩, M, M⟩, tk, xst, ak⟩ o) ∧ Hid (∀ j, o.has j = true ↔ ∃ i, N.has i = true ∧ GoesC l (subs.take k) i j)) (fun vi _ => M - (intOf vi).toNat)
  case atStart =>
    refine ⟨0, N, Nat.zero_le _, rfl, HI, fun j => ?_⟩
    constructor
    · intro h
      exact ⟨j, h, (goesC_nil _ _ _).2 ⟨rfl, HN.out j h⟩⟩
    · rintro ⟨i, h, h2⟩
      rw [List.take_zero] at h2
      obtain ⟨rfl, _⟩ := (goesC_nil _ _ _).1 h2
      exact h
  case round =>
    clear HI
    obtain ⟨k, o, hk, rfl, HI, HO⟩ := hrel
    by_cases hlt : k < M
    case neg =>
      obtain ⟨c0, c1, c2, c3⟩ := BlkL.cs HI.out.out
      obtain ⟨z0, z1, z2, z3⟩ := BlkL.cs HI.out.res
      have zf := HI.out.res.frozen
      have HTk : Hid (subs.take k = subs) := List.take_of_length_le (by have := HM.out; omega)
      rw [HTk.out] at HO
      obtain ⟨qa, qb, qc, qd⟩ := o
      simp only at c0 c1 c2 c3
      go_wp2_with fail
      refine bodyPost_ret (v := plv ⟨qa, qb, qc, qd⟩) ?_ rfl ⟨⟨qa, qb, qc, qd⟩, ⟨2, ⟨some ⟨sb, 0, none⟩, M, M⟩, tk, xst, ak⟩, rfl, ?_, ?_, ?_⟩
      · simp [results, Tryd.results43]
        exact run_plv (BlkL.set4 HI.out.res qa qb qc qd)
      · intro j
        rw [HO.out j]
        simp only [goes_cat]
      · rw [set_id HAt.out]
        exact HI.out.st.set4 (by have := HBl.out; omega) (by have := HTop.out; omega) (by omega) _ _ _ _ _ _ _ _
      · exact HI.out.fr.set4 (Or.inl (by omega)) _ _ _ _ _ _ _ _
    obtain ⟨s, hs⟩ : ∃ s, subs[k]? = some s := ⟨_, List.getElem?_eq_getElem (by have := HM.out; omega)⟩
    obtain ⟨sb', R, r, a, m, e1, e2, e3, e4, e5, e6⟩ := HI.out.st.subs hs
    have e0 : sb = sb' := by
      have h := congrArg Sl.a e1
      simp at h
      exact h
    clear e1
    subst e0
    have HSs : Hid (St l s wr sb k R r a m) := e5
    have HBack : Hid (∀ w' r', (2 : Int) ≠ 4 → St l s w' sb k (R.set k r') r' a m → Fr a m sb wr w' → St l (.mk 2 set subs) w' b i rows ⟨2, ⟨some ⟨sb, 0, none⟩, M, M⟩, tk, xst, ak⟩ lo hi) := e6
    have HAt2 : Hid (∀ r : Pl, (∀ j, r.has j = true ↔ ∃ i, o.has i = true ∧ Goes l s i j) → ∀ j, r.has j = true ↔ ∃ i, N.has i = true ∧ GoesC l (subs.take (k + 1)) i j) := fun r hr => goesC_take hs HO.out hr
    have kE := fun (W : World) h => hE k s hs W sb k R r a m o h (fun n hn => by obtain ⟨i', _, h2⟩ := (HO.out n).1 hn; exact goesC_le h2)
    have hlt2 : (k : Int) < M := by omega
    clear e5 e6 hs
    obtain ⟨c0, c1, c2, c3⟩ := BlkL.cs HI.out.out
    obtain ⟨_, d1, _, _, _, _, _, _, _, _, _⟩ := part_cs HI.out.st.blk HI.out.st.at_
    simp only at d1
    go_wp2_with fail
    go_region_with
      (go_at_call 43; refine (kE _ (HSs.out.drewN 1)).mono ?_; rintro _ w4 ⟨r4, x4, rfl, hr4, s4, f4⟩; have HR4 : Hid (∀ j, r4.has j = true ↔ ∃ i, o.has i = true ∧ Goes l s i j) := hr4; have F4 : Hid (Fr a m sb wr w4) := (Fr.of_gr ((Gr.refl _).drewN 1)).trans f4; have I4 : Hid (EI l (.mk 2 set subs) b i rows lo hi w w.heap.size (w.heap.size + 1) w4 ⟨2, ⟨some ⟨sb, 0, none⟩, M, M⟩, tk, xst, ak⟩ o) := ⟨HBack.out w4 x4 (by omega) s4 F4.out, HI.out.fr.trans (F4.out.wide (by omega) (by omega) (Or.inr (by omega))), Blk.fr F4.out HI.out.res (by have := HTop.out; omega) (by have := HTop.out; omega), Blk.fr F4.out HI.out.out (by have := HTop.out; omega) (by have := HTop.out; omega)⟩; clear hr4 s4 f4; obtain ⟨g0, g1, g2, g3⟩ := BlkL.cs I4.out.out; have gf := I4.out.out.frozen)
    all_goals
      have I5 := I4.out.put HBl.out HTop.out (by omega) (Nat.le_refl _) r4.a r4.b r4.c r4.d
      have HO5 : Hid (∀ j, r4.has j = true ↔ ∃ i, N.has i = true ∧ GoesC l (subs.take (k + 1)) i j) := HAt2.out r4 HR4.out
      generalize hW6 : World.setCell _ _ _ = W6 at I5 ⊢
      have H6 : Hid (EI l (.mk 2 set subs) b i rows lo hi w w.heap.size (w.heap.size + 1) W6 ⟨2, ⟨some ⟨sb, 0, none⟩, M, M⟩, tk, xst, ak⟩ r4) := I5
      clear I5 hW6 c0 c1 c2 c3 d1 g0 g1 g2 g3 gf HI I4 HR4 F4
      go_wp2_with fail
      go_roundw
      case rel => exact ⟨k + 1, r4, by omega, by go_num, H6, HO5⟩
      case measure => simp [intOf]; omega

end Go.Proofs.YtjjlkjfhhpogaaaDoor

namespace Go.Proofs.YtjjlkjfhhpogaaaDoor
open Go.RowKit

theorem goesA_take {l : List Int} {subs : List Tree} {k : Nat} {s : Tree} (hs : subs[k]? = some s) {N o r : Pl} (ho : ∀ j, o.has j = true ↔ ∃ i n t, n < k ∧ subs[n]? = some t ∧ N.has i = true ∧ Goes l t i j) (hr : ∀ j, r.has j = true ↔ ∃ i, N.has i = true ∧ Goes l s i j) :
    ∀ j, (o.or r).has j = true ↔ ∃ i n t, n < k + 1 ∧ subs[n]? = some t ∧ N.has i = true ∧ Goes l t i j := by
  intro j
  rw [Pl.has_or]
  simp only [Bool.or_eq_true]
  rw [ho j, hr j]
  constructor
  · rintro (⟨i, n, t, h1, h2⟩ | ⟨i, h1, h2⟩)
    · exact ⟨i, n, t, by omega, h2⟩
    · exact ⟨i, k, s, by omega, hs, h1, h2⟩
  · rintro ⟨i, n, t, h1, h2, h3, h4⟩
    by_cases c : n < k
    · exact Or.inl ⟨i, n, t, c, h2, h3, h4⟩
    · have : n = k := by omega
      subst this
      rw [hs] at h2
      injection h2 with h2
      subst h2
      exact Or.inr ⟨i, h3, h4⟩

set_option maxRecDepth 100000 in
set_option maxHeartbeats 4000000 in
theorem ends_alt {l : List Int} {set : List (Int × Int)} {subs : List Tree} (hlen : subs.length ≤ 200) (hE : ∀ (n : Nat) (s : Tree), subs[n]? = some s → CE l s) : CE l (.mk 3 set subs) := by
  intro w b i rows x lo hi N hS hN
  have HBl : Hid (b < w.heap.size) := hS.lt
  have HTop : Hid (hi ≤ w.heap.size) := hS.top
  have HAt : Hid (rows[i]? = some x) := hS.at_
  have HS : Hid (St l (.mk 3 set subs) w b i rows x lo hi) := hS
  have HN : Hid (∀ n, N.has n = true → n ≤ l.length) := hN
  have kw := fun o q W => with_any o q W
  obtain ⟨h1, _, sb, _, _, _, h3, _⟩ := (PT_mk _ _ _ _ _ _ _ _).1 hS.pt
  obtain ⟨M, hM⟩ : ∃ M, M = subs.length := ⟨_, rfl⟩
  have HM : Hid (M = subs.length) := hM
  rw [← hM] at h3 hlen
  obtain ⟨xk, xsub, tk, xst, ak⟩ := x
  simp only at h1 h3
  subst h1 h3
  obtain ⟨c0, c1, _, _, _, _, _, _, _, _, _⟩ := part_cs hS.blk hS.at_
  simp only at c0 c1
  have bl := hS.lt
  have bl1 : b < w.heap.size + 1 := by omega
  have bl2 : b < w.heap.size + 1 + 1 := by omega
  clear hS hN hM
  go_enter Tryd.func43, Tryd.ntmps43
  go_wp2_with fail
  generalize hW : World.alloc _ _ = W
  have g0 : Gr w W := by
    rw [← hW]
    exact (((Gr.refl _).alloc _).alloc _).alloc _
  have h1 : AG l (.mk 3 set subs) b i rows lo hi w (w.heap.size + 1) (w.heap.size + 1 + 1) w.heap.size W ⟨3, ⟨some ⟨sb, 0, none⟩, M, M⟩, tk, xst, ak⟩ .zero N := by
    refine ⟨by rw [set_id HAt.out]; exact HS.out.gr g0, .of_gr g0, ?_, ?_, ?_⟩
    · rw [← hW]; exact (Blk.new' _ _ _ _ (by simp)).alloc _
    · rw [← hW]; exact Blk.new' _ _ _ _ (by simp)
    · rw [← hW]; exact ((Blk.new _ _ _).alloc _).alloc _
  have HI : Hid (AG l (.mk 3 set subs) b i rows lo hi w (w.heap.size + 1) (w.heap.size + 1 + 1) w.heap.size W ⟨3, ⟨some ⟨sb, 0, none⟩, M, M⟩, tk, xst, ak⟩ .zero N) := h1
  clear hW g0 h1 c0 c1 bl bl1 bl2 HS
  go_loopw [48] (fun vi wr => ∃ (k : Nat) (o : Pl), k ≤ M ∧ vi = .int .i64 k ∧ Hid (AG l (.mk 3 set subs) b i rows lo hi w (w.heap.size + 1) (w.heap.size + 1 + 1) w.heap.size wr ⟨3, ⟨some ⟨sb, 0, none⟩, M, M⟩, tk, xst, ak⟩ o N) ∧ Hid (∀ j, o.has j = true ↔ ∃ i n t, n < k ∧ subs[n]? = some t ∧ N.has i = true ∧ Goes l t i j)) (fun vi _ => M - (intOf vi).toNat)
  case atStart =>
    refine ⟨0, .zero, Nat.zero_le _, rfl, HI, fun j => ?_⟩
    rw [Pl.has_zero]
    simp
  case round =>
    clear HI
    obtain ⟨k, o, hk, rfl, HI, HO⟩ := hrel
    by_cases hlt : k < M
    case neg =>
      obtain ⟨c0, c1, c2, c3⟩ := BlkL.cs HI.out.out
      obtain ⟨z0, z1, z2, z3⟩ := BlkL.cs HI.out.res
      have zf := HI.out.res.frozen
      have hkM : M ≤ k := by omega
      obtain ⟨qa, qb, qc, qd⟩ := o
      simp only at c0 c1 c2 c3
      go_wp2_with fail
      refine bodyPost_ret (v := plv ⟨qa, qb, qc, qd⟩) ?_ rfl ⟨⟨qa, qb, qc, qd⟩, ⟨3, ⟨some ⟨sb, 0, none⟩, M, M⟩, tk, xst, ak⟩, rfl, ?_, ?_, ?_⟩
      · simp [results, Tryd.results43]
        exact run_plv (BlkL.set4 HI.out.res qa qb qc qd)
      · intro j
        rw [HO.out j]
        constructor
        · rintro ⟨i, n, t, _, h2, h3, h4⟩
          exact ⟨i, h3, (goes_alt _ _ _ _ _).2 ⟨n, t, h2, h4⟩⟩
        · rintro ⟨i, h3, h4⟩
          obtain ⟨n, t, h5, h6⟩ := (goes_alt _ _ _ _ _).1 h4
          have := (List.getElem?_eq_some_iff.1 h5).1
          exact ⟨i, n, t, by have := HM.out; omega, h5, h3, h6⟩
      · exact HI.out.st.set4 (by have := HBl.out; omega) (by have := HTop.out; omega) (by omega) _ _ _ _ _ _ _ _
      · exact HI.out.fr.set4 (Or.inl (by omega)) _ _ _ _ _ _ _ _
    obtain ⟨s, hs⟩ : ∃ s, subs[k]? = some s := ⟨_, List.getElem?_eq_getElem (by have := HM.out; omega)⟩
    have hst := HI.out.st
    rw [set_id HAt.out] at hst
    obtain ⟨sb', R, r, a, m, e1, e2, e3, e4, e5, e6⟩ := hst.subs hs
    have e0 : sb = sb' := by
      have h := congrArg Sl.a e1
      simp at h
      exact h
    clear e1 hst
    subst e0
    have HSs : Hid (St l s wr sb k R r a m) := e5
    have HBack : Hid (∀ w' r', (3 : Int) ≠ 4 → St l s w' sb k (R.set k r') r' a m → Fr a m sb wr w' → St l (.mk 3 set subs) w' b i rows ⟨3, ⟨some ⟨sb, 0, none⟩, M, M⟩, tk, xst, ak⟩ lo hi) := e6
    have HAt2 : Hid (∀ r : Pl, (∀ j, r.has j = true ↔ ∃ i, N.has i = true ∧ Goes l s i j) → ∀ j, (o.or r).has j = true ↔ ∃ i n t, n < k + 1 ∧ subs[n]? = some t ∧ N.has i = true ∧ Goes l t i j) := fun r hr => goesA_take hs HO.out hr
    have kE := fun (W : World) h => hE k s hs W sb k R r a m N h HN.out
    have hlt2 : (k : Int) < M := by omega
    clear e5 e6 hs
    obtain ⟨c0, c1, c2, c3⟩ := BlkL.cs HI.out.out
    obtain ⟨f0, f1, f2, f3⟩ := BlkL.cs HI.out.fresh
    obtain ⟨_, d1, _, _, _, _, _, _, _, _, _⟩ := part_cs HI.out.st.blk HI.out.st.at_
    simp only at d1
    go_wp2_with fail
    go_region_with
      (first
        | (go_at_call 43; refine (kE _ (HSs.out.drewN 1)).mono ?_; rintro _ w4 ⟨r4, x4, rfl, hr4, s4, f4⟩; have HR4 : Hid (∀ j, r4.has j = true ↔ ∃ i, N.has i = true ∧ Goes l s i j) := hr4; have F4 : Hid (Fr a m sb wr w4) := (Fr.of_gr ((Gr.refl _).drewN 1)).trans f4; have I4 : Hid (AG l (.mk 3 set subs) b i rows lo hi w (w.heap.size + 1) (w.heap.size + 1 + 1) w.heap.size w4 ⟨3, ⟨some ⟨sb, 0, none⟩, M, M⟩, tk, xst, ak⟩ o N) := ⟨(by rw [set_id HAt.out]; exact HBack.out w4 x4 (by omega) s4 F4.out), HI.out.fr.trans (F4.out.wide (by omega) (by omega) (Or.inr (by omega))), Blk.fr F4.out HI.out.res (by have := HTop.out; omega) (by have := HTop.out; omega), Blk.fr F4.out HI.out.out (by have := HTop.out; omega) (by have := HTop.out; omega), Blk.fr F4.out HI.out.fresh (by have := HTop.out; omega) (by have := HTop.out; omega)⟩; clear hr4 s4 f4; obtain ⟨g0, g1, g2, g3⟩ := BlkL.cs I4.out.out)
        | (go_at_call 62; refine (kw o r4 _).mono ?_; rintro _ w5 ⟨rfl, gw⟩; have I5 : Hid (AG l (.mk 3 set subs) b i rows lo hi w (w.heap.size + 1) (w.heap.size + 1 + 1) w.heap.size w5 ⟨3, ⟨some ⟨sb, 0, none⟩, M, M⟩, tk, xst, ak⟩ o N) := I4.out.gr gw; clear gw; obtain ⟨y0, y1, y2, y3⟩ := BlkL.cs I5.out.out; have yf := I5.out.out.frozen))
    all_goals
      have I6 := I5.out.put5 HBl.out HTop.out (by omega) (by omega) (by omega) (o.or r4).a (o.or r4).b (o.or r4).c (o.or r4).d
      have HO6 : Hid (∀ j, (o.or r4).has j = true ↔ ∃ i n t, n < k + 1 ∧ subs[n]? = some t ∧ N.has i = true ∧ Goes l t i j) := HAt2.out r4 HR4.out
      generalize hW6 : World.setCell _ _ _ = W6 at I6 ⊢
      have H6 : Hid (AG l (.mk 3 set subs) b i rows lo hi w (w.heap.size + 1) (w.heap.size + 1 + 1) w.heap.size W6 ⟨3, ⟨some ⟨sb, 0, none⟩, M, M⟩, tk, xst, ak⟩ (o.or r4) N) := I6
      clear I6 hW6 c0 c1 c2 c3 d1 f0 f1 f2 f3 g0 g1 g2 g3 y0 y1 y2 y3 yf HI I4 I5 HR4 F4
      go_wp2_with fail
      go_roundw
      case rel => exact ⟨k + 1, o.or r4, by omega, by go_num, H6, HO6⟩
      case measure => simp [intOf]; omega

/-- Of any right pattern. -/
theorem ends_all {l : List Int} (hl : l.length ≤ 255) (n : Nat) : ∀ t : Tree, size t ≤ n → size t ≤ 200 → kindsT t = true → CE l t := by
  induction n with
  | zero => intro t h; have := size_pos t; omega
  | succ n ih =>
    intro t h1 h2 h3
    obtain ⟨k, set, subs⟩ := t
    rw [size_mk] at h1 h2
    rw [kindsT_mk] at h3
    simp only [Bool.and_eq_true] at h3
    have hlen := length_le_sizeL subs
    have hE : ∀ (n : Nat) (s : Tree), subs[n]? = some s → CE l s := fun m s hs => ih s (by have := size_le_of_at hs; omega) (by have := size_le_of_at hs; omega) (kindsT_of_at h3.2 hs)
    rcases okAlone_cases h3.1 with ⟨rfl, _⟩ | ⟨rfl, _⟩ | ⟨rfl, _⟩ | ⟨rfl, _, h4⟩
    · exact ends_one hl
    · exact ends_cat (by omega) hE
    · exact ends_alt (by omega) hE
    · obtain ⟨s, rfl⟩ := List.length_eq_one_iff.1 h4
      exact ends_star hl (hE 0 s rfl)

end Go.Proofs.YtjjlkjfhhpogaaaDoor
