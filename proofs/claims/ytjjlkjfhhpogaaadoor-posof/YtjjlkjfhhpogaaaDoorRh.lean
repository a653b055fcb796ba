/-
  The walk of having: a loop over a set's numbers.
-/
import Derived.Test.YtjjlkjfhhpogaaaDoorRn
namespace Go.Proofs.YtjjlkjfhhpogaaaDoor
open Go.RowKit Go.Shelf
attribute [local go_sem] Oper.semAt_some

theorem Gr.putObj {a w : World} (h : Gr a w) {j : Nat} (hj : a.heap.size ≤ j) (q : Obj) : Gr a (w.putObj j q) :=
  Gr.of ⟨h.below.os, h.below.tape, h.below.output, by rw [World.putObj_size]; exact h.below.size, fun g hg => (World.putObj_heap_other (by omega)).trans (h.below.block g hg)⟩ h.drawn
theorem Blk.putObj {w : World} {b : Nat} {cs : Array Value} {t : TypeId} (h : Blk w b cs t) {j : Nat} (hj : b ≠ j) (q : Obj) : Blk (w.putObj j q) b cs t := (World.putObj_heap_other hj).trans h

/-- Between two rounds of having. -/
structure HI (w wr : World) (s b : Nat) (c : Int) (o : Pl) : Prop where
  gr : Gr w wr
  me : Blk wr s #[.pointer (some ⟨b, 0, none⟩)] 117
  num : Blk wr (s + 1 + 1) #[.int .u32 c] 43
  res : BlkL wr (s + 1 + 1 + 1) .zero
  out : BlkL wr (s + 1 + 1 + 1 + 1) o

theorem HI.grow {w wr w' : World} {s b : Nat} {c : Int} {o : Pl} (h : HI w wr s b c o) (k : Gr wr w') : HI w w' s b c o := ⟨h.gr.trans k, h.me.gr k, h.num.gr k, h.res.gr k, h.out.gr k⟩
theorem HI.putObj {w wr : World} {b : Nat} {c : Int} {o : Pl} (h : HI w wr w.heap.size b c o) {j : Nat} (hj : w.heap.size + 5 ≤ j) (q : Obj) : HI w (wr.putObj j q) w.heap.size b c o :=
  ⟨h.gr.putObj (by omega) q, h.me.putObj (by omega) q, h.num.putObj (by omega) q, h.res.putObj (by omega) q, h.out.putObj (by omega) q⟩
theorem HI.put {w wr : World} {b : Nat} {c : Int} {o : Pl} (h : HI w wr w.heap.size b c o) (qa qb qc qd : BitVec 64) :
    HI w ((((wr.setCell ⟨w.heap.size + 1 + 1 + 1 + 1, 0, none⟩ (.int .u64 (u qa))).setCell ⟨w.heap.size + 1 + 1 + 1 + 1, 1, none⟩ (.int .u64 (u qb))).setCell ⟨w.heap.size + 1 + 1 + 1 + 1, 2, none⟩ (.int .u64 (u qc))).setCell ⟨w.heap.size + 1 + 1 + 1 + 1, 3, none⟩ (.int .u64 (u qd))) w.heap.size b c ⟨qa, qb, qc, qd⟩ :=
  ⟨(((h.gr.setCell (p := ⟨w.heap.size + 1 + 1 + 1 + 1, 0, none⟩) (by show _ ≤ w.heap.size + 1 + 1 + 1 + 1; omega) _).setCell (p := ⟨w.heap.size + 1 + 1 + 1 + 1, 1, none⟩) (by show _ ≤ w.heap.size + 1 + 1 + 1 + 1; omega) _).setCell (p := ⟨w.heap.size + 1 + 1 + 1 + 1, 2, none⟩) (by show _ ≤ w.heap.size + 1 + 1 + 1 + 1; omega) _).setCell (p := ⟨w.heap.size + 1 + 1 + 1 + 1, 3, none⟩) (by show _ ≤ w.heap.size + 1 + 1 + 1 + 1; omega) _,
    Blk.other4 h.me (by omega) _ _ _ _ _ _ _ _, Blk.other4 h.num (by omega) _ _ _ _ _ _ _ _, Blk.other4 h.res (by omega) _ _ _ _ _ _ _ _, BlkL.set4 h.out qa qb qc qd⟩

set_option maxRecDepth 100000 in
set_option maxHeartbeats 4000000 in
theorem having_any (w : World) (b : Nat) (sv fv fi la : Sl) (E : Bool) (ss rs : List Sl) (sets : List (List (Int × Int))) (rows : List (List Nat)) (Lf Ll : List Nat) (hb : Blk w b (pvc sv fv fi la E) 53) (hp : HP w sv fv fi la ss rs sets rows Lf Ll)
    (hm : ∀ m ∈ sets, m.length ≤ 1000) (hN : sets.length ≤ 200) (hT : Tab w) (P : Pl) (hP : ∀ n, P.has n = true → n < sets.length) (c : Int) :
    Calls Tryd.prog 60 #[.pointer (some ⟨b, 0, none⟩), plv P, .int .u32 c] w fun e w' => ∃ S : Pl, e = .returned (plv S) ∧ (∀ j, S.has j = true ↔ P.has j = true ∧ ∃ m, sets[j]? = some m ∧ inSet m c = true) ∧ Gr w w' := by
  have hsn : sv.n = ss.length := by
    obtain ⟨_, _, e⟩ := hp.so.form
    injection e
  have HB : Hid (Blk w b (pvc sv fv fi la E) 53) := hb
  have HH : Hid (HP w sv fv fi la ss rs sets rows Lf Ll) := hp
  have HP2 : Hid (∀ n, P.has n = true → n < sets.length) := hP
  have HM : Hid (∀ m ∈ sets, m.length ≤ 1000) := hm
  have HTb : Hid (Tab w) := hT
  have HSL : Hid (ss.length = sets.length) := hp.sl
  obtain ⟨sa, sn, sc⟩ := sv
  simp only at hsn
  subst hsn
  have hbl := hb.lt
  clear hb hp hP hm hT
  refine (callsIn_wide (n := 3)).1 ?_
  refine callsIn_of_wp_marks Tryd.func60 rfl trivial ?_ rfl
  simp only [Tryd.ntmps60, List.size_toArray, List.length_cons, List.length_nil, Nat.reduceAdd, Nat.reduceSub, Array.replicate_succ, Array.replicate_zero, List.push_toArray, List.append_toArray, List.nil_append, List.cons_append]
  have ka := fun W => all_any P W
  gi_wp2_with (refine ⟨trivial, ?_⟩; gi_at_call 61; refine (callsIn_wide.2 (ka _)).mono ?_; rintro _ w2 ⟨rfl, rfl⟩)
  have f0 : HI w ((((((w.alloc (.cells #[.pointer (some ⟨b, 0, none⟩)] 117)).alloc (.cells (plc P) 67)).alloc (.cells #[.int .u32 c] 43)).alloc (.cells #[.int .u64 0, .int .u64 0, .int .u64 0, .int .u64 0] 67)).alloc (.cells #[.int .u64 0, .int .u64 0, .int .u64 0, .int .u64 0] 67)).alloc (.cells (plc P) 67)) w.heap.size b c .zero :=
    ⟨((((((Gr.refl _).alloc _).alloc _).alloc _).alloc _).alloc _).alloc _, (((((Blk.new _ _ _).alloc _).alloc _).alloc _).alloc _).alloc _, (((Blk.new' _ _ _ _ (by simp)).alloc _).alloc _).alloc _, ((Blk.new' _ _ _ _ (by simp)).alloc _).alloc _, (Blk.new' _ _ _ _ (by simp)).alloc _⟩
  have hB : Blk ((((((w.alloc (.cells #[.pointer (some ⟨b, 0, none⟩)] 117)).alloc (.cells (plc P) 67)).alloc (.cells #[.int .u32 c] 43)).alloc (.cells #[.int .u64 0, .int .u64 0, .int .u64 0, .int .u64 0] 67)).alloc (.cells #[.int .u64 0, .int .u64 0, .int .u64 0, .int .u64 0] 67)).alloc (.cells (plc P) 67)) (w.heap.size + 1 + 1 + 1 + 1 + 1) (plc P) 67 := Blk.new' _ _ _ _ (by simp)
  have hsz : ((((((w.alloc (.cells #[.pointer (some ⟨b, 0, none⟩)] 117)).alloc (.cells (plc P) 67)).alloc (.cells #[.int .u32 c] 43)).alloc (.cells #[.int .u64 0, .int .u64 0, .int .u64 0, .int .u64 0] 67)).alloc (.cells #[.int .u64 0, .int .u64 0, .int .u64 0, .int .u64 0] 67)).alloc (.cells (plc P) 67)).heap.size = w.heap.size + 6 := by simp
  generalize hW0 : World.alloc _ _ = W0 at f0 hB hsz ⊢
  clear hW0
  have HF0 : Hid (HI w W0 w.heap.size b c .zero) := f0
  clear f0
  refine range_bits P hB rfl rfl (fun pre W => ∃ o : Pl, Hid (HI w W w.heap.size b c o) ∧ Hid (∀ j, o.has j = true ↔ j ∈ pre ∧ ∃ m, sets[j]? = some m ∧ inSet m c = true)) ?hT ?hIa ?hIp ⟨.zero, HF0, fun j => by rw [Pl.has_zero]; simp⟩
    (fun k => { tmps := #[.pointer (some ⟨b, 0, none⟩), plv P, .int .u32 c, .pointer (some ⟨w.heap.size, 0, none⟩), .pointer (some ⟨w.heap.size + 1, 0, none⟩), .pointer (some ⟨w.heap.size + 1 + 1, 0, none⟩), .pointer (some ⟨w.heap.size + 1 + 1 + 1, 0, none⟩), .pointer (some ⟨w.heap.size + 1 + 1 + 1 + 1, 0, none⟩), .int .i64 k, plv P, .func (.func 82) #[] #[.pointer (some ⟨w.heap.size + 1 + 1 + 1 + 1 + 1, 0, none⟩)], .int .i64 k, undef, undef, undef, undef, undef, undef, undef, undef, undef, undef, undef, undef, undef, undef], defers := [] }) ?assign ?body ?done
  case hT => rintro pre W ⟨o, HI, _⟩; exact HTb.out.gr HI.out.gr
  case hIa => rintro pre W q ⟨o, HI, HO⟩; exact ⟨o, HI.out.grow ((Gr.refl _).alloc q), HO⟩
  case hIp => rintro pre W j q hj ⟨o, HI, HO⟩; exact ⟨o, HI.out.putObj (by omega) q, HO⟩
  case assign =>
    intro l' k W K hK
    gi_wp2
    exact hK
  case body =>
    rintro l' pre k W ⟨o, HI, HO⟩ hk
    have hk2 := HP2.out k hk
    obtain ⟨m, hmk⟩ : ∃ m, sets[k]? = some m := ⟨_, List.getElem?_eq_getElem hk2⟩
    obtain ⟨s, hs⟩ : ∃ s, ss[k]? = some s := ⟨_, List.getElem?_eq_getElem (by have := HSL.out; omega)⟩
    have HMK : Hid (sets[k]? = some m) := hmk
    have hb2 := HB.out.gr HI.out.gr
    have hh2 := HH.out.gr HI.out.gr
    have b0 := hb2.c 0
    have bl := hb2.lt
    rw [show (pvc ⟨sa, ss.length, sc⟩ fv fi la E)[0]? = some (.slice sa ss.length sc) from rfl] at b0
    obtain ⟨sb, off, rfl, hsb, hc⟩ := hh2.so.at hs
    have d0 := hc 0 _ rfl
    simp only [Nat.mul_one, Nat.add_zero] at d0
    have row := hh2.se k s m hs hmk
    have kin := fun (W' : World) (g : Gr W W') => in_any _ m c W' (by have := HM.out m (List.mem_of_getElem? hmk); omega) (row.gr g)
    have ks : (k : Int) < ss.length := by have := HSL.out; omega
    obtain ⟨s1, s2, s3⟩ := s
    simp only at d0 kin
    clear hs hmk hb2 hh2 hc row
    have cm := HI.out.me.c 0
    have cn := HI.out.num.c 0
    have cml := HI.out.me.lt
    obtain ⟨q, hq⟩ : ∃ q, q = inSet m c := ⟨_, rfl⟩
    have HQ : Hid (q = inSet m c) := hq
    rw [← hq] at kin
    clear hq
    have ka := fun W => at_any k (by omega) W
    have kw := fun o q W => with_any o q W
    have mixed : Tryd.prog.follows .mixedOrders = true := by kernel_rfl
    gi_wp2
    refine wpIn_mono (Q := fun e a w4 => e = .normal ∧ a = { tmps := #[.pointer (some ⟨b, 0, none⟩), plv P, .int .u32 c, .pointer (some ⟨w.heap.size, 0, none⟩), .pointer (some ⟨w.heap.size + 1, 0, none⟩), .pointer (some ⟨w.heap.size + 1 + 1, 0, none⟩), .pointer (some ⟨w.heap.size + 1 + 1 + 1, 0, none⟩), .pointer (some ⟨w.heap.size + 1 + 1 + 1 + 1, 0, none⟩), .int .i64 k, plv P, .func (.func 82) #[] #[.pointer (some ⟨w.heap.size + 1 + 1 + 1 + 1 + 1, 0, none⟩)], .int .i64 k, .pointer (some ⟨b, 0, none⟩), .pointer (some ⟨b, 0, none⟩), .pointer (some ⟨b, 0, none⟩), .slice (some ⟨sb, off, none⟩) ss.length sc, .int .i64 k, .pointer (some ⟨sb, off + k, none⟩), .slice s1 s2 s3, .int .u32 c, .bool q, undef, undef, undef, undef, undef], defers := [] } ∧ Hid (Gr W w4)) ?_ ?_
    · gi_region_with_o (refine ⟨trivial, ?_⟩; gi_at_call 65; refine (CallsIn.inRound l' (callsIn_wide.2 (kin _ ((Gr.refl _).drewN 1)))).mono ?_; rintro _ w4 ⟨rfl, gw⟩; have G4 : Hid (Gr W w4) := ((Gr.refl _).drewN 1).trans gw; clear gw)
      all_goals exact ⟨rfl, rfl, G4⟩
    rintro _ _ w4 ⟨rfl, rfl, G4⟩
    have I4 : Hid (Go.Proofs.YtjjlkjfhhpogaaaDoor.HI w w4 w.heap.size b c o) := HI.out.grow G4.out
    obtain ⟨e0, e1, e2, e3⟩ := BlkL.cs I4.out.out
    clear cm cn cml b0 bl d0 kin
    cases q
    · gi_wp2
      refine ⟨⟨G4.out.below.size, fun j q hj hq _ => (G4.out.below.block j (Array.getElem?_eq_some_iff.1 hq).1).trans hq⟩, o, I4, fun j => (HO.out j).trans ⟨fun h => ⟨Or.inl h.1, h.2⟩, fun h => ?_⟩⟩
      obtain ⟨h1, m', h2, h3⟩ := h
      rcases h1 with h1 | h1
      · exact ⟨h1, m', h2, h3⟩
      · subst h1
        rw [HMK.out] at h2
        injection h2 with h2
        subst h2
        rw [← HQ.out] at h3
        cases h3
    · gi_wp2
      gi_region_with_o
        (first
          | (refine ⟨trivial, ?_⟩; gi_at_call 44; refine (CallsIn.inRound l' (callsIn_wide.2 (ka _))).mono ?_; rintro _ w5 ⟨rfl, gw⟩; have G5 : Hid (Gr w4 w5) := ((Gr.refl _).drewN 1).trans gw; have I5 : Hid (Go.Proofs.YtjjlkjfhhpogaaaDoor.HI w w5 w.heap.size b c o) := I4.out.grow G5.out; clear gw; obtain ⟨d0, d1, d2, d3⟩ := BlkL.cs I5.out.out)
          | (refine ⟨trivial, ?_⟩; gi_at_call 62; refine (CallsIn.inRound l' (callsIn_wide.2 (kw _ _ _))).mono ?_; rintro _ w6 ⟨rfl, gw⟩; have G6 : Hid (Gr w4 w6) := G5.out.trans gw; have I6 : Hid (Go.Proofs.YtjjlkjfhhpogaaaDoor.HI w w6 w.heap.size b c o) := I5.out.grow gw; clear gw; obtain ⟨g0, g1, g2, g3⟩ := BlkL.cs I6.out.out; have gf := I6.out.out.frozen))
      all_goals
        have I7 := I6.out.put (o.or (Pl.at k)).a (o.or (Pl.at k)).b (o.or (Pl.at k)).c (o.or (Pl.at k)).d
        gi_wp2
        refine ⟨⟨?_, fun j q hj hq _ => ?_⟩, o.or (Pl.at k), I7, fun j => ?_⟩
        · simp; exact (G4.out.trans G6.out).below.size
        · rw [Below.heap_setCell _ _ _ _ (by show j ≠ w.heap.size + 1 + 1 + 1 + 1; omega), Below.heap_setCell _ _ _ _ (by show j ≠ w.heap.size + 1 + 1 + 1 + 1; omega), Below.heap_setCell _ _ _ _ (by show j ≠ w.heap.size + 1 + 1 + 1 + 1; omega), Below.heap_setCell _ _ _ _ (by show j ≠ w.heap.size + 1 + 1 + 1 + 1; omega)]
          exact ((G4.out.trans G6.out).below.block j (Array.getElem?_eq_some_iff.1 hq).1).trans hq
        · rw [Pl.has_or, Bool.or_eq_true, HO.out j, Pl.has_at (by omega)]
          simp
          constructor
          · rintro (⟨h1, h2⟩ | rfl)
            · exact ⟨Or.inl h1, h2⟩
            · exact ⟨Or.inr rfl, m, HMK.out, HQ.out.symm⟩
          · rintro ⟨h1 | rfl, h2⟩
            · exact Or.inl ⟨h1, h2⟩
            · exact Or.inr rfl
  case done =>
    rintro D xs W hD hx hn ⟨o, HI, HO⟩ hK
    obtain ⟨c0, c1, c2, c3⟩ := BlkL.cs HI.out.out
    obtain ⟨z0, z1, z2, z3⟩ := BlkL.cs HI.out.res
    have zf := HI.out.res.frozen
    obtain ⟨oa, ob, oc, od⟩ := o
    simp only at c0 c1 c2 c3
    gi_wp2
    have hne : ∀ g : Nat, w.heap.size + 6 ≤ g → g ≠ w.heap.size + 1 + 1 + 1 := fun g hg => by omega
    have hK2 : ((((W.setCell ⟨w.heap.size + 1 + 1 + 1, 0, none⟩ (.int .u64 (u oa))).setCell ⟨w.heap.size + 1 + 1 + 1, 1, none⟩ (.int .u64 (u ob))).setCell ⟨w.heap.size + 1 + 1 + 1, 2, none⟩ (.int .u64 (u oc))).setCell ⟨w.heap.size + 1 + 1 + 1, 3, none⟩ (.int .u64 (u od))).heap[D]? = some (.deferred (some [])) := by
      rw [Below.heap_setCell _ _ _ _ (hne D (by omega)), Below.heap_setCell _ _ _ _ (hne D (by omega)), Below.heap_setCell _ _ _ _ (hne D (by omega)), Below.heap_setCell _ _ _ _ (hne D (by omega))]
      exact hK
    have G2 := (((HI.out.gr.setCell (p := ⟨w.heap.size + 1 + 1 + 1, 0, none⟩) (by show _ ≤ w.heap.size + 1 + 1 + 1; omega) (.int .u64 (u oa))).setCell (p := ⟨w.heap.size + 1 + 1 + 1, 1, none⟩) (by show _ ≤ w.heap.size + 1 + 1 + 1; omega) (.int .u64 (u ob))).setCell (p := ⟨w.heap.size + 1 + 1 + 1, 2, none⟩) (by show _ ≤ w.heap.size + 1 + 1 + 1; omega) (.int .u64 (u oc))).setCell (p := ⟨w.heap.size + 1 + 1 + 1, 3, none⟩) (by show _ ≤ w.heap.size + 1 + 1 + 1; omega) (.int .u64 (u od))
    have R2 := BlkL.set4 HI.out.res oa ob oc od
    generalize hW2 : World.setCell _ _ _ = W2 at hK2 G2 R2 ⊢
    have e2 : ∀ g, g ≠ D → (W2.putObj D (.deferred none)).heap[g]? = W2.heap[g]? := fun g hg => World.putObj_heap_other hg
    refine ⟨by simp, .inl ⟨_, _, rfl, run_takeDeferred hK2, plv ⟨oa, ob, oc, od⟩, ?_, ⟨oa, ob, oc, od⟩, rfl, fun j => ?_, G2.putObj (by omega) _⟩⟩
    · simp [results, Tryd.f60]
      exact run_plv ((e2 _ (hne D (by omega)).symm).trans R2)
    · refine (HO.out j).trans ⟨?_, ?_⟩
      · rintro ⟨h1, h2⟩; exact ⟨(hx j).1 h1, h2⟩
      · rintro ⟨h1, h2⟩; exact ⟨(hx j).2 h1, h2⟩

end Go.Proofs.YtjjlkjfhhpogaaaDoor
