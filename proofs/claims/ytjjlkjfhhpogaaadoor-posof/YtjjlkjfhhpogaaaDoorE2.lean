/-
  The walk of step.
-/
import Derived.Test.YtjjlkjfhhpogaaaDoorE1
import Derived.Test.YtjjlkjfhhpogaaaDoorRf
namespace Go.Proofs.YtjjlkjfhhpogaaaDoor
open Go.RowKit Go.Shelf
attribute [local go_sem] Oper.semAt_some

/-- The state between two rounds. -/
structure SI (l : List Int) (t : Tree) (b i : Nat) (rows : List PV) (lo hi s : Nat) (w wr : World) (x : PV) (o : Pl) : Prop where
  st : St l t wr b i (rows.set i x) x lo hi
  fr : Fr lo hi b w wr
  me : Blk wr s #[.pointer (some ⟨b, i * 11, none⟩)] 107
  res : BlkL wr (s + 1 + 1) .zero
  out : BlkL wr (s + 1 + 1 + 1) o

theorem SI.gr {l : List Int} {t : Tree} {b i : Nat} {rows : List PV} {lo hi s : Nat} {w wr w' : World} {x : PV} {o : Pl} (h : SI l t b i rows lo hi s w wr x o) (k : Gr wr w') : SI l t b i rows lo hi s w w' x o :=
  ⟨h.st.gr k, h.fr.gr k, h.me.gr k, h.res.gr k, h.out.gr k⟩
theorem SI.put {l : List Int} {t : Tree} {b i : Nat} {rows : List PV} {lo hi s : Nat} {w wr : World} {x : PV} {o : Pl} (h : SI l t b i rows lo hi s w wr x o) (hs : s = w.heap.size) (hb : b < s) (ht : hi ≤ s) (qa qb qc qd : BitVec 64) :
    SI l t b i rows lo hi s w ((((wr.setCell ⟨s + 1 + 1 + 1, 0, none⟩ (.int .u64 (u qa))).setCell ⟨s + 1 + 1 + 1, 1, none⟩ (.int .u64 (u qb))).setCell ⟨s + 1 + 1 + 1, 2, none⟩ (.int .u64 (u qc))).setCell ⟨s + 1 + 1 + 1, 3, none⟩ (.int .u64 (u qd))) x ⟨qa, qb, qc, qd⟩ :=
  ⟨h.st.set4 (by omega) (by omega) (by omega) _ _ _ _ _ _ _ _, h.fr.set4 (Or.inl (by omega)) _ _ _ _ _ _ _ _, Blk.other4 h.me (by omega) _ _ _ _ _ _ _ _, Blk.other4 h.res (by omega) _ _ _ _ _ _ _ _, BlkL.set4 h.out qa qb qc qd⟩
/-- A turn of a block of the loop's own. -/
theorem SI.putObj {l : List Int} {t : Tree} {b i : Nat} {rows : List PV} {lo hi s : Nat} {w wr : World} {x : PV} {o : Pl} (h : SI l t b i rows lo hi s w wr x o) (hs : s = w.heap.size) (hb : b < s) (ht : hi ≤ s) {j : Nat} (hj : s + 4 ≤ j) (q : Obj) :
    SI l t b i rows lo hi s w (wr.putObj j q) x o := by
  have e : ∀ g, g ≠ j → (wr.putObj j q).heap[g]? = wr.heap[g]? := fun g hg => World.putObj_heap_other hg
  refine ⟨⟨(e b (by omega)).trans h.st.blk, h.st.at_, h.st.pt.same fun g _ h2 => e g (by omega), h.st.le, by rw [World.putObj_size]; exact h.st.top, h.st.out, h.st.tab.same (e 0 (by omega)), h.st.pos, h.st.bpos⟩, ⟨h.fr.os, h.fr.tape, h.fr.output, by rw [World.putObj_size]; exact h.fr.size, h.fr.drawn, fun g h1 h2 h3 => (e g (by omega)).trans (h.fr.block g h1 h2 h3)⟩, (e s (by omega)).trans h.me, (e (s + 1 + 1) (by omega)).trans h.res, (e (s + 1 + 1 + 1) (by omega)).trans h.out⟩

set_option maxRecDepth 100000 in
set_option maxHeartbeats 4000000 in
theorem step_any {l : List Int} (hl : l.length ≤ 255) {set : List (Int × Int)} {s : Tree} (hE : CE l s) (w : World) (b i : Nat) (rows : List PV) (x : PV) (lo hi : Nat) (N : Pl) (hS : St l (.mk 4 set [s]) w b i rows x lo hi) (hN : ∀ n, N.has n = true → n ≤ l.length) :
    Calls Tryd.prog 84 #[.pointer (some ⟨b, i * 11, none⟩), plv N] w fun e w' => PostG l (.mk 4 set [s]) (fun j => ∃ n, N.has n = true ∧ Goes l s n j) b i rows lo hi w e w' := by
  have ks := fun (W : World) (R : List PV) (x : PV) (n : Nat) h hn => stepAt_any (set := set) hl hE W b i R x lo hi n h hn
  have HBl : Hid (b < w.heap.size) := hS.lt
  have HTop : Hid (hi ≤ w.heap.size) := hS.top
  have HAt : Hid (rows[i]? = some x) := hS.at_
  have HN : Hid (∀ n, N.has n = true → n ≤ l.length) := hN
  have HS : Hid (St l (.mk 4 set [s]) w b i rows x lo hi) := hS
  clear hS hE hN
  refine (callsIn_wide (n := 3)).1 ?_
  refine callsIn_of_wp_marks Tryd.func84 rfl trivial ?_ rfl
  simp only [Tryd.ntmps84, List.size_toArray, List.length_cons, List.length_nil, Nat.reduceAdd, Nat.reduceSub, Array.replicate_succ, Array.replicate_zero, List.push_toArray, List.append_toArray, List.nil_append, List.cons_append]
  have ka := fun W => all_any N W
  gi_wp2_with (refine ⟨trivial, ?_⟩; gi_at_call 61; refine (callsIn_wide.2 (ka _)).mono ?_; rintro _ w2 ⟨rfl, rfl⟩)
  have f0 : SI l (.mk 4 set [s]) b i rows lo hi w.heap.size w (((((w.alloc (.cells #[.pointer (some ⟨b, i * 11, none⟩)] 107)).alloc (.cells (plc N) 67)).alloc (.cells #[.int .u64 0, .int .u64 0, .int .u64 0, .int .u64 0] 67)).alloc (.cells #[.int .u64 0, .int .u64 0, .int .u64 0, .int .u64 0] 67)).alloc (.cells (plc N) 67)) x .zero :=
    ⟨by rw [set_id HAt.out]; exact HS.out.gr (((((Gr.refl _).alloc _).alloc _).alloc _).alloc _ |>.alloc _), .of_gr (((((Gr.refl _).alloc _).alloc _).alloc _).alloc _ |>.alloc _), ((((Blk.new _ _ _).alloc _).alloc _).alloc _).alloc _, ((Blk.new' _ _ _ _ (by simp)).alloc _).alloc _, (Blk.new' _ _ _ _ (by simp)).alloc _⟩
  have hB : Blk (((((w.alloc (.cells #[.pointer (some ⟨b, i * 11, none⟩)] 107)).alloc (.cells (plc N) 67)).alloc (.cells #[.int .u64 0, .int .u64 0, .int .u64 0, .int .u64 0] 67)).alloc (.cells #[.int .u64 0, .int .u64 0, .int .u64 0, .int .u64 0] 67)).alloc (.cells (plc N) 67)) (w.heap.size + 1 + 1 + 1 + 1) (plc N) 67 := Blk.new' _ _ _ _ (by simp)
  have hsz : (((((w.alloc (.cells #[.pointer (some ⟨b, i * 11, none⟩)] 107)).alloc (.cells (plc N) 67)).alloc (.cells #[.int .u64 0, .int .u64 0, .int .u64 0, .int .u64 0] 67)).alloc (.cells #[.int .u64 0, .int .u64 0, .int .u64 0, .int .u64 0] 67)).alloc (.cells (plc N) 67)).heap.size = w.heap.size + 5 := by simp
  generalize hW0 : World.alloc _ _ = W0 at f0 hB hsz ⊢
  clear hW0
  have HF0 : Hid (SI l (.mk 4 set [s]) b i rows lo hi w.heap.size w W0 x .zero) := f0
  clear f0 HS HAt
  have hbl := HBl.out
  have htop := HTop.out
  refine range_bits N hB rfl rfl (fun pre W => ∃ (x' : PV) (o : Pl), Hid (SI l (.mk 4 set [s]) b i rows lo hi w.heap.size w W x' o) ∧ Hid (∀ j, o.has j = true ↔ ∃ n, n ∈ pre ∧ Goes l s n j)) ?hT ?hIa ?hIp ⟨x, .zero, HF0, fun j => by rw [Pl.has_zero]; simp⟩
    (fun k => { tmps := #[.pointer (some ⟨b, i * 11, none⟩), plv N, .pointer (some ⟨w.heap.size, 0, none⟩), .pointer (some ⟨w.heap.size + 1, 0, none⟩), .pointer (some ⟨w.heap.size + 1 + 1, 0, none⟩), .pointer (some ⟨w.heap.size + 1 + 1 + 1, 0, none⟩), .int .i64 k, plv N, .func (.func 82) #[] #[.pointer (some ⟨w.heap.size + 1 + 1 + 1 + 1, 0, none⟩)], .int .i64 k, undef, undef, undef, undef, undef, undef], defers := [] }) ?assign ?body ?done
  case hT => rintro pre W ⟨x', o, HI, _⟩; exact HI.out.st.tab
  case hIa => rintro pre W q ⟨x', o, HI, HO⟩; exact ⟨x', o, HI.out.gr ((Gr.refl _).alloc q), HO⟩
  case hIp => rintro pre W j q hj ⟨x', o, HI, HO⟩; exact ⟨x', o, HI.out.putObj rfl hbl htop (by omega) q, HO⟩
  case assign =>
    intro l' k W K hK
    gi_wp2
    exact hK
  case body =>
    rintro l' pre k W ⟨x', o, HI, HO⟩ hk
    obtain ⟨c0, c1, c2, c3⟩ := BlkL.cs HI.out.out
    have cm := HI.out.me.c 0
    have cf := HI.out.out.frozen
    have kk := fun (W : World) (R : List PV) (x : PV) h => ks W R x k h (HN.out k hk)
    have kw := fun q W => with_any o q W
    have mixed : Tryd.prog.follows .mixedOrders = true := by kernel_rfl
    have HL : Hid (W.heap.size = W.heap.size) := rfl
    clear ks
    gi_wp2
    gi_region_with_o
      (first
        | (refine ⟨trivial, ?_⟩; gi_at_call 93; refine (CallsIn.inRound l' (callsIn_wide.2 (kk _ _ _ (HI.out.st.drewN 1)))).mono ?_; rintro _ w4 ⟨r4, x4, rfl, hr4, s4, f4⟩; have HR4 : Hid (∀ j, r4.has j = true ↔ Goes l s k j) := hr4; have I4 : Hid (SI l (.mk 4 set [s]) b i rows lo hi w.heap.size w w4 x4 o) := ⟨(by rw [List.set_set] at s4; exact s4), HI.out.fr.trans ((Fr.of_gr ((Gr.refl _).drewN 1)).trans f4), Blk.fr f4 HI.out.me (by omega) (by omega), Blk.fr f4 HI.out.res (by omega) (by omega), Blk.fr f4 HI.out.out (by omega) (by omega)⟩; have F4 : Hid (Fr lo hi b W w4) := (Fr.of_gr ((Gr.refl _).drewN 1)).trans f4; clear hr4 s4 f4; obtain ⟨d0, d1, d2, d3⟩ := BlkL.cs I4.out.out; have dm := I4.out.me.c 0)
        | (refine ⟨trivial, ?_⟩; gi_at_call 62; refine (CallsIn.inRound l' (callsIn_wide.2 (kw _ _))).mono ?_; rintro _ w5 ⟨rfl, gw⟩; have I5 : Hid (SI l (.mk 4 set [s]) b i rows lo hi w.heap.size w w5 x4 o) := I4.out.gr gw; have F5 : Hid (Fr lo hi b W w5) := F4.out.gr gw; clear gw; obtain ⟨e0, e1, e2, e3⟩ := BlkL.cs I5.out.out; have ef := I5.out.out.frozen))
    all_goals
      have I6 := I5.out.put rfl hbl htop (o.or r4).a (o.or r4).b (o.or r4).c (o.or r4).d
      gi_wp2
      refine ⟨⟨?_, fun j q hj hq _ => ?_⟩, x4, o.or r4, I6, fun j => ?_⟩
      · simp; exact F5.out.size
      · rw [Below.heap_setCell _ _ _ _ (by show j ≠ w.heap.size + 1 + 1 + 1; omega), Below.heap_setCell _ _ _ _ (by show j ≠ w.heap.size + 1 + 1 + 1; omega), Below.heap_setCell _ _ _ _ (by show j ≠ w.heap.size + 1 + 1 + 1; omega), Below.heap_setCell _ _ _ _ (by show j ≠ w.heap.size + 1 + 1 + 1; omega)]
        exact (F5.out.block j (Array.getElem?_eq_some_iff.1 hq).1 (by omega) (by omega)).trans hq
      · rw [Pl.has_or, Bool.or_eq_true, HO.out j, HR4.out j]
  case done =>
    rintro D xs W hD hx hn ⟨x', o, HI, HO⟩ hK
    obtain ⟨c0, c1, c2, c3⟩ := BlkL.cs HI.out.out
    obtain ⟨z0, z1, z2, z3⟩ := BlkL.cs HI.out.res
    have zf := HI.out.res.frozen
    obtain ⟨oa, ob, oc, od⟩ := o
    simp only at c0 c1 c2 c3
    gi_wp2
    have hne : ∀ g : Nat, w.heap.size + 5 ≤ g → g ≠ w.heap.size + 1 + 1 := fun g hg => by omega
    have hK2 : ((((W.setCell ⟨w.heap.size + 1 + 1, 0, none⟩ (.int .u64 (u oa))).setCell ⟨w.heap.size + 1 + 1, 1, none⟩ (.int .u64 (u ob))).setCell ⟨w.heap.size + 1 + 1, 2, none⟩ (.int .u64 (u oc))).setCell ⟨w.heap.size + 1 + 1, 3, none⟩ (.int .u64 (u od))).heap[D]? = some (.deferred (some [])) := by
      rw [Below.heap_setCell _ _ _ _ (hne D (by omega)), Below.heap_setCell _ _ _ _ (hne D (by omega)), Below.heap_setCell _ _ _ _ (hne D (by omega)), Below.heap_setCell _ _ _ _ (hne D (by omega))]
      exact hK
    have S2 := HI.out.st.set4 (g := w.heap.size + 1 + 1) (by omega) (by omega) (by omega) 0 1 2 3 (.int .u64 (u oa)) (.int .u64 (u ob)) (.int .u64 (u oc)) (.int .u64 (u od))
    have F2 := HI.out.fr.set4 (g := w.heap.size + 1 + 1) (Or.inl (by omega)) 0 1 2 3 (.int .u64 (u oa)) (.int .u64 (u ob)) (.int .u64 (u oc)) (.int .u64 (u od))
    have R2 := BlkL.set4 HI.out.res oa ob oc od
    generalize hW2 : World.setCell _ _ _ = W2 at hK2 S2 F2 R2 ⊢
    have e2 : ∀ g, g ≠ D → (W2.putObj D (.deferred none)).heap[g]? = W2.heap[g]? := fun g hg => World.putObj_heap_other hg
    refine ⟨by simp, .inl ⟨_, _, rfl, run_takeDeferred hK2, plv ⟨oa, ob, oc, od⟩, ?_, ⟨oa, ob, oc, od⟩, x', rfl, fun j => ?_, ?_, ?_⟩⟩
    · simp [results, Tryd.f84]
      exact run_plv ((e2 _ (hne D (by omega)).symm).trans R2)
    · refine (HO.out j).trans ⟨?_, ?_⟩
      · rintro ⟨n, h1, h2⟩; exact ⟨n, (hx n).1 h1, h2⟩
      · rintro ⟨n, h1, h2⟩; exact ⟨n, (hx n).2 h1, h2⟩
    · have htop2 := S2.top
      exact ⟨(e2 b (by omega)).trans S2.blk, S2.at_, S2.pt.same fun g _ h2 => e2 g (by omega), S2.le, by rw [World.putObj_size]; exact S2.top, S2.out, S2.tab.same (e2 0 (by omega)), S2.pos, S2.bpos⟩
    · exact ⟨F2.os, F2.tape, F2.output, by rw [World.putObj_size]; exact F2.size, F2.drawn, fun g h1 h2 h3 => (e2 g (by omega)).trans (F2.block g h1 h2 h3)⟩
end Go.Proofs.YtjjlkjfhhpogaaaDoor
