/-
  The walk of Kinds.
-/
import Derived.Test.YtdilnelfkbeamaaW19
import Derived.Test.YtdilnelfkbeamaaW20
namespace Go.Proofs.Ytdilnelfkbeamaa
open Go.RowKit Go.Maps

theorem Own1.lower {base base' : Nat} {w : World} {v : Value} {l : List Int} (h : Own1 base' w v l) (hb : base ≤ base') : Own1 base w v l := by
  refine ⟨h.1, ?_⟩
  rcases h.2 with h | ⟨g, cap, cur, rfl, hg, h1⟩
  · exact .inl h
  · exact .inr ⟨g, cap, cur, rfl, Nat.le_trans hb hg, h1⟩
theorem Own1.grown {base : Nat} {w w' : World} {v : Value} {l : List Int} (h : Own1 base w v l) {o : Option Nat} (hB : w.grownBy w' o) (ho : ∀ g, v.ownBlock = some g → o ≠ some g) : Own1 base w' v l := by
  refine ⟨h.1, ?_⟩
  rcases h.2 with h' | ⟨g, cap, cur, rfl, hb, hg, h1⟩
  · exact .inl h'
  · exact .inr ⟨g, cap, cur, rfl, hb, (hB.block g (Array.getElem?_eq_some_iff.1 hg).1 (fun e => ho g rfl e.symm)).trans hg, h1⟩
theorem OwnX.grown {α : Type} {f : α → List Value} {n : Nat} {t : TypeId} {base : Nat} {w w' : World} {v : Value} {l : List α} (h : OwnX f n t base w v l) {o : Option Nat} (hB : w.grownBy w' o) (ho : ∀ g, v.ownBlock = some g → o ≠ some g) : OwnX f n t base w' v l :=
  h.same fun g hg => hB.block g (h.lt hg).2 (fun e => ho g hg e.symm)

theorem owns_at {w w' : World} {R : Value → Option (DataW Unit × List MemPlace)} {b n : Nat} {D : DataW Unit} (h : w.ownsMap Try.prog 65 R b n D) (e : w'.heap[b]? = w.heap[b]?) : w'.ownsMap Try.prog 65 R b n D := by
  obtain ⟨es, clock, hb, r⟩ := h
  exact ⟨es, clock, e.trans hb, r⟩

set_option maxHeartbeats 400000 in
theorem kinds_full (v : Value) (l : List Rg) (w : World) (hl : 64 < l.length) (hv : RowG w v l) :
    Calls Try.prog 24 #[v] w fun e w' => e = .returned (.tuple #[.slice none 0 0, .int .i64 6]) ∧ w' = w := by
  obtain ⟨ao, cap, rfl⟩ := hv.form
  clear hv
  go_enter Try.func24, Try.ntmps24
  go_wp2_with fail
  exact bodyPost_ret (v := .tuple #[.slice none 0 0, .int .i64 6]) (by simp [results, Try.results24, go_sem]) rfl ⟨rfl, rfl⟩

/-- The map and the row that stand between two rounds. -/
structure KdI (w : World) (l : List Rg) (wr : World) (vo : Value) (out : List Pf) : Prop where
  own : OwnP (w.heap.size + 1) wr vo out
  map : wr.ownsMap Try.prog 65 (unitElem (H := Unit)) w.heap.size out.length (metOf l out)
  below : Below w.heap.size w wr
  size : w.heap.size + 1 ≤ wr.heap.size

theorem KdI.bel {w wr w' : World} {l : List Rg} {vo : Value} {out : List Pf} (h : KdI w l wr vo out) (k : Below wr.heap.size wr w') : KdI w l w' vo out :=
  ⟨h.own.bel k, owns_at h.map (k.block _ (by have := h.size; omega)), h.below.trans (k.mono h.below.size), Nat.le_trans h.size k.size⟩
theorem KdI.gr {w wr w' : World} {l : List Rg} {vo : Value} {out : List Pf} (h : KdI w l wr vo out) (k : Gr wr w') : KdI w l w' vo out := h.bel k.below

theorem visit_known {l : List Rg} {out : List Pf} {p : Pf} (h : (out.any fun q => alikeB l p q) = true) : visit l out p = out := by unfold visit; rw [if_pos h]
theorem visit_new {l : List Rg} {out : List Pf} {p : Pf} (h : (out.any fun q => alikeB l p q) = false) : visit l out p = out ++ [p] := by unfold visit; rw [if_neg (by rw [h]; decide)]

theorem met_step {l : List Rg} {j : Int} {T out : List Pf} {r : List Int} {t : Nat} {x : Int} (hT : ∀ q ∈ T, q.len < j) (hr : r.Pairwise (· ≤ ·)) (hx : r[t]? = some x) (h : Met l (T ++ (r.take t).map fun c => ⟨c, j⟩) out) : Met l (T ++ (r.take (t + 1)).map fun c => ⟨c, j⟩) (visit l out ⟨x, j⟩) := by
  rw [take_succ_of hx, List.map_append, ← List.append_assoc]
  refine h.visit fun q hq => ?_
  rcases List.mem_append.1 hq with hq | hq
  · exact Or.inl (hT q hq)
  · obtain ⟨c, hc, rfl⟩ := List.mem_map.1 hq
    refine Or.inr ⟨rfl, ?_⟩
    obtain ⟨i, hi⟩ := List.mem_iff_getElem?.1 hc
    rw [List.getElem?_take] at hi
    split at hi
    · obtain ⟨h1, rfl⟩ := List.getElem?_eq_some_iff.1 hi
      obtain ⟨h2, rfl⟩ := List.getElem?_eq_some_iff.1 hx
      exact List.pairwise_iff_getElem.1 hr i t h1 h2 (by assumption)
    · cases hi

set_option maxRecDepth 100000 in
set_option maxHeartbeats 8000000 in
theorem kinds_any (v : Value) (l : List Rg) (w : World) (hl : l.length ≤ 64) (hg : GoodG l) (hv : RowG w v l) :
    Calls Try.prog 24 #[v] w fun e w' => ∃ u out, e = .returned (.tuple #[u, .int .i64 0]) ∧ IsKinds l out ∧ out.length ≤ 4257 ∧ RowP w' u out ∧ Below w.heap.size w w' := by
  obtain ⟨ao, cap, rfl⟩ := hv.form
  obtain ⟨N, hN⟩ : ∃ N : Nat, N = l.length := ⟨_, rfl⟩
  have HN : Hid (N = l.length) := hN
  have HL : Hid (l.length ≤ 64) := hl
  have HV : Hid (RowG w (.slice ao N cap) l) := by rw [hN]; exact hv
  have HGd : Hid (GoodG l) := hg
  rw [← hN] at hl ⊢
  clear hv hg hN
  have hmm := @run_makeMap Try.prog
  go_enter Try.func24, Try.ntmps24
  go_wp2_with fail
  go_loopw [4, 17] (fun vo vj wr => ∃ (j : Nat) (out T : List Pf), j ≤ 33 ∧ vj = .int .i64 j ∧ Hid (Swept l j T) ∧ Hid (Met l T out) ∧ Hid (out.length ≤ 129 * j) ∧ Hid (KdI w l wr vo out)) (fun _ vj _ => 33 - (intOf vj).toNat)
  case atStart => exact ⟨0, [], [], by omega, rfl, Swept.zero l, Met.nil l, by simp [Hid], ⟨OwnX.nil _ _ _ _ _, World.ownsMap_made _ _ _ _, (Below.refl _ _).alloc (Nat.le_refl _) _, by simp⟩⟩
  case round =>
    clear hmm
    obtain ⟨j, out, T, hj, rfl, HS, HM, HLo, HK⟩ := hrel
    obtain ⟨ao4, cap4, hv4⟩ := HK.out.own.form
    obtain ⟨n4, hn4⟩ : ∃ n4, n4 = out.length := ⟨_, rfl⟩
    rw [← hn4] at hv4
    subst hv4
    clear hn4
    by_cases hlt : j < 33
    case neg =>
      have e : j = 33 := by omega
      subst e
      go_wp2_with fail
      refine bodyPost_ret (v := .tuple #[.slice ao4 n4 cap4, .int .i64 0]) (by simp [results, Try.results24, go_sem]) rfl ?_
      exact ⟨_, out, rfl, HS.out.done HM.out, HLo.out, HK.out.own.row encP_len, HK.out.below⟩
    have kc := cuts_any (.slice ao N cap) l j wr HL.out HGd.out (HV.out.bel HK.out.below)
    go_wp2_with fail
    refine kc.mono ?_
    rintro _ w1 ⟨u, r, rfl, hset, hrl, ou, bb1⟩
    have HR : Hid (RowOk l j r) := cuts_ok HGd.out (by omega) (by omega) hset
    have hr0 : r ≠ [] := by
      intro e
      have := (hset.2 0).2 List.mem_cons_self
      rw [e] at this
      simp at this
    have HK1 : Hid (KdI w l w1 (.slice ao4 n4 cap4) out) := HK.out.bel bb1
    have HSzR : Hid (w.heap.size + 1 ≤ wr.heap.size) := HK.out.size
    have HOu : Hid (Own1 wr.heap.size w1 u r) := ou
    obtain ⟨gU, cU, rfl, hgU1, hgU2, _, _, _⟩ := ou.shape hr0
    obtain ⟨m, hm⟩ : ∃ m, m = r.length := ⟨_, rfl⟩
    rw [← hm] at HOu ⊢
    have HMr : Hid (m = r.length) := hm
    have hm129 : m ≤ 129 := by omega
    have HgU : Hid (w.heap.size < gU) := by have := HK.out.size; show w.heap.size < gU; omega
    have HAp : Hid ((Value.slice ao4 n4 cap4).ownBlock ≠ some gU) := fun e => by have := (HK.out.own.lt e).2; omega
    clear kc hset hr0 ou bb1 hm hrl hgU1 hgU2 HK
    go_wp2_with fail
    go_loopw [4, 24] (fun vo vi wq => ∃ (t : Nat) (out' : List Pf), t ≤ m ∧ vi = .int .i64 t ∧ Hid (Met l (T ++ (r.take t).map fun c => ⟨c, (j : Int)⟩) out') ∧ Hid (out'.length ≤ 129 * j + t) ∧ Hid (KdI w l wq vo out') ∧ Hid (Own1 (w.heap.size + 1) wq (.slice (some ⟨gU, 0, none⟩) m cU) r) ∧ Hid (vo.ownBlock ≠ some gU)) (fun _ vi _ => m - (intOf vi).toNat)
    case atStart => exact ⟨0, out, Nat.zero_le _, rfl, by simpa using HM, HLo, HK1, HOu.out.lower HSzR.out, HAp⟩
    case round =>
      clear HK1 HOu HAp HM HLo
      obtain ⟨t, o', ht, rfl, HM, HLo, HK, HOu, HAp⟩ := hrel
      obtain ⟨ao5, cap5, hv5⟩ := HK.out.own.form
      obtain ⟨n5, hn5⟩ : ∃ n5, n5 = o'.length := ⟨_, rfl⟩
      rw [← hn5] at hv5
      subst hv5
      clear hn5
      by_cases htl : t < m
      case neg =>
        have HE : Hid (Met l (T ++ r.map fun c => ⟨c, (j : Int)⟩) o') := by
          have := HM.out
          rw [List.take_of_length_le (by have := HMr.out; omega)] at this
          exact this
        go_wp2_with fail
        go_roundw
        case rel => exact ⟨j + 1, o', _, by omega, by go_num, by have := HS.out.row HR.out; simpa [Hid] using this, HE, by have := HLo.out; show o'.length ≤ 129 * (j + 1); omega, HK⟩
        case measure => simp [intOf]; omega
      obtain ⟨x, hx⟩ : ∃ x, r[t]? = some x := ⟨_, List.getElem?_eq_getElem (by have := HMr.out; omega)⟩
      have HST : Hid (Met l (T ++ (r.take (t + 1)).map fun c => ⟨c, (j : Int)⟩) (visit l o' ⟨x, j⟩)) := met_step HS.out.below HR.out.order hx HM.out
      have hxn := (HR.out.ok x (List.mem_of_getElem? hx)).1
      obtain ⟨gU', cU', hvU, _, hgl, _, _, hcl⟩ := HOu.out.shape (ne_nil_of_lt (show t < r.length by have := HMr.out; omega))
      rw [← HMr.out] at hvU
      simp at hvU
      obtain ⟨rfl, rfl⟩ := hvU
      have cx := hcl t x hx
      have kk := kindOf_any (.slice ao N cap) l ⟨x, j⟩
      have hkey := key_of (kindB l ⟨x, j⟩) (kindB_len HL.out _)
      have hhas := met_has l o' ⟨x, j⟩ HL.out
      have HI : Hid ((Try.prog.info? 65).map (·.size) = some (kcells (kindB l ⟨x, j⟩)).size) := by show _ = _; rw [kcells_size, kindB_len HL.out]; exact size65
      have HSZ : Hid (∀ old : Array Value, old.size = 64 → old.size = (kcells (kindB l ⟨x, j⟩)).size) := fun old h => by rw [kcells_size, kindB_len HL.out, h]
      have H1 : Hid ((kcells (kindB l ⟨x, j⟩)).all (·.oneCell') = true) := kcells_one _
      have HKL : Hid (klit (kindB l ⟨x, j⟩) = klit (kindB l ⟨x, j⟩)) := rfl
      have HMS : Hid (metOf l (o' ++ [⟨x, j⟩]) = (metOf l o').put (klit (kindB l ⟨x, j⟩)) (.agg [])) := by
        show metOf l (o' ++ [⟨x, j⟩]) = (metOf l o').put (klit (kindB l ⟨x, j⟩)) (.agg [])
        unfold metOf
        rw [List.map_append, List.map_singleton, setOf_snoc]
      clear hcl hx
      go_wp2_with fail
      have hs0 := HK.out.size
      have hltp : wr.heap.size < (wr.alloc (.cells #[.int .u32 x, .int .i64 j] 25)).heap.size := by simp
      have GA : Gr wr (wr.alloc (.cells #[.int .u32 x, .int .i64 j] 25)) := (Gr.refl _).alloc _
      refine (kk _ HL.out hxn HGd.out ((HV.out.bel HK.out.below).gr GA)).mono ?_
      rintro _ w2 ⟨rfl, gw⟩
      have HK2 : Hid (KdI w l w2 (.slice ao5 n5 cap5) o') := (HK.out.gr GA).gr gw
      have HOu2 : Hid (Own1 (w.heap.size + 1) w2 (.slice (some ⟨gU, 0, none⟩) m cU) r) := (HOu.out.gr GA).gr gw
      have HP2 : Hid (BlkP w2 wr.heap.size x j) := (Blk.new _ _ _).gr gw
      have hp2 := HP2.out.lt
      have HNp : Hid ((Value.slice ao5 n5 cap5).ownBlock ≠ some wr.heap.size) := HK.out.own.notAt (Nat.le_refl _)
      have HNu : Hid (gU ≠ wr.heap.size) := by show gU ≠ wr.heap.size; omega
      have HNm : Hid (w.heap.size ≠ wr.heap.size) := by show w.heap.size ≠ wr.heap.size; omega
      have hs2 := HK2.out.size
      clear gw GA kk HK HOu HM cx hgl hltp
      generalize kindB l ⟨x, j⟩ = Kd at *
      obtain ⟨W3, hW3⟩ : ∃ W3, W3 = w2.alloc (.cells (kcells Kd) 65) := ⟨_, rfl⟩
      have HC3 : Hid (Blk W3 w2.heap.size (kcells Kd) 65) := by rw [hW3]; exact Blk.new _ _ _
      have HG3 : Hid (Gr w2 W3) := by rw [hW3]; exact (Gr.refl _).alloc _
      have HK3 : Hid (KdI w l W3 (.slice ao5 n5 cap5) o') := HK2.out.gr HG3.out
      have HW3 : Hid (w2.alloc (.cells (kcells Kd) 65) = W3) := hW3.symm
      have hs3 : w2.heap.size < W3.heap.size := HC3.out.lt
      clear hW3
      cases hsn : o'.any fun q => alikeB l ⟨x, j⟩ q with
      | true =>
        rw [hsn] at hhas
        have HE : Hid (visit l o' ⟨x, j⟩ = o') := visit_known hsn
        rw [HE.out] at HST
        clear hsn HE
        go_wp2_with (first
          | (refine wpList_store_row rfl 65 _ _ rfl w2.heap.size (kcells Kd) rfl rfl 65 _ (heap_alloc_new w2 _) HI.out (HSZ.out _ rfl) H1.out ?_; rw [World.setRow_alloc_new, HW3.out])
          | (refine wpList_load_row rfl 65 _ rfl w2.heap.size rfl 65 (kcells Kd) (0, 0) _ HC3.out Try.underlying65 rfl HI.out ?_)
          | (at_lookup; refine wpList_lookup_own_unit _ rfl _ _ 61 rfl 65 67 law65 Try.underlying61 (zero67 _) w.heap.size _ _ rfl HK3.out.map _ _ rfl hkey ?_; rw [hhas]))
        go_roundw
        case rel => exact ⟨t + 1, o', by omega, by go_num, HST, by have := HLo.out; show o'.length ≤ 129 * j + (t + 1); omega, HK3.out.gr ((Gr.refl _).alloc _), (HOu2.out.gr HG3.out).alloc _, HAp⟩
        case measure => simp [intOf]; omega
      | false =>
        rw [hsn] at hhas
        have HE : Hid (visit l o' ⟨x, j⟩ = o' ++ [⟨x, j⟩]) := visit_new hsn
        rw [HE.out] at HST
        clear hsn HE
        have HL5 : Hid (o'.length ≤ 1000000) := by have := HLo.out; show o'.length ≤ 1000000; omega
        have HLM : Hid (o'.length < maxLen) := by have := HLo.out; show o'.length < maxLen; unfold maxLen; omega
        have HK4 : Hid (KdI w l (W3.alloc (.cells #[] 67)) (.slice ao5 n5 cap5) o') := HK3.out.gr ((Gr.refl _).alloc _)
        have HOu4 : Hid (Own1 (w.heap.size + 1) (W3.alloc (.cells #[] 67)) (.slice (some ⟨gU, 0, none⟩) m cU) r) := (HOu2.out.gr HG3.out).alloc _
        have HP4 : Hid (BlkP (W3.alloc (.cells #[] 67)) wr.heap.size x j) := (HP2.out.gr HG3.out).alloc _
        have HC4 : Hid (Blk (W3.alloc (.cells #[] 67)) w2.heap.size (kcells Kd) 65) := HC3.out.alloc _
        have HMB : Hid (∀ g, (Value.slice ao5 n5 cap5).ownBlock = some g → (some w.heap.size : Option Nat) ≠ some g) := fun g hg e => by
          have := (HK4.out.own.lt hg).1
          injection e with e
          omega
        have HMU : Hid (∀ g, (Value.slice (some ⟨gU, 0, none⟩) m cU).ownBlock = some g → (some w.heap.size : Option Nat) ≠ some g) := fun g hg e => by
          have := (HOu4.out.lt hg).1
          injection e with e
          omega
        have HPM : Hid ((some w.heap.size : Option Nat) ≠ some wr.heap.size) := fun e => by injection e with e; exact HNm.out e
        have HAU : Hid (∀ g, (Value.slice (some ⟨gU, 0, none⟩) m cU).ownBlock = some g → (Value.slice ao5 n5 cap5).ownBlock ≠ some g) := fun g hg => by
          simp [Value.ownBlock] at hg
          rw [← hg]
          exact HAp.out
        go_wp2_with (first
          | (refine wpList_store_row rfl 65 _ _ rfl w2.heap.size (kcells Kd) rfl rfl 65 _ (heap_alloc_new w2 _) HI.out (HSZ.out _ rfl) H1.out ?_; rw [World.setRow_alloc_new, HW3.out])
          | (refine wpList_load_row rfl 65 _ rfl w2.heap.size rfl 65 (kcells Kd) (0, 0) _ HC3.out Try.underlying65 rfl HI.out ?_)
          | (refine wpList_load_row rfl 65 _ rfl w2.heap.size rfl 65 (kcells Kd) (0, 0) _ HC4.out Try.underlying65 rfl HI.out ?_)
          | (at_lookup; refine wpList_lookup_own_unit _ rfl _ _ 61 rfl 65 67 law65 Try.underlying61 (zero67 _) w.heap.size _ _ rfl HK3.out.map _ _ rfl hkey ?_; rw [hhas])
          | (at_mapUpdate
             refine wpList_mapUpdate_own _ rfl _ _ _ 61 rfl 65 67 law65 Try.underlying61 _ w.heap.size o'.length _ rfl HK4.out.map HLM.out _ _ _ rfl rfl hkey _ [] unitElem_mk ?_
             intro w5 hmap5 hgrow5
             have own5 : Hid (OwnP (w.heap.size + 1) w5 (.slice ao5 n5 cap5) o') := HK4.out.own.grown hgrow5 HMB.out
             have ou5 : Hid (Own1 (w.heap.size + 1) w5 (.slice (some ⟨gU, 0, none⟩) m cU) r) := HOu4.out.grown hgrow5 HMU.out
             have hp5 : Hid (BlkP w5 wr.heap.size x j) := HP4.out.grown hgrow5 HPM.out
             have hm5 : Hid (w5.ownsMap Try.prog 65 (unitElem (H := Unit)) w.heap.size (o'.length + 1) (metOf l (o' ++ [⟨x, j⟩]))) := by rw [HMS.out]; exact hmap5
             have B5 : Hid (Below w.heap.size w w5) := HK4.out.below.grown hgrow5 HK4.out.below.size (fun k hk => by cases hk; exact Nat.le_refl _)
             have S5 : Hid (w.heap.size + 1 ≤ w5.heap.size) := Nat.le_trans HK4.out.size hgrow5.size
             have q0 := (BlkP.cs hp5.out).1
             have q1 := (BlkP.cs hp5.out).2
             have ql := hp5.out.lt
             clear hgrow5 hmap5)
          | (at_builtin
             refine wp_appP rfl _ _ rfl (w.heap.size + 1) (.slice ao5 n5 cap5) o' rfl (own5.out.alloc _) ⟨x, j⟩ _ rfl (Blk.new' _ _ _ _ (by simp)) HL5.out (Nat.le_trans S5.out (by simp)) ?_
             intro g6 cap6 w6 how6 hgr6 hgg6 hlt6))
        have ho5 := S5.out
        have ou5l : gU < w5.heap.size := (ou5.out.lt (g := gU) rfl).2
        have hm6 : w6.ownsMap Try.prog 65 (unitElem (H := Unit)) w.heap.size (o'.length + 1) (metOf l (o' ++ [⟨x, j⟩])) :=
          owns_at (hm5.out.alloc _) (hgr6.block w.heap.size (by simp; omega) (fun e => HMB.out _ e.symm rfl))
        have hB6 : Below w.heap.size w w6 := (B5.out.alloc B5.out.size _).grown hgr6 (Nat.le_trans B5.out.size (by simp)) (fun k hk => by have := (own5.out.lt hk).1; omega)
        have hs6 : w.heap.size + 1 ≤ w6.heap.size := Nat.le_trans S5.out (Nat.le_trans (by simp) hgr6.size)
        have hou6 : Own1 (w.heap.size + 1) w6 (.slice (some ⟨gU, 0, none⟩) m cU) r := (ou5.out.alloc _).grown hgr6 HAU.out
        have hap6 : (Value.slice (some ⟨g6, 0, none⟩) (o'.length + 1) cap6).ownBlock ≠ some gU := by
          intro e
          simp [Value.ownBlock] at e
          subst e
          rcases hgg6 with e | e
          · exact HAp.out e
          · simp at e
            omega
        go_roundw
        case rel => exact ⟨t + 1, o' ++ [⟨x, j⟩], by omega, by go_num, HST, by have := HLo.out; show (o' ++ [(⟨x, j⟩ : Pf)]).length ≤ 129 * j + (t + 1); simp; omega, ⟨how6, by rw [List.length_append]; exact hm6, hB6, hs6⟩, hou6, hap6⟩
        case measure => simp [intOf]; omega

end Go.Proofs.Ytdilnelfkbeamaa
