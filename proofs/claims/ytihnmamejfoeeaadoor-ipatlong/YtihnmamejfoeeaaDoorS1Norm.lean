/-
  The walk of span.Norm: the one form of the set.
-/
import Derived.Test.YtihnmamejfoeeaaDoorS1Rise
import Derived.Shelf.SlSortCmp.QuietGrown
import Derived.RegionTactic
import Derived.BigRegion
namespace Go.Proofs.YtihnmamejfoeeaaDoorS1
open Go.RowKit
open Go.Sort (grow alloc_eq_grow grow_grow cell?_grow)

theorem Risen.le {l m : List Sp} (h : Risen l m) {i j : Nat} {x y : Sp} (hij : i < j) (hx : m[i]? = some x) (hy : m[j]? = some y) : x.1 ≤ y.1 := by
  obtain ⟨hi, rfl⟩ := List.getElem?_eq_some_iff.1 hx
  obtain ⟨hj, rfl⟩ := List.getElem?_eq_some_iff.1 hy
  exact List.pairwise_iff_getElem.1 h.2.1 i j hi hj hij

/-- The invariant of Norm's loop, behind k spans. -/
structure NormInv (m : List Sp) (k : Nat) (o : List Sp) : Prop where
  nf : NF o
  mem : ∀ n, inS o n = inS (m.take k) n
  le : ∀ x ∈ o, ∀ j y, k ≤ j → m[j]? = some y → x.1 ≤ y.1
  len : o.length ≤ k

theorem NormInv.start (m : List Sp) : NormInv m 0 [] := ⟨NF_nil, fun _ => rfl, by simp, Nat.le_refl _⟩

theorem NormInv.push {l m : List Sp} {k : Nat} {o : List Sp} {s : Sp} (h : NormInv m k o) (hr : Risen l m) (hs : m[k]? = some s) (hf : ∀ x ∈ o, x.2 + 2 ≤ s.1) : NormInv m (k + 1) (o ++ [s]) where
  nf := h.nf.push (hr.1 s (List.mem_of_getElem? hs)) hf
  mem n := by rw [take_succ_of hs, inS_append, inS_append, h.mem]
  le x hx j y hj hy := by
    rcases mem_snoc.1 hx with hx | rfl
    · exact h.le x hx j y (by omega) hy
    · exact hr.le hj hs hy
  len := by have := h.len; simp; omega

theorem NormInv.merge {l m : List Sp} {k : Nat} {init : List Sp} {t s : Sp} (h : NormInv m k (init ++ [t])) (hr : Risen l m) (hs : m[k]? = some s) (hf : s.1 ≤ t.2 + 1) : NormInv m (k + 1) (init ++ [(t.1, max t.2 s.2)]) where
  nf := h.nf.merge (hr.1 s (List.mem_of_getElem? hs)) (h.le t (by simp) k s (Nat.le_refl _) hs)
  mem n := by
    rw [in_merge (h.le t (by simp) k s (Nat.le_refl _) hs) hf, take_succ_of hs, inS_append, h.mem, inS_append]
  le x hx j y hj hy := by
    rcases mem_snoc.1 hx with hx | rfl
    · exact h.le x (by simp [hx]) j y (by omega) hy
    · exact h.le t (by simp) j y (by omega) hy
  len := by have := h.len; simp at *; omega

theorem calls_grown1 {f : FuncId} {args : Array Value} {W : World} {v : Value} (h : Calls Tryd.prog f args W fun e w' => e = .returned v ∧ ∃ c1 : Array Value, w' = W.alloc (.cells c1 39)) :
    Calls Tryd.prog f args W fun e w' => e = .returned v ∧ ∃ q os', w' = grow (W.drewN q) os' :=
  h.mono fun _ _ ⟨he, c, hw⟩ => ⟨he, 0, #[.cells c 39], by rw [hw, alloc_eq_grow]; rfl⟩


theorem Own2.grow {base : Nat} {w : World} {v : Value} {l : List Sp} (h : Own2 base w v l) (n : Nat) (os : Array Obj) : Own2 base (Sort.grow (w.drewN n) os) v l := by
  refine ⟨h.1, ?_⟩
  rcases h.2 with h0 | ⟨g, cap, cur, hv, hb, hg, hn, hm, hs, ht⟩
  · exact .inl h0
  · refine .inr ⟨g, cap, cur, hv, hb, ?_, hn, hm, hs, ht⟩
    have hlt := (Array.getElem?_eq_some_iff.1 hg).1
    show (w.heap ++ os)[g]? = _
    rw [Array.getElem?_append_left hlt]
    exact hg
theorem below_grow {B : Nat} {a w : World} (h : Below B a w) (hs : B ≤ w.heap.size) (n : Nat) (os : Array Obj) : Below B a (Sort.grow (w.drewN n) os) :=
  ⟨h.os, h.tape, h.output, by have := h.size; simp; exact Nat.le_trans this (Nat.le_add_right _ _), fun k hk => by
    show (w.heap ++ os)[k]? = _
    rw [Array.getElem?_append_left (by omega)]
    exact h.block k hk⟩
theorem frozen?_grow' {w : World} {n : Nat} {os : Array Obj} {a : Addr} (h : a.block < w.heap.size) : (Sort.grow (w.drewN n) os).frozen? a = w.frozen? a :=
  World.frozen?_of_block (w := w) (by show (w.heap ++ os)[a.block]? = _; rw [Array.getElem?_append_left h])

theorem Own2.lower {base base' : Nat} {w : World} {v : Value} {l : List Sp} (h : Own2 base w v l) (hb : base' ≤ base) : Own2 base' w v l := by
  refine ⟨h.1, ?_⟩
  rcases h.2 with h0 | ⟨g, cap, cur, hv, hbg, hg, hn, hm, hs, ht⟩
  · exact .inl h0
  · exact .inr ⟨g, cap, cur, hv, Nat.le_trans hb hbg, hg, hn, hm, hs, ht⟩

set_option maxHeartbeats 1000000 in
theorem norm_own (v : Value) (l : List Sp) (w : World) (hl : l.length ≤ 1000) (hg : Good l) (hv : Row2 w v l) :
    Calls Tryd.prog 23 #[v] w fun e w' => ∃ u m, e = .returned u ∧ NF m ∧ (∀ n, inS m n = inS l n) ∧ m.length ≤ l.length ∧ Own2 w.heap.size w' u m ∧ Below w.heap.size w w' := by
  have hm : Tryd.prog.follows .mixedOrders = true := by kernel_rfl
  have hcall := rising_any v l w hl hg hv
  clear hv hg
  go_enter Tryd.func23, Tryd.ntmps23
  go_wp2_with (go_at_call 41; refine hcall.mono ?_; rintro e w1 ⟨u, m, rfl, hris, ⟨ao, cap, rfl, hc⟩, hB1⟩)
  go_loopw [3, 10] (fun out i wr => ∃ (k : Nat) (o : List Sp), k ≤ m.length ∧ i = .int .i64 k ∧ NormInv m k o ∧ Own2 w1.heap.size wr out o ∧ Below w1.heap.size w1 wr) (fun _ i _ => m.length - (intOf i).toNat)
  case atStart => exact ⟨0, [], Nat.zero_le _, rfl, NormInv.start m, Own2.nil _ _, Below.refl _ _⟩
  case round =>
    obtain ⟨k, o, hk, rfl, hinv, hown, hB⟩ := hrel
    have hB' := hB.size
    have hlen := hinv.len
    have hml := hris.2.2.2
    by_cases hlt : k < m.length
    · obtain ⟨b, off, rfl, hb, hcell⟩ := hc.1 (ne_nil_of_lt hlt)
      obtain ⟨x, hx⟩ : ∃ x, m[k]? = some x := ⟨_, List.getElem?_eq_getElem hlt⟩
      obtain ⟨c1, c2⟩ := hcell k x hx
      have c1' : wr.cell? ⟨b, off + k * 2, none⟩ = some (.int .u32 x.1) := (hB.cell (by exact hb)).trans c1
      have c2' : wr.cell? ⟨b, off + k * 2 + 1, none⟩ = some (.int .u32 x.2) := (hB.cell (by exact hb)).trans c2
      have hxb := hris.1 x (List.mem_of_getElem? hx)
      have HX : Hid (m[k]? = some x) := hx
      clear hc hcell c1 c2 hx
      rcases List.eq_nil_or_concat o with rfl | ⟨init, t, rfl⟩
      · obtain ⟨ao2, cap2, rfl⟩ := hown.form
        go_wp2_with fail
        go_quiet (fail)
        go_wp2_with (at_builtin; refine wp_app2 rfl _ _ rfl w1.heap.size _ [] rfl (((hown.alloc _).drewN _).alloc _) x (wr.heap.size + 1) rfl (by simp [go_sem]) (by simp [go_sem]) (by simp) (by simp; omega) ?_; intro g cap2 w3 how3 hB3 hg1 hg2)
        go_roundw
        case rel => exact ⟨k + 1, [] ++ [x], by omega, by go_num, hinv.push hris HX.out (by simp), how3, ((below_drewN (hB.alloc hB' _) _).alloc (by simp; omega) _).trans hB3⟩
        case measure => simp [intOf]; omega
      · rw [List.concat_eq_append] at *
        obtain ⟨g, cap2, rfl, hg1, hg2, hcap, hfr, hcl⟩ := hown.shape (by simp)
        have hn : (init ++ [t]).length = init.length + 1 := by simp
        rw [hn] at hown hlen hcap
        rw [hn]
        have hlast : (init ++ [t])[init.length]? = some t := by simp
        obtain ⟨t1, t2⟩ := hcl init.length t hlast
        have hnft := hinv.nf.last.1
        have hrl := hinv.nf.last.2
        have ownW := hown.alloc (.cells #[.int .u32 x.1, .int .u32 x.2] 39)
        have BW := hB.alloc hB' (.cells #[.int .u32 x.1, .int .u32 x.2] 39)
        have cx0 : (wr.alloc (.cells #[.int .u32 x.1, .int .u32 x.2] 39)).cell? ⟨wr.heap.size, 0, none⟩ = some (.int .u32 x.1) := by simp [go_sem]
        have cx1 : (wr.alloc (.cells #[.int .u32 x.1, .int .u32 x.2] 39)).cell? ⟨wr.heap.size, 1, none⟩ = some (.int .u32 x.2) := by simp [go_sem]
        have ct0 : (wr.alloc (.cells #[.int .u32 x.1, .int .u32 x.2] 39)).cell? ⟨g, init.length * 2, none⟩ = some (.int .u32 t.1) := by rw [World.cell?_alloc_past _ _ _ (by exact hg2)]; exact t1
        have ct1 : (wr.alloc (.cells #[.int .u32 x.1, .int .u32 x.2] 39)).cell? ⟨g, init.length * 2 + 1, none⟩ = some (.int .u32 t.2) := by rw [World.cell?_alloc_past _ _ _ (by exact hg2)]; exact t2
        have fz : (wr.alloc (.cells #[.int .u32 x.1, .int .u32 x.2] 39)).frozen? ⟨g, init.length * 2 + 1, none⟩ = false := by rw [World.frozen?_alloc_past _ _ _ (by exact hg2)]; exact hfr _
        have sW : (wr.alloc (.cells #[.int .u32 x.1, .int .u32 x.2] 39)).heap.size = wr.heap.size + 1 := by simp
        have HN : Hid (NormInv m k (init ++ [t])) := hinv
        clear hn hfr hcl hlast hinv t1 t2
        by_cases hre : x.1 ≤ t.2 + 1
        · have hcon := fun W => calls_grown1 (reaches_any t.1 t.2 x.1 (by omega) (by omega) (by omega) W)
          have e1 : decide (x.1 ≤ t.2 + 1) = true := by simpa using hre
          rw [e1] at hcon
          go_wp2_with fail
          generalize wr.alloc (.cells #[.int .u32 x.1, .int .u32 x.2] 39) = W at *
          have f0 := fun n os => cell_grown (w := W) (a := ⟨g, init.length * 2, none⟩) (by rw [sW]; simp; omega) ct0 n os
          have f1 := fun n os => cell_grown (w := W) (a := ⟨g, init.length * 2 + 1, none⟩) (by rw [sW]; simp; omega) ct1 n os
          have f2 := fun n os => cell_grown (w := W) (a := ⟨wr.heap.size, 0, none⟩) (by rw [sW]; simp) cx0 n os
          have f3 := fun n os => cell_grown (w := W) (a := ⟨wr.heap.size, 1, none⟩) (by rw [sW]; simp) cx1 n os
          have hlt1 : (init.length : Int) < (init.length : Int) + 1 := by omega
          clear e1
          go_quiet_grown (first | (go_at_call 42; refine Calls.grown_of (hcon _)))
          go_wp2_with fail
          have ownV := ownW.grow nq osq
          have BV := below_grow BW (by omega) nq osq
          have fzV : (grow (W.drewN nq) osq).frozen? ⟨g, init.length * 2 + 1, none⟩ = false := (frozen?_grow' (by rw [sW]; simp; omega)).trans fz
          have sV : wr.heap.size + 1 ≤ (grow (W.drewN nq) osq).heap.size := by simp; omega
          have g1 := f1 nq osq
          have g3 := f3 nq osq
          clear f0 f1 f2 f3 hcon
          generalize grow (W.drewN nq) osq = V at *
          go_region
          go_wp2_with fail
          go_roundw
          case rel => exact ⟨k + 1, init ++ [(t.1, max t.2 x.2)], by omega, by go_num, HN.out.merge hris HX.out hre, (ownV.setHi (max t.2 x.2)).drewN 1, (BV.setCell (p := ⟨g, init.length * 2 + 1, none⟩) (by simp; omega) _).drew⟩
          case measure => simp [intOf]; omega
        · have hcon := fun W => calls_grown1 (reaches_any t.1 t.2 x.1 (by omega) (by omega) (by omega) W)
          have e1 : decide (x.1 ≤ t.2 + 1) = false := by simpa using hre
          rw [e1] at hcon
          go_wp2_with fail
          generalize wr.alloc (.cells #[.int .u32 x.1, .int .u32 x.2] 39) = W at *
          have f0 := fun n os => cell_grown (w := W) (a := ⟨g, init.length * 2, none⟩) (by rw [sW]; simp; omega) ct0 n os
          have f1 := fun n os => cell_grown (w := W) (a := ⟨g, init.length * 2 + 1, none⟩) (by rw [sW]; simp; omega) ct1 n os
          have f2 := fun n os => cell_grown (w := W) (a := ⟨wr.heap.size, 0, none⟩) (by rw [sW]; simp) cx0 n os
          have f3 := fun n os => cell_grown (w := W) (a := ⟨wr.heap.size, 1, none⟩) (by rw [sW]; simp) cx1 n os
          have hlt1 : (init.length : Int) < (init.length : Int) + 1 := by omega
          clear e1
          go_quiet_grown (first | (go_at_call 42; refine Calls.grown_of (hcon _)))
          have ownV := ownW.grow nq osq
          have BV := below_grow BW (by omega) nq osq
          have sV : wr.heap.size + 1 ≤ (grow (W.drewN nq) osq).heap.size := by simp; omega
          have g2 := f2 nq osq
          have g3 := f3 nq osq
          clear f0 f1 f2 f3 hcon
          generalize grow (W.drewN nq) osq = V at *
          go_wp2_with (at_builtin; refine wp_app2 rfl _ _ rfl w1.heap.size _ (init ++ [t]) rfl (ownV.alloc _) x V.heap.size rfl (by simp [go_sem]) (by simp [go_sem]) (by simp; omega) (by simp; omega) ?_; intro g4 cap4 w4 how4 hB4 hg41 hg42)
          go_roundw
          case rel => exact ⟨k + 1, (init ++ [t]) ++ [x], by omega, by go_num, HN.out.push hris HX.out (fun y hy => by rcases mem_snoc.1 hy with hy | rfl; (have := hrl y hy; omega); omega), (by rw [List.length_append] at how4; exact how4), (BV.alloc (by omega) _).trans hB4⟩
          case measure => simp [intOf]; omega
    · have hkm : k = m.length := by omega
      subst hkm
      have hmem := hinv.mem
      rw [List.take_length] at hmem
      have hfin := hown.lower hB1.size
      have HM : Hid (∀ n, inS o n = inS m n) := hmem
      clear hmem hc
      go_wp2_with fail
      go_ret
      exact ⟨_, o, rfl, hinv.nf, fun n => (HM.out n).trans (hris.2.2.1 n), by omega, hfin, hB1.trans (hB.mono hB1.size)⟩

theorem norm_any (v : Value) (l : List Sp) (w : World) (hl : l.length ≤ 1000) (hg : Good l) (hv : Row2 w v l) :
    Calls Tryd.prog 23 #[v] w fun e w' => ∃ u m, e = .returned u ∧ NF m ∧ (∀ n, inS m n = inS l n) ∧ m.length ≤ l.length ∧ Row2 w' u m ∧ Below w.heap.size w w' :=
  (norm_own v l w hl hg hv).mono fun _ _ ⟨u, m, he, h1, h2, h3, h4, h5⟩ => ⟨u, m, he, h1, h2, h3, Row2.of_owns h4, h5⟩

end Go.Proofs.YtihnmamejfoeeaaDoorS1
