/-
  The walk of kindOf.
-/
import Derived.Test.YtdilnelfkbeamaaKey
import Derived.Test.YtdilnelfkbeamaaW11
import Derived.Deep.WholeRow
import Derived.Deep.MidRow
import Derived.Laws.CopyOwn
namespace Go.Proofs.Ytdilnelfkbeamaa
open Go.RowKit
/-- A kind, as far as it has been asked. -/
def kAt (l : List Rg) (p : Pf) (k : Nat) : List Bool := (l.take k).map (fun x => inR x p) ++ List.replicate (64 - k) false

theorem kAt_len {l : List Rg} {p : Pf} {k : Nat} (hk : k ≤ l.length) (hl : l.length ≤ 64) : (kAt l p k).length = 64 := by
  unfold kAt
  simp
  omega

theorem kAt_succ {l : List Rg} {p : Pf} {k : Nat} {x : Rg} (hx : l[k]? = some x) (hl : l.length ≤ 64) : kAt l p (k + 1) = (kAt l p k).set k (inR x p) := by
  have hk : k < l.length := (List.getElem?_eq_some_iff.1 hx).1
  unfold kAt
  rw [take_succ_of hx, List.map_append, List.set_append_right _ _ (by simp; omega)]
  have e : k - ((l.take k).map fun x => inR x p).length = 0 := by simp; omega
  rw [e]
  obtain ⟨m, hm⟩ : ∃ m, 64 - k = m + 1 := ⟨64 - k - 1, by omega⟩
  rw [hm, List.replicate_succ, show 64 - (k + 1) = m by omega]
  simp

theorem kcells_set (bs : List Bool) (k : Nat) (b : Bool) : (kcells bs).setIfInBounds k (.bool b) = kcells (bs.set k b) := by
  unfold kcells
  rw [List.map_set]
  simp

theorem kcells_size (bs : List Bool) : (kcells bs).size = bs.length := by simp [kcells]
theorem kcells_one (bs : List Bool) : (kcells bs).all (·.oneCell') = true := by
  rw [Array.all_eq_true_iff_forall_mem]
  intro x hx
  unfold kcells at hx
  simp at hx
  rcases hx with ⟨_, rfl⟩ | ⟨_, rfl⟩ <;> rfl
theorem size65 : (Try.prog.info? 65).map (·.size) = some 64 := by kernel_rfl

/-- A whole array is loaded. -/
theorem load65 {w : World} {b : Nat} {bs : List Bool} (h : Blk w b (kcells bs) 65) (hb : bs.length = 64) : (Instr.loadAt 65 (.pointer (some ⟨b, 0, none⟩))).run Try.prog w = .ok (.agg (kcells bs)) w := by
  simp only [Instr.loadAt, Instr.sureAddr, Sem.run_bind, Sem.run_pure, Result.andThen_ok]
  exact run_loadVar_row w b 65 65 (kcells bs) (0, 0) _ h Try.underlying65 rfl (by rw [kcells_size, hb]; exact size65)
/-- A whole array is stored. -/
theorem store65 {w : World} {b : Nat} {bs cs : List Bool} (h : Blk w b (kcells cs) 65) (hb : bs.length = 64) (hc : cs.length = 64) : (Instr.storeAt 65 (.pointer (some ⟨b, 0, none⟩)) (.agg (kcells bs))).run Try.prog w = .ok () (w.setRow b (kcells bs)) := by
  simp only [Instr.storeAt, Instr.sureAddr, Sem.run_bind, Sem.run_pure, Result.andThen_ok]
  exact run_storeVar_row w b 65 65 (kcells cs) (kcells bs) h (by rw [kcells_size, hb]; exact size65) (by rw [kcells_size, kcells_size, hb, hc]) (kcells_one bs)

set_option maxRecDepth 100000 in
set_option maxHeartbeats 2000000 in
theorem kindOf_any (v : Value) (l : List Rg) (p : Pf) (w : World) (hl : l.length ≤ 64) (hp : Num p.addr) (hg : GoodG l) (hv : RowG w v l) :
    Calls Try.prog 35 #[v, pv p] w fun e w' => e = .returned (.agg (kcells (kindB l p))) ∧ Gr w w' := by
  obtain ⟨ao, cap, rfl⟩ := hv.form
  obtain ⟨N, hN⟩ : ∃ N : Nat, N = l.length := ⟨_, rfl⟩
  have HN : Hid (N = l.length) := hN
  have HV : Hid (RowG w (.slice ao N cap) l) := by rw [hN]; exact hv
  have HGd : Hid (GoodG l) := hg
  rw [← hN] at hl ⊢
  clear hv hg hN
  obtain ⟨P, n⟩ := p
  obtain ⟨K, hK⟩ : ∃ K, K = kindB l ⟨P, n⟩ := ⟨_, rfl⟩
  have HK : Hid (K = kindB l ⟨P, n⟩) := hK
  rw [← hK]
  clear hK
  go_enter Try.func35, Try.ntmps35
  go_wp2_with fail
  generalize hW : World.alloc _ _ = W
  have h5 : Blk W (w.heap.size + 1 + 1) (kcells (List.replicate 64 false)) 65 := by
    rw [← hW]
    exact Blk.new' _ _ _ _ (by simp)
  have h4 : Blk W (w.heap.size + 1) (kcells (List.replicate 64 false)) 65 := by
    rw [← hW]
    exact (Blk.new' _ _ _ _ (by simp)).alloc _
  have h3 : BlkP W w.heap.size P n := by
    rw [← hW]
    exact ((Blk.new _ _ _).alloc _).alloc _
  have hgr : Gr w W := by
    rw [← hW]
    exact (((Gr.refl _).alloc _).alloc _).alloc _
  clear hW
  have H5 : Hid (Blk W (w.heap.size + 1 + 1) (kcells (kAt l ⟨P, n⟩ 0)) 65) := h5
  have H4 : Hid (Blk W (w.heap.size + 1) (kcells (List.replicate 64 false)) 65) := h4
  have H3 : Hid (BlkP W w.heap.size P n) := h3
  have HG : Hid (Gr w W) := hgr
  clear h5 h4 h3 hgr
  go_loopw [10] (fun vi wr => ∃ k : Nat, k ≤ N ∧ vi = .int .i64 k ∧ Hid (Blk wr (w.heap.size + 1 + 1) (kcells (kAt l ⟨P, n⟩ k)) 65) ∧ Hid (Blk wr (w.heap.size + 1) (kcells (List.replicate 64 false)) 65) ∧ Hid (BlkP wr w.heap.size P n) ∧ Hid (Gr w wr)) (fun vi _ => N - (intOf vi).toNat)
  case atStart => exact ⟨0, Nat.zero_le _, rfl, H5, H4, H3, HG⟩
  case round =>
    obtain ⟨k, hk, rfl, J5, J4, J3, JG⟩ := hrel
    clear H5 H4 H3 HG
    by_cases hlt : k < N
    case neg =>
      have HE : Hid (kAt l ⟨P, n⟩ k = K) := by
        show kAt l ⟨P, n⟩ k = K
        rw [HK.out]
        unfold kAt kindB
        rw [List.take_of_length_le (by have := HN.out; omega), show k = l.length by have := HN.out; omega]
      have HKL : Hid (K.length = 64) := by show K.length = 64; rw [HK.out]; exact kindB_len (by have := HN.out; omega) _
      rw [HE.out] at J5
      have HI : Hid ((Try.prog.info? 65).map (·.size) = some (kcells K).size) := by show _ = _; rw [kcells_size, HKL.out]; exact size65
      have HZ : Hid ((kcells (List.replicate 64 false)).size = (kcells K).size) := by show _ = _; rw [kcells_size, kcells_size, HKL.out]; rfl
      have H1 : Hid ((kcells K).all (·.oneCell') = true) := kcells_one K
      clear HE HK
      generalize kcells (List.replicate 64 false) = Z at *
      go_wp2_with (first
        | (refine wpList_load_row rfl 65 _ rfl (w.heap.size + 1 + 1) rfl 65 (kcells K) (0, 0) _ J5.out Try.underlying65 rfl HI.out ?_)
        | (refine wpList_store_row rfl 65 _ _ rfl (w.heap.size + 1) (kcells K) rfl rfl 65 Z J4.out HI.out HZ.out H1.out ?_))
      have hr : Blk (wr.setRow (w.heap.size + 1) (kcells K)) (w.heap.size + 1) (kcells K) 65 := setRow_heap wr (w.heap.size + 1) Z (kcells K) 65 (0, 0) J4.out
      have hres : (loadVar 65 ⟨w.heap.size + 1, 0, none⟩).run Try.prog (wr.setRow (w.heap.size + 1) (kcells K)) = .ok (.agg (kcells K)) (wr.setRow (w.heap.size + 1) (kcells K)) := run_loadVar_row _ _ 65 65 (kcells K) (0, 0) _ hr Try.underlying65 rfl HI.out
      refine bodyPost_ret (v := .agg (kcells K)) ?_ rfl ⟨rfl, ?_⟩
      · simp [results, Try.results35, Act.put]
        exact hres
      · exact Gr.of (below_setRow JG.out.below (by omega) _) JG.out.drawn
    obtain ⟨y, hy⟩ : ∃ y, l[k]? = some y := ⟨_, List.getElem?_eq_getElem (by have := HN.out; omega)⟩
    obtain ⟨b, off, rfl, hb, d0, d1, d2, d3⟩ := (HV.out.gr JG.out).cs4 hy
    have kin := fun W => in_any y ⟨P, n⟩ (HGd.out.at hy) hp W
    have HS : Hid (kAt l ⟨P, n⟩ (k + 1) = (kAt l ⟨P, n⟩ k).set k (inR y ⟨P, n⟩)) := kAt_succ hy (by have := HN.out; omega)
    obtain ⟨bk, hbk⟩ : ∃ bk, (kAt l ⟨P, n⟩ k)[k]? = some bk := ⟨_, List.getElem?_eq_getElem (by rw [kAt_len (by have := HN.out; omega) (by have := HN.out; omega)]; omega)⟩
    have HBK : Hid ((kcells (kAt l ⟨P, n⟩ k))[k]? = some (.bool bk)) := by simp [Hid, kcells, hbk]
    clear hbk
    obtain ⟨y0, y1, y2, y3⟩ := y
    simp only at d0 d1 d2 d3
    obtain ⟨c0, c1⟩ := BlkP.cs J3.out
    have cl := J3.out.lt
    have hk64 : (k : Int) < 64 := by omega
    clear hy
    generalize inR ⟨y0, y1, y2, y3⟩ ⟨P, n⟩ = q at *
    go_wp2_with (go_at_call 13; refine (kin _).mono ?_; rintro _ w2 ⟨rfl, gw⟩; have G2 : Hid (Gr wr w2) := ((Gr.refl _).alloc _).trans gw; clear gw; have e0 := ((J5.out.gr G2.out).c k).trans HBK.out; have ef := (J5.out.gr G2.out).frozen)
    go_roundw
    case rel => exact ⟨k + 1, by omega, by go_num, by rw [HS.out, ← kcells_set]; exact (J5.out.gr G2.out).set k _, (J4.out.gr G2.out).other (by simp) _, (J3.out.gr G2.out).other (by simp; omega) _, (JG.out.trans G2.out).setCell (by simp; omega) _⟩
    case measure => simp [intOf]; omega
end Go.Proofs.Ytdilnelfkbeamaa
