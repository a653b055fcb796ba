/-
  The walk of span.Not.
-/
import Derived.Test.YthcaijcchjociaaNorm
import Derived.Test.YthcaijcchjociaaMath2
namespace Go.Proofs.Ythcaijcchjociaa
open Go.RowKit

set_option maxHeartbeats 1000000 in
theorem not_any (v : Value) (l : List Sp) (w : World) (hl : l.length ≤ 1000) (hg : Good l) (hv : Row2 w v l) :
    Calls Try.prog 19 #[v] w fun e w' => ∃ u o, e = .returned u ∧ NotRes l o ∧ o.length ≤ l.length + 1 ∧ Row2 w' u o ∧ Below w.heap.size w w' := by
  have hcall := norm_any v l w hl hg hv
  clear hv hg
  go_enter Try.func19, Try.ntmps19
  go_wp2_with (go_at_call 11; refine hcall.mono ?_; rintro e w1 ⟨u, m, rfl, hnf, hmem, hml, ⟨ao, cap, rfl, hc⟩, hB1⟩)
  have hres : ∀ o, NotRes m o → NotRes l o := fun o h => ⟨h.1, fun n h0 h1 => by rw [h.2 n h0 h1, hmem]⟩
  have HM : Hid (∀ o, NotRes m o → NotRes l o) := hres
  clear hcall hmem hres
  go_loopw [3, 4, 12] (fun out fr i wr => ∃ (k : Nat) (o : List Sp) (f : Int), k ≤ m.length ∧ i = .int .i64 k ∧ fr = .int .u32 f ∧ f ≤ 4294967295 ∧ NotInv m k o f ∧ Own2 w1.heap.size wr out o ∧ Below w1.heap.size w1 wr) (fun _ _ i _ => m.length - (intOf i).toNat)
  case atStart => exact ⟨0, [], 0, Nat.zero_le _, rfl, rfl, by omega, NotInv.start hnf, Own2.nil _ _, Below.refl _ _⟩
  case round =>
    obtain ⟨k, o, f, hk, rfl, rfl, hf, hinv, hown, hB⟩ := hrel
    have hB' := hB.size
    have hlen := hinv.len
    have hf0 := hinv.lo
    by_cases hlt : k < m.length
    · obtain ⟨b, off, rfl, hb, hcell⟩ := hc.1 (ne_nil_of_lt hlt)
      obtain ⟨x, hx⟩ : ∃ x, m[k]? = some x := ⟨_, List.getElem?_eq_getElem hlt⟩
      obtain ⟨c1, c2⟩ := hcell k x hx
      have c1' : wr.cell? ⟨b, off + k * 2, none⟩ = some (.int .u32 x.1) := (hB.cell (by exact hb)).trans c1
      have c2' : wr.cell? ⟨b, off + k * 2 + 1, none⟩ = some (.int .u32 x.2) := (hB.cell (by exact hb)).trans c2
      have hxb := hnf.1 x (List.mem_of_getElem? hx)
      have hst := hinv.step hnf hx
      clear hc hcell c1 c2 hx hinv
      by_cases hfx : f < x.1
      · rw [if_pos hfx] at hst
        by_cases hM : x.2 = 4294967295
        · rw [hM] at hst
          have hfin : NotRes m (o ++ [(f, x.1 - 1)]) := hst.full
          have HF : Hid (NotRes m (o ++ [(f, x.1 - 1)])) := hfin
          clear hst hfin
          rw [hM] at c2'
          clear hM
          go_wp2_with (first
            | (at_builtin; refine wp_app2o rfl _ _ rfl w1.heap.size _ o rfl ((hown.alloc _).alloc _) (f, x.1 - 1) (wr.heap.size + 1) rfl (by simp [go_sem]) (by simp [go_sem]) (by omega) (by simp; omega) ?_; intro g cap2 w3 how3 hB3 hg1 hg2 hoth; have q1 := (hoth wr.heap.size 1 (by simp; omega) (hown.notAt (Nat.le_refl _))).trans (by simp [go_sem] : _ = some (.int .u32 4294967295)); clear hoth)
            | (go_at_call 27; refine (next_last _).mono ?_; rintro e w4 ⟨rfl, rfl⟩))
          go_ret
          exact ⟨_, _, rfl, HM.out _ HF.out, by simp; omega, Row2.of_owns how3, hB1.trans ((((hB.alloc hB' _).alloc (by simp; omega) _).trans hB3).mono hB1.size)⟩
        · have hM' : x.2 < 4294967295 := by omega
          have HS : Hid (NotInv m (k + 1) (o ++ [(f, x.1 - 1)]) (x.2 + 1)) := hst
          clear hM hst
          go_wp2_with (first
            | (at_builtin; refine wp_app2o rfl _ _ rfl w1.heap.size _ o rfl ((hown.alloc _).alloc _) (f, x.1 - 1) (wr.heap.size + 1) rfl (by simp [go_sem]) (by simp [go_sem]) (by omega) (by simp; omega) ?_; intro g cap2 w3 how3 hB3 hg1 hg2 hoth; have q1 := (hoth wr.heap.size 1 (by simp; omega) (hown.notAt (Nat.le_refl _))).trans (by simp [go_sem] : _ = some (.int .u32 x.2)); clear hoth)
            | (go_at_call 27; refine (next_more _ (by omega) hM' _).mono ?_; rintro e w4 ⟨rfl, rfl⟩))
          go_roundw
          case rel => exact ⟨k + 1, o ++ [(f, x.1 - 1)], x.2 + 1, by omega, by go_num, rfl, by omega, HS.out, how3, ((hB.alloc hB' _).alloc (by simp; omega) _).trans hB3⟩
          case measure => simp [intOf]; omega
      · rw [if_neg hfx] at hst
        by_cases hM : x.2 = 4294967295
        · rw [hM] at hst
          have HF : Hid (NotRes m o) := hst.full
          clear hst
          rw [hM] at c2'
          clear hM
          go_wp2_with (go_at_call 27; refine (next_last _).mono ?_; rintro e w4 ⟨rfl, rfl⟩)
          go_ret
          exact ⟨_, _, rfl, HM.out _ HF.out, by omega, Row2.of_owns (hown.alloc _), hB1.trans ((hB.alloc hB' _).mono hB1.size)⟩
        · have hM' : x.2 < 4294967295 := by omega
          have HS : Hid (NotInv m (k + 1) o (x.2 + 1)) := hst
          clear hM hst
          go_wp2_with (go_at_call 27; refine (next_more _ (by omega) hM' _).mono ?_; rintro e w4 ⟨rfl, rfl⟩)
          go_roundw
          case rel => exact ⟨k + 1, o, x.2 + 1, by omega, by go_num, rfl, by omega, HS.out, hown.alloc _, hB.alloc hB' _⟩
          case measure => simp [intOf]; omega
    · have hkm : k = m.length := by omega
      subst hkm
      have HF : Hid (NotRes m (o ++ [(f, 4294967295)])) := hinv.last hf
      clear hc hinv
      go_wp2_with (at_builtin; refine wp_app2 rfl _ _ rfl w1.heap.size _ o rfl (hown.alloc _) (f, 4294967295) wr.heap.size rfl (by simp [go_sem]) (by simp [go_sem]) (by omega) (by simp; omega) ?_; intro g cap2 w3 how3 hB3 hg1 hg2)
      go_ret
      exact ⟨_, _, rfl, HM.out _ HF.out, by simp; omega, Row2.of_owns how3, hB1.trans (((hB.alloc hB' _).trans hB3).mono hB1.size)⟩
end Go.Proofs.Ythcaijcchjociaa
