/-
  What the laws of layer 5 share: the table stays, whether a bool tells, what Empty answers.
-/
import Derived.Test.YtjjlkjfhhpogaaaDoorMa
import Derived.Test.YtjjlkjfhhpogaaaDoorTm
import Derived.Test.YtjjlkjfhhpogaaaDoorSm
namespace Go.Proofs.YtjjlkjfhhpogaaaDoor
open Go.RowKit

theorem Tab.bel {w w' : World} (h : Tab w) (k : Below w.heap.size w w') : Tab w' := h.same (k.block 0 h.lt)
theorem bool_of (p : Prop) : ∃ q : Bool, q = true ↔ p := by
  by_cases h : p
  · exact ⟨true, by simp [h]⟩
  · exact ⟨false, by simp [h]⟩
theorem bool_same {q q' : Bool} {p : Prop} (h : q = true ↔ p) (h' : q' = true ↔ p) : q = q' := by
  cases q <;> cases q' <;> simp_all

set_option maxHeartbeats 2000000 in
theorem empty_any (t : Tree) (x : PC) (w : World) (hok : okT t) (hx : HT w t x) (hT : Tab w) :
    Calls Tryd.prog 21 #[x.v] w fun e w' => (∃ q : Bool, e = .returned (.bool q) ∧ (q = true ↔ matchP t [])) ∧ Gr w w' := by
  have km := fun W h1 h2 => match_any t x (.slice none 0 0) [] W hok h1 (RowX.nil _ _ _) h2 (by simp)
  have HX : Hid (HT w t x) := hx
  have HTb : Hid (Tab w) := hT
  obtain ⟨xk, ⟨x1, x2, x3⟩, x4, x5, x6⟩ := x
  clear hx hT
  go_enter Tryd.func21, Tryd.ntmps21
  go_wp2_with (go_at_call 19; refine (km _ (HX.out.gr ((Gr.refl _).alloc _)) (HTb.out.gr ((Gr.refl _).alloc _))).mono ?_; rintro _ w2 ⟨⟨q, rfl, hq⟩, gw⟩; have HQ : Hid (q = true ↔ matchP t []) := hq; have G2 : Hid (Gr w w2) := ((Gr.refl _).alloc _).trans gw; clear hq gw)
  go_ret
  exact ⟨⟨q, rfl, HQ.out⟩, G2.out⟩

set_option maxHeartbeats 2000000 in
theorem nums_true (u v : Value) (l : List (Int)) (w : World) (hl : l.length ≤ 4611686018427387903) (hu : RowN w u l) (hv : RowN w v l) :
    Calls Tryd.prog 23 #[u, v] w fun e w' => e = .returned (.bool true) ∧ Gr w w' := by
  obtain ⟨ao, cap, rfl⟩ := hu.form
  obtain ⟨ao2, cap2, rfl⟩ := hv.form
  have HU : Hid (RowN w (.slice ao l.length cap) l) := hu
  have HV : Hid (RowN w (.slice ao2 l.length cap2) l) := hv
  obtain ⟨N, hN⟩ : ∃ N : Nat, N = l.length := ⟨_, rfl⟩
  have HN : Hid (N = l.length) := hN
  rw [← hN] at HU HV hl ⊢
  clear hu hv hN
  have hmx : Tryd.prog.follows .mixedOrders = true := by kernel_rfl
  go_enter Tryd.func23, Tryd.ntmps23
  go_wp2_with fail
  go_loopw [13] (fun vi wr => ∃ k : Nat, k ≤ N ∧ vi = .int .i64 k ∧ Hid (Gr w wr)) (fun vi _ => N - (intOf vi).toNat)
  case atStart => exact ⟨0, Nat.zero_le _, rfl, Gr.refl _⟩
  case round =>
    obtain ⟨k, hk, rfl, HG⟩ := hrel
    by_cases hlt : k < N
    case neg =>
      have hle : ¬ (k : Int) < N := by omega
      go_wp2_with fail
      go_ret
      exact ⟨rfl, HG.out⟩
    obtain ⟨y, hy⟩ : ∃ y, l[k]? = some y := ⟨_, List.getElem?_eq_getElem (by have := HN.out; omega)⟩
    obtain ⟨b, off, rfl, hb, d0⟩ := (HU.out.gr HG.out).cs1 hy
    obtain ⟨b2, off2, rfl, hb2, f0⟩ := (HV.out.gr HG.out).cs1 hy
    have c0 := fun n os => cell_grown (w := wr) hb d0 n os
    have e0 := fun n os => cell_grown (w := wr) hb2 f0 n os
    clear hy hb hb2 d0 f0
    have hlt2 : (k : Int) < N := by omega
    go_wp2_with fail
    refine wp_region_quiet_grownB (by assumption) (by kernel_rfl) ?_
    repeat (refine wpQuiet_stepB (fun K hK => ?_); go_simp; first | (refine hK _ ?_; clear hK K) | (apply Exists.intro; refine ⟨fun _ => ?_, hK _ ?_⟩; fail; clear hK K))
    refine wpQuiet_nilB ?_
    intro _ hw'
    obtain ⟨⟨nq, osq⟩, hw''⟩ := hw'
    subst hw''
    go_wp2_with fail
    go_roundw
    case rel => exact ⟨k + 1, by omega, by go_num, HG.out.trans ⟨_, _, rfl⟩⟩
    case measure => simp [intOf]; omega

end Go.Proofs.YtjjlkjfhhpogaaaDoor
