/-
  Proved: PlaneLaws returns true for every three boxes, and the arguments read afterwards as they read before. No conditions.
-/
import Derived.Test.YtepioggejacfjaaL5
import Derived.Test.YtepioggejacfjaaOpen
namespace Go.Proofs.Ytepioggejacfjaa
open Go.ChangeShapes Go.WideShapes Go.ChangeAt Go.RowKit

set_option maxRecDepth 100000 in
set_option maxHeartbeats 1000000 in
theorem planeLaws_lifted (os : Os) (started : os.Started) (H : Type) (enc : TypeId × Value → H) :
    ReturnsInHanded {} Try.checked os 7 .any (Rows.planeLawsSpec.pre6 enc Try.prog Try.f7 Rows.planeLawsRow.domain false) (Rows.planeLawsSpec.post enc Try.prog Try.f7 false true false false) := by
  refine returnsInHanded_of_change_sized (C := Try.checked) own started (by kernel_rfl) Try.func7
    (ChangeSpec.witness6 (enc := enc) (C := Try.checked) false ⟨#[], #[.agg #[.int .u32 0, .int .u32 0], .agg #[.int .u32 0, .int .u32 0], .agg #[.int .u32 0, .int .u32 0]], []⟩ 8 (by kernel_rfl) (by kernel_rfl) (by kernel_rfl) (by kernel_rfl)) ?_
  intro W base args ds gs before hval0 hW _ hz0 _
  have hval : ∀ (j : Nat) t v, Try.f7.params[j]? = some t → args[j]? = some v → Value.okWide Try.prog W .any base t v := hval0
  have hz : (DataW.weightsEach Try.prog (Try.f7.params.toList ++ Rows.planeLawsSpec.plain.varTypes Try.prog) (ds ++ gs)).all (· ≤ reachBytes) = true := hz0
  have hW' := hW
  obtain ⟨p, q, hA0, hV, rfl, _, _⟩ := hW
  have hA : DataW.TrodAll enc Try.prog W 0 (fun _ => true) true Try.f7.params.toList args.toList ds p := hA0
  rw [Try.params7] at hA hval hz
  obtain ⟨v0, v1, v2, d0, d1, d2, p0, p1, p2, rfl, rfl, rfl, h0, h1, h2⟩ := trodAll_three hA
  obtain ⟨rfl, rfl⟩ := trodVars_none hV
  obtain ⟨b0, rfl, rfl, rfl, bx0, wl0, wh0⟩ := open_box (hval 0 26 v0 rfl rfl) h0
  obtain ⟨b1, rfl, rfl, rfl, bx1, wl1, wh1⟩ := open_box (hval 1 26 v1 rfl rfl) h1
  obtain ⟨b2, rfl, rfl, rfl, bx2, wl2, wh2⟩ := open_box (hval 2 26 v2 rfl rfl) h2
  clear hA0 hval0 hz0
  refine (law_laws b0 b1 b2 W bx0 bx1 bx2).mono fun e W' ⟨he, bel⟩ => ?_
  subst he
  exact ⟨_, rfl, _, _, _, [], _, [], hW', trodAll_mk1 (shut_bool Try.underlying4 _), trodAll_mk3 (shut_box wl0 wh0) (shut_box wl1 wh1) (shut_box wl2 wh2), rfl, bel.frame _, fun h => by cases h⟩

theorem planeLaws_holds : Rows.PlaneLawsSaid :=
  OpenClaim.holds_of_wide 7 Try.f7 rfl rfl rfl rfl rfl rfl rfl ⟨rfl, rfl, rfl, rfl, rfl⟩ rfl rfl rfl rfl rfl (by kernel_rfl) Try.func7 (by kernel_rfl)
    (of_decide_eq_true (by kernel_rfl)) (by unfold Func.isWrapper; first | (rw [if_pos (by decide +kernel)]; kernel_rfl) | (rw [if_neg (by decide +kernel)]; exact ⟨rfl, rfl⟩))
    (fun os started H enc _ => planeLaws_lifted os started H enc)
#print axioms planeLaws_holds
end Go.Proofs.Ytepioggejacfjaa
