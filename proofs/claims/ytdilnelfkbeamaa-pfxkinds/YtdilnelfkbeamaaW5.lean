/-
  Walks of the two Ins, and of the document's cut.
-/
import Derived.Test.YtdilnelfkbeamaaBx
namespace Go.Proofs.Ytdilnelfkbeamaa
open Go.RowKit

set_option maxHeartbeats 2000000 in
theorem in_any (x : Rg) (p : Pf) (hx : Num x.addr) (hp : Num p.addr) (w : World) :
    Calls Try.prog 13 #[gv x, pv p] w fun e' w' => e' = .returned (.bool (inR x p)) ∧ Gr w w' := by
  obtain ⟨a, l, g, e⟩ := x
  obtain ⟨P, n⟩ := p
  simp only at hx hp
  have k1 := fun W => hasLength_any a l g e n hx W
  have k2 := fun W => right_any P n hp W
  have k3 := fun W => firstBits_any P n l hp W
  have HR : Hid (inR ⟨a, l, g, e⟩ ⟨P, n⟩ = (hasLen ⟨a, l, g, e⟩ n && (rightP P n && decide (maskA P l = a)))) := rfl
  have HL : Hid (hasLen ⟨a, l, g, e⟩ n = true → clampL l = l) := fun h => (rightP_iff.1 (rightR_iff.1 (hasLen_iff.1 h).1).1).2
  have hmx : Try.prog.follows .mixedOrders = true := by kernel_rfl
  obtain ⟨W, hW⟩ : ∃ W, W = (w.alloc (.cells #[.int .u32 a, .int .i64 l, .int .i64 g, .int .i64 e] 28)).alloc (.cells #[.int .u32 P, .int .i64 n] 25) := ⟨_, rfl⟩
  have HB : Hid (BlkG W w.heap.size a l g e) := by rw [hW]; exact (Blk.new _ _ _).alloc _
  have HB2 : Hid (BlkP W (w.heap.size + 1) P n) := by rw [hW]; exact Blk.new' _ _ _ _ (by simp)
  have HW : Hid (Gr w W) := by rw [hW]; exact ((Gr.refl _).alloc _).alloc _
  have c0 := fun n os => (BlkG.cs (HB.out.grow n os)).1
  have c1 := fun n os => (BlkG.cs (HB.out.grow n os)).2.1
  have c2 := fun n os => (BlkG.cs (HB.out.grow n os)).2.2.1
  have c3 := fun n os => (BlkG.cs (HB.out.grow n os)).2.2.2
  have d0 := fun n os => (BlkP.cs (HB2.out.grow n os)).1
  have d1 := fun n os => (BlkP.cs (HB2.out.grow n os)).2
  generalize inR ⟨a, l, g, e⟩ ⟨P, n⟩ = r at *
  generalize hasLen ⟨a, l, g, e⟩ n = q at *
  generalize rightP P n = q2 at *
  have hq : ∀ W, (binOp .eql 25 (.agg #[.int .u32 (maskA P l), .int .i64 (clampL l)]) (.agg #[.int .u32 a, .int .i64 l])).run Try.prog W = .ok (.bool (decide (maskA P l = a) && decide (clampL l = l))) W := fun W => by
    rw [eql25]
    congr 1
  generalize maskA P l = z at *
  generalize clampL l = c at *
  clear HB HB2
  go_enter Try.func13, Try.ntmps13
  go_wp2_with fail
  rw [← hW]
  clear hW
  cases q
  case false =>
    refine wp_region_quiet_grownB (by assumption) (by kernel_rfl) ?_
    repeat (refine wpQuiet_stepB (fun K hK => ?_); go_simp; first | (refine hK _ ?_; clear hK K) | (apply Exists.intro; refine ⟨fun _ => ?_, hK _ ?_⟩; (first | (go_at_call 29; with_reducible refine Calls.grown_of (k1 _)) | (go_at_call 28; with_reducible refine Calls.grown_of (k2 _)) | (go_at_call 30; with_reducible refine Calls.grown_of (k3 _))); clear hK K))
    refine wpQuiet_nilB ?_
    intro _ hw'
    obtain ⟨⟨nq, osq⟩, hw''⟩ := hw'
    subst hw''
    go_wp2_with fail
    go_ret
    exact ⟨by rw [HR.out]; rfl, HW.out.trans ⟨_, _, rfl⟩⟩
  cases q2
  case false =>
    refine wp_region_quiet_grownB (by assumption) (by kernel_rfl) ?_
    repeat (refine wpQuiet_stepB (fun K hK => ?_); go_simp; first | (refine hK _ ?_; clear hK K) | (apply Exists.intro; refine ⟨fun _ => ?_, hK _ ?_⟩; (first | (go_at_call 29; with_reducible refine Calls.grown_of (k1 _)) | (go_at_call 28; with_reducible refine Calls.grown_of (k2 _)) | (go_at_call 30; with_reducible refine Calls.grown_of (k3 _))); clear hK K))
    refine wpQuiet_nilB ?_
    intro _ hw'
    obtain ⟨⟨nq, osq⟩, hw''⟩ := hw'
    subst hw''
    go_wp2_with fail
    go_ret
    exact ⟨by rw [HR.out]; rfl, HW.out.trans ⟨_, _, rfl⟩⟩
  refine wp_region_quiet_grownB (by assumption) (by kernel_rfl) ?_
  repeat (refine wpQuiet_stepB (fun K hK => ?_); go_simp; first | (refine hK _ ?_; clear hK K) | (apply Exists.intro; refine ⟨fun _ => ?_, hK _ ?_⟩; (first | (go_at_call 29; with_reducible refine Calls.grown_of (k1 _)) | (go_at_call 28; with_reducible refine Calls.grown_of (k2 _)) | (go_at_call 30; with_reducible refine Calls.grown_of (k3 _))); clear hK K))
  refine wpQuiet_nilB ?_
  intro _ hw'
  obtain ⟨⟨nq, osq⟩, hw''⟩ := hw'
  subst hw''
  go_wp2_with fail
  go_ret
  exact ⟨by rw [HR.out]; simp [HL.out trivial], HW.out.trans ⟨_, _, rfl⟩⟩

theorem field25 (z c : Int) (w : World) : (Instr.field 25 (.agg #[.int .u32 z, .int .i64 c]) 0).run Try.prog w = .ok (.int .u32 z) w := by
  unfold Instr.field
  simp [go_sem]
  rfl

set_option maxHeartbeats 1000000 in
theorem cut_any (a n : Int) (ha : Num a) (w : World) :
    Calls Try.prog 31 #[.int .u32 a, .int .i64 n] w fun e' w' => e' = .returned (.int .u32 (maskA a n)) ∧ Gr w w' := by
  have k1 := fun W => rmask_any a n ha W
  generalize maskA a n = z at *
  generalize clampL n = c at *
  have hf := fun W => field25 z c W
  go_enter Try.func31, Try.ntmps31
  go_wp2_with (go_at_call 38; refine (k1 _).mono ?_; rintro e1 w1 ⟨rfl, hg⟩; have HG : Hid (Gr w w1) := hg; clear hg)
  go_ret
  exact ⟨rfl, HG.out⟩

set_option maxHeartbeats 4000000 in
theorem rin_any (x : Rg) (p : Pf) (hx : Num x.addr) (hp : Num p.addr) (w : World) :
    Calls Try.prog 14 #[gv x, pv p] w fun e' w' => e' = .returned (.bool (inR x p)) ∧ Gr w w' := by
  obtain ⟨a, l, g, e⟩ := x
  obtain ⟨P, n⟩ := p
  simp only at hx hp
  have k1 := fun W => rrightR_any a l g e hx W
  have k2 := fun W => rright_any P n hp W
  have k3 := fun W => cut_any P l hp W
  have HR : Hid (inR ⟨a, l, g, e⟩ ⟨P, n⟩ = (rightR ⟨a, l, g, e⟩ && (rightP P n && (decide (g ≤ n) && (decide (n ≤ e) && decide (maskA P l = a)))))) := by
    unfold Hid inR hasLen
    cases rightR ⟨a, l, g, e⟩ <;> cases rightP P n <;> simp [Bool.and_assoc]
  have hmx : Try.prog.follows .mixedOrders = true := by kernel_rfl
  obtain ⟨W, hW⟩ : ∃ W, W = (w.alloc (.cells #[.int .u32 a, .int .i64 l, .int .i64 g, .int .i64 e] 28)).alloc (.cells #[.int .u32 P, .int .i64 n] 25) := ⟨_, rfl⟩
  have HB : Hid (BlkG W w.heap.size a l g e) := by rw [hW]; exact (Blk.new _ _ _).alloc _
  have HB2 : Hid (BlkP W (w.heap.size + 1) P n) := by rw [hW]; exact Blk.new' _ _ _ _ (by simp)
  have HW : Hid (Gr w W) := by rw [hW]; exact ((Gr.refl _).alloc _).alloc _
  have c0 := fun n os => (BlkG.cs (HB.out.grow n os)).1
  have c1 := fun n os => (BlkG.cs (HB.out.grow n os)).2.1
  have c2 := fun n os => (BlkG.cs (HB.out.grow n os)).2.2.1
  have c3 := fun n os => (BlkG.cs (HB.out.grow n os)).2.2.2
  have d0 := fun n os => (BlkP.cs (HB2.out.grow n os)).1
  have d1 := fun n os => (BlkP.cs (HB2.out.grow n os)).2
  generalize inR ⟨a, l, g, e⟩ ⟨P, n⟩ = r at *
  generalize rightR ⟨a, l, g, e⟩ = q at *
  generalize rightP P n = q2 at *
  generalize maskA P l = z at *
  clear HB HB2
  go_enter Try.func14, Try.ntmps14
  go_wp2_with fail
  rw [← hW]
  clear hW
  cases q
  case false =>
    refine wp_region_quiet_grownB (by assumption) (by kernel_rfl) ?_
    repeat (refine wpQuiet_stepB (fun K hK => ?_); go_simp; first | (refine hK _ ?_; clear hK K) | (apply Exists.intro; refine ⟨fun _ => ?_, hK _ ?_⟩; (first | (go_at_call 12; with_reducible refine Calls.grown_of (k1 _)) | (go_at_call 26; with_reducible refine Calls.grown_of (k2 _)) | (go_at_call 31; with_reducible refine Calls.grown_of (k3 _))); clear hK K))
    refine wpQuiet_nilB ?_
    intro _ hw'
    obtain ⟨⟨nq, osq⟩, hw''⟩ := hw'
    subst hw''
    go_wp2_with fail
    go_ret
    exact ⟨by rw [HR.out]; simp [*], HW.out.trans ⟨_, _, rfl⟩⟩
  cases q2
  case false =>
    refine wp_region_quiet_grownB (by assumption) (by kernel_rfl) ?_
    repeat (refine wpQuiet_stepB (fun K hK => ?_); go_simp; first | (refine hK _ ?_; clear hK K) | (apply Exists.intro; refine ⟨fun _ => ?_, hK _ ?_⟩; (first | (go_at_call 12; with_reducible refine Calls.grown_of (k1 _)) | (go_at_call 26; with_reducible refine Calls.grown_of (k2 _)) | (go_at_call 31; with_reducible refine Calls.grown_of (k3 _))); clear hK K))
    refine wpQuiet_nilB ?_
    intro _ hw'
    obtain ⟨⟨nq, osq⟩, hw''⟩ := hw'
    subst hw''
    go_wp2_with fail
    go_ret
    exact ⟨by rw [HR.out]; simp [*], HW.out.trans ⟨_, _, rfl⟩⟩
  by_cases h1 : g ≤ n
  case neg =>
    have h1 : decide (g ≤ n) = false := decide_eq_false h1
    refine wp_region_quiet_grownB (by assumption) (by kernel_rfl) ?_
    repeat (refine wpQuiet_stepB (fun K hK => ?_); go_simp; first | (refine hK _ ?_; clear hK K) | (apply Exists.intro; refine ⟨fun _ => ?_, hK _ ?_⟩; (first | (go_at_call 12; with_reducible refine Calls.grown_of (k1 _)) | (go_at_call 26; with_reducible refine Calls.grown_of (k2 _)) | (go_at_call 31; with_reducible refine Calls.grown_of (k3 _))); clear hK K))
    refine wpQuiet_nilB ?_
    intro _ hw'
    obtain ⟨⟨nq, osq⟩, hw''⟩ := hw'
    subst hw''
    go_wp2_with fail
    go_ret
    exact ⟨by rw [HR.out]; simp [*], HW.out.trans ⟨_, _, rfl⟩⟩
  by_cases h2 : n ≤ e
  case neg =>
    have h2 : decide (n ≤ e) = false := decide_eq_false h2
    refine wp_region_quiet_grownB (by assumption) (by kernel_rfl) ?_
    repeat (refine wpQuiet_stepB (fun K hK => ?_); go_simp; first | (refine hK _ ?_; clear hK K) | (apply Exists.intro; refine ⟨fun _ => ?_, hK _ ?_⟩; (first | (go_at_call 12; with_reducible refine Calls.grown_of (k1 _)) | (go_at_call 26; with_reducible refine Calls.grown_of (k2 _)) | (go_at_call 31; with_reducible refine Calls.grown_of (k3 _))); clear hK K))
    refine wpQuiet_nilB ?_
    intro _ hw'
    obtain ⟨⟨nq, osq⟩, hw''⟩ := hw'
    subst hw''
    go_wp2_with fail
    go_ret
    exact ⟨by rw [HR.out]; simp [*], HW.out.trans ⟨_, _, rfl⟩⟩
  refine wp_region_quiet_grownB (by assumption) (by kernel_rfl) ?_
  repeat (refine wpQuiet_stepB (fun K hK => ?_); go_simp; first | (refine hK _ ?_; clear hK K) | (apply Exists.intro; refine ⟨fun _ => ?_, hK _ ?_⟩; (first | (go_at_call 12; with_reducible refine Calls.grown_of (k1 _)) | (go_at_call 26; with_reducible refine Calls.grown_of (k2 _)) | (go_at_call 31; with_reducible refine Calls.grown_of (k3 _))); clear hK K))
  refine wpQuiet_nilB ?_
  intro _ hw'
  obtain ⟨⟨nq, osq⟩, hw''⟩ := hw'
  subst hw''
  go_wp2_with fail
  go_ret
  refine ⟨?_, HW.out.trans ⟨_, _, rfl⟩⟩
  rw [HR.out]
  simp [h1, h2]
  by_cases h3 : z = a <;> simp [h3]

end Go.Proofs.Ytdilnelfkbeamaa
