/-
  Ranges, entries, prefixes compared; the walks of Same and of ten.
-/
import Derived.Test.YtdilnelfkbeamaaW11
namespace Go.Proofs.Ytdilnelfkbeamaa
open Go.RowKit

theorem eqIn25 (d : Nat) (a b a' b' : Int) (w : World) : (Op.equalIn (d + 1 + 1) 25 (.agg #[.int .u32 a, .int .i64 b]) (.agg #[.int .u32 a', .int .i64 b'])).run Try.prog w = .ok (a == a' && b == b') w := by
  have u3 := Try.underlying23
  have a3 := Try.isAgg23
  have z3 := Try.sizeOf23
  have u4 := Try.underlying3
  have a4 := Try.isAgg3
  have z4 := Try.sizeOf3
  have hS5 : Try.prog.underlying 25 = some (.struct (Try.prog.fieldsOf 25)) := by kernel_rfl
  have hp5 : Try.prog.stoodInHeld 25 = false := by kernel_rfl
  rw [run_equalIn_agg w (d + 1) 25 _ _ hS5 hp5]
  simp only [Program.fieldsOf, Try.underlying25]
  go_simp
  by_cases h1 : a = a' <;> by_cases h2 : b = b' <;> simp [h1, h2]

theorem eqIn28 (k : Nat) (a b c d a' b' c' d' : Int) (w : World) : (Op.equalIn (k + 1 + 1 + 1) 28 (.agg #[.int .u32 a, .int .i64 b, .int .i64 c, .int .i64 d]) (.agg #[.int .u32 a', .int .i64 b', .int .i64 c', .int .i64 d'])).run Try.prog w = .ok (a == a' && b == b' && c == c' && d == d') w := by
  have u4 := Try.underlying3
  have a4 := Try.isAgg3
  have z4 := Try.sizeOf3
  have a5 := Try.isAgg25
  have z5 := Try.sizeOf25
  have hS : Try.prog.underlying 28 = some (.struct (Try.prog.fieldsOf 28)) := by kernel_rfl
  have hp : Try.prog.stoodInHeld 28 = false := by kernel_rfl
  have h25 := fun W => eqIn25 k a b a' b' W
  rw [run_equalIn_agg w (k + 1 + 1) 28 _ _ hS hp]
  simp only [Program.fieldsOf, Try.underlying28]
  generalize (a == a' && b == b') = q at *
  go_simp
  cases q <;> by_cases h1 : c = c' <;> by_cases h2 : d = d' <;> simp [h1, h2]

theorem eql28 (a b c d a' b' c' d' : Int) (w : World) : (binOp .eql 28 (.agg #[.int .u32 a, .int .i64 b, .int .i64 c, .int .i64 d]) (.agg #[.int .u32 a', .int .i64 b', .int .i64 c', .int .i64 d'])).run Try.prog w = .ok (.bool (a == a' && b == b' && c == c' && d == d')) w := by
  rw [run_eql_struct, show (10000 : Nat) = 9997 + 1 + 1 + 1 from rfl, eqIn28]
  rfl
theorem neq28 (a b c d a' b' c' d' : Int) (w : World) : (binOp .neq 28 (.agg #[.int .u32 a, .int .i64 b, .int .i64 c, .int .i64 d]) (.agg #[.int .u32 a', .int .i64 b', .int .i64 c', .int .i64 d'])).run Try.prog w = .ok (.bool (!(a == a' && b == b' && c == c' && d == d'))) w := by
  rw [run_neq_struct, show (10000 : Nat) = 9997 + 1 + 1 + 1 from rfl, eqIn28]
  rfl
theorem neq25 (a b c d : Int) (w : World) : (binOp .neq 25 (.agg #[.int .u32 a, .int .i64 b]) (.agg #[.int .u32 c, .int .i64 d])).run Try.prog w = .ok (.bool (!(a == c && b == d))) w := by
  rw [run_neq_struct, show (10000 : Nat) = 9998 + 1 + 1 from rfl, eqIn25]
  rfl
/-- An entry does not differ from itself. -/
theorem neq30 (q : Bool) (a b c d : Int) (w : World) : (binOp .neq 30 (.agg #[.bool q, .int .u32 a, .int .i64 b, .int .i64 c, .int .i64 d]) (.agg #[.bool q, .int .u32 a, .int .i64 b, .int .i64 c, .int .i64 d])).run Try.prog w = .ok (.bool false) w := by
  have u4 := Try.underlying4
  have a4 := Try.isAgg4
  have z4 := Try.sizeOf4
  have a5 := Try.isAgg28
  have z5 := Try.sizeOf28
  have hS : Try.prog.underlying 30 = some (.struct (Try.prog.fieldsOf 30)) := by kernel_rfl
  have hp : Try.prog.stoodInHeld 30 = false := by kernel_rfl
  have h28 : ∀ W, (Op.equalIn 9999 28 (.agg #[.int .u32 a, .int .i64 b, .int .i64 c, .int .i64 d]) (.agg #[.int .u32 a, .int .i64 b, .int .i64 c, .int .i64 d])).run Try.prog W = .ok true W := fun W => by
    have := eqIn28 9996 a b c d a b c d W
    simpa using this
  rw [run_neq_struct, show (10000 : Nat) = 9999 + 1 from rfl, run_equalIn_agg w 9999 30 _ _ hS hp]
  simp only [Program.fieldsOf, Try.underlying30]
  go_simp

set_option maxHeartbeats 1000000 in
theorem ten_any (g e : Int) (w : World) :
    Calls Try.prog 27 #[.int .i64 g, .int .i64 e] w fun e' w' => e' = .returned (gv ⟨167772160, 8, g, e⟩) ∧ Gr w w' := by
  go_enter Try.func27, Try.ntmps27
  go_wp2_with fail
  exact bodyPost_ret (v := .agg #[.int .u32 167772160, .int .i64 8, .int .i64 g, .int .i64 e]) (by simp [results, Try.results27, go_sem]) rfl ⟨rfl, (Gr.refl _).alloc _⟩

set_option maxHeartbeats 1000000 in
/-- Two rows of the same ranges. -/
theorem same_true (u v : Value) (l : List Rg) (w : World) (hl : l.length ≤ 1000000) (hu : RowG w u l) (hv : RowG w v l) :
    Calls Try.prog 19 #[u, v] w fun e w' => e = .returned (.bool true) ∧ Gr w w' := by
  obtain ⟨ao, cap, rfl⟩ := hu.form
  obtain ⟨ao2, cap2, rfl⟩ := hv.form
  have HU : Hid (RowG w (.slice ao l.length cap) l) := hu
  have HV : Hid (RowG w (.slice ao2 l.length cap2) l) := hv
  obtain ⟨N, hN⟩ : ∃ N : Nat, N = l.length := ⟨_, rfl⟩
  have HN : Hid (N = l.length) := hN
  rw [← hN] at HU HV hl ⊢
  clear hu hv hN
  have hmx : Try.prog.follows .mixedOrders = true := by kernel_rfl
  go_enter Try.func19, Try.ntmps19
  go_wp2_with fail
  go_loopw [13] (fun vi wr => ∃ k : Nat, k ≤ N ∧ vi = .int .i64 k ∧ Hid (Gr w wr)) (fun vi _ => N - (intOf vi).toNat)
  case atStart => exact ⟨0, Nat.zero_le _, rfl, Gr.refl _⟩
  case round =>
    obtain ⟨k, hk, rfl, HG⟩ := hrel
    by_cases hlt : k < N
    case neg =>
      go_wp2_with fail
      go_ret
      exact ⟨rfl, HG.out⟩
    obtain ⟨y, hy⟩ : ∃ y, l[k]? = some y := ⟨_, List.getElem?_eq_getElem (by have := HN.out; omega)⟩
    obtain ⟨b, off, rfl, hb, d0, d1, d2, d3⟩ := (HU.out.gr HG.out).cs4 hy
    obtain ⟨b2, off2, rfl, hb2, f0, f1, f2, f3⟩ := (HV.out.gr HG.out).cs4 hy
    have c0 := fun n os => cell_grown (w := wr) hb d0 n os
    have c1 := fun n os => cell_grown (w := wr) hb d1 n os
    have c2 := fun n os => cell_grown (w := wr) hb d2 n os
    have c3 := fun n os => cell_grown (w := wr) hb d3 n os
    have e0 := fun n os => cell_grown (w := wr) hb2 f0 n os
    have e1 := fun n os => cell_grown (w := wr) hb2 f1 n os
    have e2 := fun n os => cell_grown (w := wr) hb2 f2 n os
    have e3 := fun n os => cell_grown (w := wr) hb2 f3 n os
    have hq := fun W => neq28 y.addr y.len y.ge y.le y.addr y.len y.ge y.le W
    simp only [beq_self_eq_true, Bool.and_self, Bool.not_true] at hq
    clear hy hb hb2 d0 d1 d2 d3 f0 f1 f2 f3
    go_wp2_with fail
    refine wp_region_quiet_grownB (by assumption) (by kernel_rfl) ?_
    repeat (refine wpQuiet_stepB (fun K hK => ?_); go_simp; first | (refine hK _ ?_; clear hK K) | (apply Exists.intro; refine ⟨fun _ => ?_, hK _ ?_⟩; fail; clear hK K))
    refine wpQuiet_nilB ?_
    intro _ hw'
    obtain ⟨⟨nq, osq⟩, hw''⟩ := hw'
    subst hw''
    go_wp2_with fail
    go_roundw
    case rel => exact ⟨k + 1, by omega, by go_num, HG.out.trans ⟨_, _, rfl⟩⟩
    case measure => simp [intOf]; omega

end Go.Proofs.Ytdilnelfkbeamaa
