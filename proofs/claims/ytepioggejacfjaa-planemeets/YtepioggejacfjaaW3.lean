/-
  Walk: the document's own Meet.
-/
import Derived.Test.YtepioggejacfjaaW2
namespace Go.Proofs.Ytepioggejacfjaa
open Go.RowKit

/-- The greater one, the lesser one. -/
def mx (x y : Int) : Int := max x y
def mn (x y : Int) : Int := min x y

theorem run_max_u (x y : Int) (w : World) (ts : Array TypeId) (t : TypeId) : (Builtin.max_ ts t #[.int .u32 x, .int .u32 y]).run Try.prog w = .ok (.int .u32 (mx x y)) w := by
  rw [run_max_int2]
  have : (if y > x then y else x) = mx x y := by unfold mx; split <;> omega
  rw [this]
theorem run_min_u (x y : Int) (w : World) (ts : Array TypeId) (t : TypeId) : (Builtin.min_ ts t #[.int .u32 x, .int .u32 y]).run Try.prog w = .ok (.int .u32 (mn x y)) w := by
  rw [run_min_int2]
  have : (if y < x then y else x) = mn x y := by unfold mn; split <;> omega
  rw [this]

set_option maxHeartbeats 1000000 in
theorem rmeet_any (a b : Sp) (ha : Bx a) (hb : Bx b) (w : World) :
    Calls Try.prog 14 #[.agg #[.int .u32 a.1, .int .u32 a.2], .agg #[.int .u32 b.1, .int .u32 b.2]] w fun e w' => e = .returned (meetV a b) ∧ Below w.heap.size w w' := by
  obtain ⟨⟨l0, l1⟩, ⟨k0, k1⟩⟩ := ha
  obtain ⟨⟨m0, m1⟩, ⟨n0, n1⟩⟩ := hb
  obtain ⟨mv, hmv⟩ : ∃ mv, mv = meetV a b := ⟨_, rfl⟩
  have HV : Hid (mv = meetV a b) := hmv
  rw [← hmv]
  clear hmv
  have HT : Hid (some2 a b = (decide (mx (a.1 / 65536) (b.1 / 65536) ≤ mn (a.2 / 65536) (b.2 / 65536)) && decide (mx (a.1 % 65536) (b.1 % 65536) ≤ mn (a.2 % 65536) (b.2 % 65536)))) := rfl
  have HB : Hid (meetB a b = (65536 * mx (a.1 / 65536) (b.1 / 65536) + mx (a.1 % 65536) (b.1 % 65536), 65536 * mn (a.2 / 65536) (b.2 / 65536) + mn (a.2 % 65536) (b.2 % 65536))) := rfl
  have b1 : 0 ≤ mx (a.1 / 65536) (b.1 / 65536) := by unfold mx; omega
  have b2 : mx (a.1 / 65536) (b.1 / 65536) ≤ 65535 := by unfold mx; omega
  have b3 : 0 ≤ mx (a.1 % 65536) (b.1 % 65536) := by unfold mx; omega
  have b4 : mx (a.1 % 65536) (b.1 % 65536) ≤ 65535 := by unfold mx; omega
  have b5 : 0 ≤ mn (a.2 / 65536) (b.2 / 65536) := by unfold mn; omega
  have b6 : mn (a.2 / 65536) (b.2 / 65536) ≤ 65535 := by unfold mn; omega
  have b7 : 0 ≤ mn (a.2 % 65536) (b.2 % 65536) := by unfold mn; omega
  have b8 : mn (a.2 % 65536) (b.2 % 65536) ≤ 65535 := by unfold mn; omega
  have hx : ∀ (x y : Int) (w : World) (ts : Array TypeId) (t : TypeId), (Builtin.max_ ts t #[.int .u32 x, .int .u32 y]).run Try.prog w = .ok (.int .u32 (mx x y)) w := fun x y w ts t => run_max_u x y w ts t
  have hn : ∀ (x y : Int) (w : World) (ts : Array TypeId) (t : TypeId), (Builtin.min_ ts t #[.int .u32 x, .int .u32 y]).run Try.prog w = .ok (.int .u32 (mn x y)) w := fun x y w ts t => run_min_u x y w ts t
  by_cases t1 : mx (a.1 / 65536) (b.1 / 65536) ≤ mn (a.2 / 65536) (b.2 / 65536)
  · by_cases t2 : mx (a.1 % 65536) (b.1 % 65536) ≤ mn (a.2 % 65536) (b.2 % 65536)
    · have HE : Hid (meetV a b = .tuple #[.agg #[.int .u32 (meetB a b).1, .int .u32 (meetB a b).2], .bool true]) := by
        show meetV a b = _
        unfold meetV
        rw [HT.out, decide_eq_true t1, decide_eq_true t2]
        rfl
      go_enter Try.func14, Try.ntmps14
      go_wp2_with fail
      go_region
      go_wp2_with fail
      go_region
      go_wp2_with fail
      all_goals
        refine bodyPost_ret (v := mv) (by rw [HV.out, HE.out, HB.out]; simp [results, Try.results14, go_sem]) rfl ⟨rfl, ?_⟩
        exact below_drewN ((((Below.refl _ _).alloc (Nat.le_refl _) _).alloc (by simp) _).alloc (by simp; omega) _) 2
    · have t2' : mn (a.2 % 65536) (b.2 % 65536) < mx (a.1 % 65536) (b.1 % 65536) := by omega
      have HE : Hid (meetV a b = .tuple #[.agg #[.int .u32 0, .int .u32 0], .bool false]) := by
        show meetV a b = _
        unfold meetV
        rw [HT.out, decide_eq_false t2, Bool.and_false]
        rfl
      clear t2
      go_enter Try.func14, Try.ntmps14
      go_wp2_with fail
      go_region
      go_wp2_with fail
      go_region
      go_wp2_with fail
      all_goals
        refine bodyPost_ret (v := mv) (by rw [HV.out, HE.out]; simp [results, Try.results14, go_sem]) rfl ⟨rfl, ?_⟩
        exact below_drewN ((((Below.refl _ _).alloc (Nat.le_refl _) _).alloc (by simp) _).alloc (by simp; omega) _) 2
  · have t1' : mn (a.2 / 65536) (b.2 / 65536) < mx (a.1 / 65536) (b.1 / 65536) := by omega
    have HE : Hid (meetV a b = .tuple #[.agg #[.int .u32 0, .int .u32 0], .bool false]) := by
      show meetV a b = _
      unfold meetV
      rw [HT.out, decide_eq_false t1, Bool.false_and]
      rfl
    clear t1
    go_enter Try.func14, Try.ntmps14
    go_wp2_with fail
    go_region
    go_wp2_with fail
    go_region
    go_wp2_with fail
    all_goals
      refine bodyPost_ret (v := mv) (by rw [HV.out, HE.out]; simp [results, Try.results14, go_sem]) rfl ⟨rfl, ?_⟩
      exact below_drewN ((((Below.refl _ _).alloc (Nat.le_refl _) _).alloc (by simp) _).alloc (by simp; omega) _) 2

end Go.Proofs.Ytepioggejacfjaa
