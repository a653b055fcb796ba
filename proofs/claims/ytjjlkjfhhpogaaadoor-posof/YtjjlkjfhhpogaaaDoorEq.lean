/-
  Two sets of places compared.
-/
import Derived.Test.YtjjlkjfhhpogaaaDoorW7
import Derived.ChangeKeysEq
namespace Go.Proofs.YtjjlkjfhhpogaaaDoor
open Go.RowKit

theorem info65 : (Tryd.prog.info? 65).map (fun i => (i.zero, i.size, i.bytes)) = some (some (.int .u64 0), 1, 8) := by kernel_rfl

theorem run_part48 (w : World) (xs : Array Value) (i : Nat) (v : Value) (h : xs[i]? = some v) : (part 65 xs i).run Tryd.prog w = .ok v w := by
  have hs := Tryd.sizeOf65
  simp [part, go_sem, hs, h]

theorem eqIn50 (d : Nat) (p q : Pl) (w : World) : (Op.equalIn (d + 1 + 1) 67 (.agg #[.int .u64 (u p.a), .int .u64 (u p.b), .int .u64 (u p.c), .int .u64 (u p.d)]) (.agg #[.int .u64 (u q.a), .int .u64 (u q.b), .int .u64 (u q.c), .int .u64 (u q.d)])).run Tryd.prog w = .ok (u p.a == u q.a && u p.b == u q.b && u p.c == u q.c && u p.d == u q.d) w := by
  have hu : Tryd.prog.underlying 67 = some (.array 4 65) := Tryd.underlying67
  obtain ⟨i, hi, _⟩ := info_parts info65
  have hc : Tryd.prog.cellsOf 65 = 1 := by kernel_rfl
  have e := fun (a b : Int) => run_equalIn_int (P := Tryd.prog) w d 65 .u64 .u64 a b Tryd.underlying65
  rw [run_equalIn_array w (d + 1) _ _ hu hi, hc]
  simp only [show List.range 4 = [0, 1, 2, 3] from rfl, Op.eqItems, Sem.run_bind, Nat.mul_one]
  rw [run_part48 w _ 0 (.int .u64 (u p.a)) rfl, Result.andThen_ok, run_part48 w _ 0 (.int .u64 (u q.a)) rfl, Result.andThen_ok, e, Result.andThen_ok]
  cases h0 : u p.a == u q.a
  · simp
  simp only [Bool.not_true, Bool.false_eq_true, if_false, Sem.run_bind]
  rw [run_part48 w _ 1 (.int .u64 (u p.b)) rfl, Result.andThen_ok, run_part48 w _ 1 (.int .u64 (u q.b)) rfl, Result.andThen_ok, e, Result.andThen_ok]
  cases h1 : u p.b == u q.b
  · simp
  simp only [Bool.not_true, Bool.false_eq_true, if_false, Sem.run_bind]
  rw [run_part48 w _ 2 (.int .u64 (u p.c)) rfl, Result.andThen_ok, run_part48 w _ 2 (.int .u64 (u q.c)) rfl, Result.andThen_ok, e, Result.andThen_ok]
  cases h2 : u p.c == u q.c
  · simp
  simp only [Bool.not_true, Bool.false_eq_true, if_false, Sem.run_bind]
  rw [run_part48 w _ 3 (.int .u64 (u p.d)) rfl, Result.andThen_ok, run_part48 w _ 3 (.int .u64 (u q.d)) rfl, Result.andThen_ok, e, Result.andThen_ok]
  cases h3 : u p.d == u q.d
  · simp
  simp

theorem eqIn50z (p : Pl) (w : World) : (Op.equalIn 10000 67 (.agg #[.int .u64 (u p.a), .int .u64 (u p.b), .int .u64 (u p.c), .int .u64 (u p.d)]) (.agg #[.int .u64 0, .int .u64 0, .int .u64 0, .int .u64 0])).run Tryd.prog w = .ok (u p.a == 0 && u p.b == 0 && u p.c == 0 && u p.d == 0) w := eqIn50 9998 p .zero w

theorem zero_test (p : Pl) (h : p ≠ .zero) : (u p.a == 0 && u p.b == 0 && u p.c == 0 && u p.d == 0) = false := by
  cases e : (u p.a == 0 && u p.b == 0 && u p.c == 0 && u p.d == 0)
  · rfl
  · simp at e
    obtain ⟨⟨⟨e0, e1⟩, e2⟩, e3⟩ := e
    obtain ⟨a, b, c, d⟩ := p
    simp only at e0 e1 e2 e3
    exact absurd (by rw [u_inj (e0.trans u_zero.symm), u_inj (e1.trans u_zero.symm), u_inj (e2.trans u_zero.symm), u_inj (e3.trans u_zero.symm)]; rfl) h
end Go.Proofs.YtjjlkjfhhpogaaaDoor
