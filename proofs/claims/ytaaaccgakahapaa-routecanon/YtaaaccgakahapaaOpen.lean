/-
  A route that came in by value, opened: its two slices hold lists of numbers that fit.
-/
import Derived.Test.YtaaaccgakahapaaW8
import Derived.ProofKit
import Derived.ChangeSlices
import Derived.Lib.SmallJoins
import Derived.SizedLaws
namespace Go.Proofs.Ytaaaccgakahapaa
open Go.ChangeShapes Go.WideShapes Go.ChangeAt Go.RowKit

theorem own : ownKnob Try.prog.godebug = none := by kernel_rfl
theorem laidOut : laidOutB Try.prog = true := by kernel_rfl

theorem bounds_u32 {x : Int} (h : (Lit.int .u32 x).wf = true) : Num x := by
  simp [Lit.wf, IntKind.min, IntKind.max, IntKind.signed, IntKind.bits] at h
  exact ⟨by omega, by omega⟩
theorem bounds_i64 {x : Int} (h : (Lit.int .i64 x).wf = true) : Num64 x := by
  simp [Lit.wf, IntKind.min, IntKind.max, IntKind.signed, IntKind.bits] at h
  exact ⟨by omega, by omega⟩

theorem add_none (b off j : Nat) : (⟨b, off, none⟩ : Addr).add j = ⟨b, off + j, none⟩ := by unfold Addr.add; split <;> simp_all

/-- How a list is read of a datum. -/
def ReadAs {H : Type} (d : DataW H) (l : List Int) : Prop := (d = .nil ∧ l = []) ∨ ∃ es sp, d = .slice es sp ∧ es.length = l.length

theorem open_nums {H : Type} {enc : TypeId × Value → H} {W : World} {v : Value} {fuel : Nat} {x : DataW H × List MemPlace}
    (h : DataW.trod enc Try.prog W 0 (fun _ => true) true fuel 25 [v] = some x) : ∃ l, Row1 W v l ∧ Good l ∧ ReadAs x.1 l := by
  rcases open_ints Try.underlying25 Try.underlying22 (by kernel_rfl) h with ⟨hcs, hxn⟩ | ⟨a, len, cap, zs, hcs, _, hl, hm, hz, hxe, hx, hw⟩
  · injection hcs with hcs _
    subst hcs
    exact ⟨[], Row1.nil W, (fun x hx => by cases hx), Or.inl ⟨by rw [hxn], rfl⟩⟩
  · injection hcs with hcs _
    subst hcs
    simp only [if_true] at hz
    have hlen : (zs.take len).length = len := by simp; omega
    refine ⟨zs.take len, ⟨some a, cap, by rw [hlen], fun hne => ?_, fun h => by cases h⟩, fun y hy => bounds_u32 (hw y (List.mem_of_mem_take hy)), Or.inr ⟨_, _, by rw [hxe], by simp [lits]⟩⟩
    have hpos : 0 < len := by
      rcases Nat.eq_zero_or_pos len with e | e
      · subst e; simp at hne
      · exact e
    obtain ⟨b, off, spot⟩ := a
    have h0 := hx 0 (by omega)
    have hspot : spot = none := by
      have := World.cell?_spot h0
      simpa [Addr.add] using this
    subst hspot
    refine ⟨b, off, rfl, ?_, fun i y hy => ?_⟩
    · have := World.block_lt_of_cell? W _ h0
      rw [add_none] at this
      exact this
    · have hi : i < len := by
        have := (List.getElem?_eq_some_iff.1 hy).1
        omega
      rw [List.getElem?_take_of_lt hi] at hy
      have hc := hx i (by omega)
      rw [add_none] at hc
      rw [hc, List.getD_eq_getElem?_getD, hy]
      rfl

theorem array8 {α : Type} {cs : Array α} (h : cs.size = 8) : ∃ c0 c1 c2 c3 c4 c5 c6 c7, cs = #[c0, c1, c2, c3, c4, c5, c6, c7] := by
  obtain ⟨l⟩ := cs
  match l, h with
  | [c0, c1, c2, c3, c4, c5, c6, c7], _ => exact ⟨c0, c1, c2, c3, c4, c5, c6, c7, rfl⟩

/-- A route that came in by value, opened. -/
theorem open_route {H : Type} {enc : TypeId × Value → H} {W : World} {r : Reach} {b0 : Nat} {v : Value} {d : DataW H} {p : List MemPlace} (hv : Value.okWide Try.prog W r b0 27 v) (h : DataW.Trod enc Try.prog W 0 (fun _ => true) true 27 v d p) :
    ∃ (x : Rt) (u u' : Value), v = rv x u u' ∧ Rts W x u u' ∧ Ok x ∧ ∃ d0 d1 d2 ds, d = .agg (d0 :: d1 :: d2 :: ds) ∧ ReadAs d1 x.path ∧ ReadAs d2 x.comms := by
  obtain ⟨cs, rfl, hsz⟩ := okWide_struct Try.underlying27 hv
  obtain ⟨c0, c1, c2, c3, c4, c5, c6, c7, rfl⟩ := array8 (hsz.trans (by kernel_rfl))
  obtain ⟨fuel, hf⟩ := h
  have k22 : Try.prog.cellsOf 22 = 1 := by kernel_rfl
  have k3 : Try.prog.cellsOf 3 = 1 := by kernel_rfl
  have k25 : Try.prog.cellsOf 25 = 1 := by kernel_rfl
  have k24 : Try.prog.cellsOf 24 = 2 := by kernel_rfl
  obtain ⟨xs, n, _, hxe, _, hlen, hfs⟩ := DataW.trod_struct Try.underlying27 hf
  match xs, hlen with
  | [y0, y1, y2, y3, y4, y5, y6], _ =>
    have t0 : DataW.trod enc Try.prog W 0 (fun _ => true) true n 24 [c0, c1] = some y0 := by simpa [Value.cells, k24] using hfs 0 _ rfl
    have t1 : DataW.trod enc Try.prog W 0 (fun _ => true) true n 25 [c2] = some y1 := by simpa [Value.cells, k25] using hfs 1 _ rfl
    have t2 : DataW.trod enc Try.prog W 0 (fun _ => true) true n 25 [c3] = some y2 := by simpa [Value.cells, k25] using hfs 2 _ rfl
    have t3 : DataW.trod enc Try.prog W 0 (fun _ => true) true n 22 [c4] = some y3 := by simpa [Value.cells, k22] using hfs 3 _ rfl
    have t4 : DataW.trod enc Try.prog W 0 (fun _ => true) true n 22 [c5] = some y4 := by simpa [Value.cells, k22] using hfs 4 _ rfl
    have t5 : DataW.trod enc Try.prog W 0 (fun _ => true) true n 3 [c6] = some y5 := by simpa [Value.cells, k3] using hfs 5 _ rfl
    have t6 : DataW.trod enc Try.prog W 0 (fun _ => true) true n 22 [c7] = some y6 := by simpa [Value.cells, k22] using hfs 6 _ rfl
    obtain ⟨ys, m, _, _, _, hlen0, hfs0⟩ := DataW.trod_struct Try.underlying24 t0
    match ys, hlen0 with
    | [z0, z1], _ =>
      have s0 : DataW.trod enc Try.prog W 0 (fun _ => true) true m 22 [c0] = some z0 := by simpa [k22] using hfs0 0 _ rfl
      have s1 : DataW.trod enc Try.prog W 0 (fun _ => true) true m 3 [c1] = some z1 := by simpa [k3] using hfs0 1 _ rfl
      obtain ⟨x0, e0, _, w0⟩ := DataW.trod_int Try.underlying22 s0
      obtain ⟨x1, e1, _, w1⟩ := DataW.trod_int Try.underlying3 s1
      obtain ⟨x4, e4, _, w4⟩ := DataW.trod_int Try.underlying22 t3
      obtain ⟨x5, e5, _, w5⟩ := DataW.trod_int Try.underlying22 t4
      obtain ⟨x6, e6, _, w6⟩ := DataW.trod_int Try.underlying3 t5
      obtain ⟨x7, e7, _, w7⟩ := DataW.trod_int Try.underlying22 t6
      injection e0 with e0 _
      injection e1 with e1 _
      injection e4 with e4 _
      injection e5 with e5 _
      injection e6 with e6 _
      injection e7 with e7 _
      subst e0 e1 e4 e5 e6 e7
      obtain ⟨l1, r1, g1, d1⟩ := open_nums t1
      obtain ⟨l2, r2, g2, d2⟩ := open_nums t2
      simp only [Prod.mk.injEq] at hxe
      exact ⟨⟨x0, x1, l1, l2, x4, x5, x6, x7⟩, c2, c3, rfl, ⟨r1, r2⟩, ⟨bounds_u32 w0, bounds_i64 w1, g1, g2, bounds_u32 w4, bounds_u32 w5, bounds_i64 w6, bounds_u32 w7⟩, _, _, _, _, hxe.1, d1, d2⟩

/-- How long a route's lists that came in may be. -/
theorem route_bound {H : Type} {ts : List TypeId} {ds : List (DataW H)} (h : (DataW.weightsEach Try.prog ts ds).all (· ≤ reachBytes) = true) {j : Nat} {x : Rt} {d0 d1 d2 : DataW H} {dr : List (DataW H)} (ht : ts[j]? = some 27) (hd : ds[j]? = some (.agg (d0 :: d1 :: d2 :: dr))) (hp : ReadAs d1 x.path) (hc : ReadAs d2 x.comms) :
    Short x := by
  have hb : Try.prog.bytesOf 22 = 4 := by kernel_rfl
  have hr : reachBytes = 140737488351232 := rfl
  have key : ∀ (i : Nat) (d : DataW H) (l : List Int), i = 1 ∨ i = 2 → (d0 :: d1 :: d2 :: dr)[i]? = some d → ReadAs d l → l.length < 4611686018427387904 := fun i d l hi hdi hl => by
    rcases hl with ⟨_, rfl⟩ | ⟨es, sp, rfl, he⟩
    · simp
    · have hw : (es.length + sp.length) * Try.prog.bytesOf 22 ∈ DataW.weights Try.prog 27 (.agg (d0 :: d1 :: d2 :: dr)) := by
        unfold DataW.weights
        rw [Try.underlying27]
        refine DataW.weights_mem_each (j := i) (t := 25) ?_ hdi _ ?_
        · rcases hi with rfl | rfl <;> rfl
        · simp [DataW.weights, Try.underlying25]
      have := List.all_eq_true.1 h _ (DataW.weights_mem_each ht hd _ hw)
      simp only [decide_eq_true_eq] at this
      rw [hb, hr] at this
      omega
  exact ⟨key 1 d1 _ (Or.inl rfl) rfl hp, key 2 d2 _ (Or.inr rfl) rfl hc⟩

end Go.Proofs.Ytaaaccgakahapaa
