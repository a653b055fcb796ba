/-
  The walk of the document's own Cmp.
-/
import Derived.Test.YtaaaccgakahapaaW7
namespace Go.Proofs.Ytaaaccgakahapaa
open Go.RowKit

/-- Nothing of a route is too long. -/
structure Short (x : Rt) : Prop where
  p : x.path.length < 4611686018427387904
  c : x.comms.length < 4611686018427387904

theorem Row1.drew {w : World} {v : Value} {l : List Int} (h : Row1 w v l) (n : Nat) : Row1 (w.drewN n) v l := h.kept (B := w.heap.size) (below_drewN (Below.refl _ _) n) (Nat.le_refl _)
theorem Row1.alloc {w : World} {v : Value} {l : List Int} (h : Row1 w v l) (o : Obj) : Row1 (w.alloc o) v l := h.kept ((Below.refl _ _).alloc (Nat.le_refl _) o) (Nat.le_refl _)
theorem Row1.form {w : World} {v : Value} {l : List Int} (h : Row1 w v l) : ∃ ao cap, v = .slice ao l.length cap := by
  obtain ⟨ao, cap, h, _⟩ := h
  exact ⟨ao, cap, h⟩

/-- The route lies in this block. -/
structure HeldR (w : World) (b : Nat) (x : Rt) (u v : Value) : Prop where
  lt : b < w.heap.size
  c0 : w.cell? ⟨b, 0, none⟩ = some (.int .u32 x.addr)
  c1 : w.cell? ⟨b, 1, none⟩ = some (.int .i64 x.len)
  c2 : w.cell? ⟨b, 2, none⟩ = some u
  c3 : w.cell? ⟨b, 3, none⟩ = some v
  c4 : w.cell? ⟨b, 4, none⟩ = some (.int .u32 x.pref)
  c5 : w.cell? ⟨b, 5, none⟩ = some (.int .u32 x.med)
  c6 : w.cell? ⟨b, 6, none⟩ = some (.int .i64 x.origin)
  c7 : w.cell? ⟨b, 7, none⟩ = some (.int .u32 x.hop)

/-- The cells of a route. -/
abbrev rcells (x : Rt) (u v : Value) : Array Value := #[.int .u32 x.addr, .int .i64 x.len, u, v, .int .u32 x.pref, .int .u32 x.med, .int .i64 x.origin, .int .u32 x.hop]

theorem HeldR.new (w : World) (x : Rt) (u v : Value) : HeldR (w.alloc (.cells (rcells x u v) 27)) w.heap.size x u v :=
  ⟨by simp, by simp [go_sem], by simp [go_sem], by simp [go_sem], by simp [go_sem], by simp [go_sem], by simp [go_sem], by simp [go_sem], by simp [go_sem]⟩

theorem HeldR.kept {B : Nat} {w w' : World} {b : Nat} {x : Rt} {u v : Value} (h : HeldR w b x u v) (hB : Below B w w') (hb : b < B) : HeldR w' b x u v := by
  have e : ∀ o, w'.cell? ⟨b, o, none⟩ = w.cell? ⟨b, o, none⟩ := fun o => hB.cell (p := ⟨b, o, none⟩) hb
  exact ⟨Nat.lt_of_lt_of_le h.lt hB.size, (e _).trans h.c0, (e _).trans h.c1, (e _).trans h.c2, (e _).trans h.c3, (e _).trans h.c4, (e _).trans h.c5, (e _).trans h.c6, (e _).trans h.c7⟩

theorem HeldR.bel {w w' : World} {b : Nat} {x : Rt} {u v : Value} (h : HeldR w b x u v) (hB : Below w.heap.size w w') : HeldR w' b x u v := h.kept hB h.lt
theorem HeldR.alloc {w : World} {b : Nat} {x : Rt} {u v : Value} (h : HeldR w b x u v) (o : Obj) : HeldR (w.alloc o) b x u v := h.bel ((Below.refl _ _).alloc (Nat.le_refl _) o)
theorem HeldR.drew {w : World} {b : Nat} {x : Rt} {u v : Value} (h : HeldR w b x u v) (n : Nat) : HeldR (w.drewN n) b x u v := h.bel (below_drewN (Below.refl _ _) n)
theorem HeldR.gr {w w' : World} {b : Nat} {x : Rt} {u v : Value} (h : HeldR w b x u v) (k : Gr w w') : HeldR w' b x u v := h.bel k.below

theorem wrapU {x : Int} (h : Num x) : IntKind.i64.wrap x = x := by
  have := h.1
  have := h.2
  rw [IntKind.wrap_i64]
  omega

theorem cmpR_eq (x y : Rt) : cmpR x y = firstNZ [cmpV x.addr y.addr, cmpV x.len y.len, cmpL x.path y.path, cmpL x.comms y.comms, cmpV x.pref y.pref, cmpV x.med y.med, cmpV x.origin y.origin, cmpV x.hop y.hop] := rfl

/-- An array of eight numbers, read at a place. -/
theorem index8 (d0 d1 d2 d3 d4 d5 d6 d7 : Int) (k : Nat) (z : Int) (w : World) (h : [d0, d1, d2, d3, d4, d5, d6, d7][k]? = some z) :
    (Instr.index 45 (.agg #[.int .i64 d0, .int .i64 d1, .int .i64 d2, .int .i64 d3, .int .i64 d4, .int .i64 d5, .int .i64 d6, .int .i64 d7]) (.int .i64 k)).run Try.prog w = .ok (.int .i64 z) w := by
  obtain ⟨hk, hz⟩ := List.getElem?_eq_some_iff.1 h
  have hk8 : k < 8 := by simpa using hk
  have hu : Try.prog.underlying 45 = some (.array 8 3) := Try.underlying45
  have hz3 := Try.sizeOf3
  have h8 : k = 0 ∨ k = 1 ∨ k = 2 ∨ k = 3 ∨ k = 4 ∨ k = 5 ∨ k = 6 ∨ k = 7 := by omega
  subst hz
  rcases h8 with rfl | rfl | rfl | rfl | rfl | rfl | rfl | rfl <;> simp [Instr.index, run_underlying hu, asIntOf, go_sem, hz3]

set_option maxHeartbeats 4000000 in
theorem rcmp_any (x y : Rt) (u v u' v' : Value) (w : World) (hx : Ok x) (hy : Ok y) (sx : Short x) (sy : Short y) (rx : Rts w x u v) (ry : Rts w y u' v') :
    Calls Try.prog 17 #[rv x u v, rv y u' v'] w fun e w' => e = .returned (.int .i64 (cmpR x y)) ∧ Gr w w' := by
  obtain ⟨W, hW⟩ : ∃ W, W = (w.alloc (.cells (rcells x u v) 27)).alloc (.cells (rcells y u' v') 27) := ⟨_, rfl⟩
  have HWg : Hid (Gr w W) := by rw [hW]; exact ((Gr.refl _).alloc _).alloc _
  have k1 : ∀ n, HeldR (W.drewN n) w.heap.size x u v := fun n => by rw [hW]; exact ((HeldR.new w x u v).alloc _).drew n
  have k2 : ∀ n, HeldR (W.drewN n) (w.heap.size + 1) y u' v' := fun n => by
    have := HeldR.new (w.alloc (.cells (rcells x u v) 27)) y u' v'
    rw [show (w.alloc (.cells (rcells x u v) 27)).heap.size = w.heap.size + 1 from by simp] at this
    rw [hW]; exact this.drew n
  have lp := fun n => list_any u u' x.path y.path (W.drewN n) sx.p sy.p hx.path hy.path ((rx.p.gr HWg.out).drew n) ((ry.p.gr HWg.out).drew n)
  have lc := fun n => list_any v v' x.comms y.comms (W.drewN n) sx.c sy.c hx.comms hy.comms ((rx.c.gr HWg.out).drew n) ((ry.c.gr HWg.out).drew n)
  have n0 := fun n => number_any x.addr y.addr (W.drewN n)
  have n1 := fun n => number_any x.len y.len (W.drewN n)
  have n4 := fun n => number_any x.pref y.pref (W.drewN n)
  have n5 := fun n => number_any x.med y.med (W.drewN n)
  have n6 := fun n => number_any x.origin y.origin (W.drewN n)
  have n7 := fun n => number_any x.hop y.hop (W.drewN n)
  have a0 := wrapU hx.addr
  have a4 := wrapU hx.pref
  have a5 := wrapU hx.med
  have a7 := wrapU hx.hop
  have b0 := wrapU hy.addr
  have b4 := wrapU hy.pref
  have b5 := wrapU hy.med
  have b7 := wrapU hy.hop
  have x0 := fun n => (k1 n).c0
  have x1 := fun n => (k1 n).c1
  have x2 := fun n => (k1 n).c2
  have x3 := fun n => (k1 n).c3
  have x4 := fun n => (k1 n).c4
  have x5 := fun n => (k1 n).c5
  have x6 := fun n => (k1 n).c6
  have x7 := fun n => (k1 n).c7
  have y0 := fun n => (k2 n).c0
  have y1 := fun n => (k2 n).c1
  have y2 := fun n => (k2 n).c2
  have y3 := fun n => (k2 n).c3
  have y4 := fun n => (k2 n).c4
  have y5 := fun n => (k2 n).c5
  have y6 := fun n => (k2 n).c6
  have y7 := fun n => (k2 n).c7
  obtain ⟨ao1, cap1, rfl⟩ := rx.p.form
  obtain ⟨ao2, cap2, rfl⟩ := rx.c.form
  obtain ⟨ao3, cap3, rfl⟩ := ry.p.form
  obtain ⟨ao4, cap4, rfl⟩ := ry.c.form
  obtain ⟨q, hq⟩ : ∃ q, q = cmpR x y := ⟨_, rfl⟩
  have HQ : Hid (q = cmpR x y) := hq
  rw [← hq]
  rw [cmpR_eq] at HQ
  clear hq k1 k2 hx hy sx sy rx ry
  generalize cmpV x.addr y.addr = d0 at *
  generalize cmpV x.len y.len = d1 at *
  generalize cmpL x.path y.path = d2 at *
  generalize cmpL x.comms y.comms = d3 at *
  generalize cmpV x.pref y.pref = d4 at *
  generalize cmpV x.med y.med = d5 at *
  generalize cmpV x.origin y.origin = d6 at *
  generalize cmpV x.hop y.hop = d7 at *
  unfold rv
  have hW2 : (w.alloc (.cells #[.int .u32 x.addr, .int .i64 x.len, .slice ao1 x.path.length cap1, .slice ao2 x.comms.length cap2, .int .u32 x.pref, .int .u32 x.med, .int .i64 x.origin, .int .u32 x.hop] 27)).alloc (.cells #[.int .u32 y.addr, .int .i64 y.len, .slice ao3 y.path.length cap3, .slice ao4 y.comms.length cap4, .int .u32 y.pref, .int .u32 y.med, .int .i64 y.origin, .int .u32 y.hop] 27) = W := hW.symm
  clear hW
  go_enter Try.func17, Try.ntmps17
  go_wp2_with fail
  clear hW2
  go_quiet (first
    | (go_at_call 30; first | (with_reducible exact Calls.quiet_of_same (n0 _)) | (with_reducible exact Calls.quiet_of_same (n1 _)) | (with_reducible exact Calls.quiet_of_same (n4 _)) | (with_reducible exact Calls.quiet_of_same (n5 _)) | (with_reducible exact Calls.quiet_of_same (n6 _)) | (with_reducible exact Calls.quiet_of_same (n7 _)))
    | (go_at_call 31; first | (with_reducible exact Calls.quiet_of (lp _)) | (with_reducible exact Calls.quiet_of (lc _))))
  have HG : Hid (Gr w (W.drewN nq)) := HWg.out.drewN nq
  clear lp lc n0 n1 n4 n5 n6 n7 a0 a4 a5 a7 b0 b4 b5 b7 x0 x1 x2 x3 x4 x5 x6 x7 y0 y1 y2 y3 y4 y5 y6 y7 HWg
  generalize W.drewN nq = W2 at *
  go_wp2_with fail
  go_loop [60] (fun i => ∃ k : Nat, k ≤ 8 ∧ i = .int .i64 k ∧ Hid (∀ i z, i < k → [d0, d1, d2, d3, d4, d5, d6, d7][i]? = some z → z = 0)) (fun i => 8 - (intOf i).toNat)
  case atStart => exact ⟨0, by omega, rfl, fun i z hi => by omega⟩
  case round =>
    obtain ⟨k, hk, rfl, HI⟩ := hrel
    by_cases hlt : (k : Int) < 8
    · obtain ⟨z, HZ⟩ : ∃ z, Hid ([d0, d1, d2, d3, d4, d5, d6, d7][k]? = some z) := ⟨_, List.getElem?_eq_getElem (by simp; omega)⟩
      have hidx := fun W => index8 d0 d1 d2 d3 d4 d5 d6 d7 k z W HZ.out
      by_cases h0 : z = 0
      · have t0 : (z != 0) = false := by simp [h0]
        have HN : Hid (z = 0) := h0
        clear h0
        go_wp2_with fail
        go_round
        case rel => exact ⟨k + 1, by omega, by go_num, fun i y hi hy => by
            by_cases e : i = k
            · subst e; rw [HZ.out] at hy; injection hy with hy; rw [← hy]; exact HN.out
            · exact HI.out i y (by omega) hy⟩
        case measure => simp [intOf]; omega
      · have t0 : (z != 0) = true := by simp [h0]
        have hq : q = z := by rw [HQ.out]; exact firstNZ_at (k := k) HI.out HZ.out h0
        subst hq
        clear h0 HQ HI
        go_wp2_with fail
        go_ret
        exact ⟨rfl, HG.out⟩
    · have hq : q = 0 := by rw [HQ.out]; exact firstNZ_none (k := k) HI.out (by simp; omega)
      subst hq
      clear HQ HI
      go_wp2_with fail
      go_ret
      exact ⟨rfl, HG.out⟩
end Go.Proofs.Ytaaaccgakahapaa
