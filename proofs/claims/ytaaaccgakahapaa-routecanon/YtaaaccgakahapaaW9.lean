/-
  The walk of route.Cmp.
-/
import Derived.Test.YtaaaccgakahapaaW8
import Derived.Deep.RegionHeld3
namespace Go.Proofs.Ytaaaccgakahapaa
open Go.RowKit

theorem cells8 (w : World) (d0 d1 d2 d3 d4 d5 d6 d7 : Int) (i : Nat) (x : Int) (h : [d0, d1, d2, d3, d4, d5, d6, d7][i]? = some x) : (w.alloc (.cells #[.int .i64 d0, .int .i64 d1, .int .i64 d2, .int .i64 d3, .int .i64 d4, .int .i64 d5, .int .i64 d6, .int .i64 d7] 3)).cell? ⟨w.heap.size, i, none⟩ = some (.int .i64 x) := by
  have hi := (List.getElem?_eq_some_iff.1 h).1
  have hi8 : i < 8 := by simpa using hi
  have h8 : i = 0 ∨ i = 1 ∨ i = 2 ∨ i = 3 ∨ i = 4 ∨ i = 5 ∨ i = 6 ∨ i = 7 := by omega
  rcases h8 with rfl | rfl | rfl | rfl | rfl | rfl | rfl | rfl <;> (simp at h; subst h; simp [go_sem])

theorem decide8 (w : World) (d0 d1 d2 d3 d4 d5 d6 d7 q : Int) (hq : q = firstNZ [d0, d1, d2, d3, d4, d5, d6, d7]) :
    Calls Try.prog 33 #[.slice (some ⟨w.heap.size, 0, none⟩) 8 8] (w.alloc (.cells #[.int .i64 d0, .int .i64 d1, .int .i64 d2, .int .i64 d3, .int .i64 d4, .int .i64 d5, .int .i64 d6, .int .i64 d7] 3)).drew fun e w' => e = .returned (.int .i64 q) ∧ w' = (w.alloc (.cells #[.int .i64 d0, .int .i64 d1, .int .i64 d2, .int .i64 d3, .int .i64 d4, .int .i64 d5, .int .i64 d6, .int .i64 d7] 3)).drew := by
  rw [hq]
  exact decide_any w.heap.size 8 8 [d0, d1, d2, d3, d4, d5, d6, d7] (w.alloc (.cells #[.int .i64 d0, .int .i64 d1, .int .i64 d2, .int .i64 d3, .int .i64 d4, .int .i64 d5, .int .i64 d6, .int .i64 d7] 3)).drew rfl (by decide) (cells8 w d0 d1 d2 d3 d4 d5 d6 d7)

set_option maxHeartbeats 8000000 in
theorem cmp_any (x y : Rt) (u v u' v' : Value) (w : World) (sx : Short x) (sy : Short y) (rx : Rts w x u v) (ry : Rts w y u' v') :
    Calls Try.prog 19 #[rv x u v, rv y u' v'] w fun e w' => e = .returned (.int .i64 (cmpR x y)) ∧ Gr w w' := by
  obtain ⟨W, hW⟩ : ∃ W, W = (w.alloc (.cells (rcells x u v) 27)).alloc (.cells (rcells y u' v') 27) := ⟨_, rfl⟩
  have HWg : Hid (Gr w W) := by rw [hW]; exact ((Gr.refl _).alloc _).alloc _
  have k1 : HeldR W w.heap.size x u v := by rw [hW]; exact (HeldR.new w x u v).alloc _
  have k2 : HeldR W (w.heap.size + 1) y u' v' := by
    have := HeldR.new (w.alloc (.cells (rcells x u v) 27)) y u' v'
    rw [show (w.alloc (.cells (rcells x u v) 27)).heap.size = w.heap.size + 1 from by simp] at this
    rw [hW]; exact this
  have lp := compareS_any u u' x.path y.path W.drew sx.p sy.p ((rx.p.gr HWg.out).drew 1) ((ry.p.gr HWg.out).drew 1)
  have lc := compareS_any v v' x.comms y.comms W.drew sx.c sy.c ((rx.c.gr HWg.out).drew 1) ((ry.c.gr HWg.out).drew 1)
  have n0 := fun W => compareU_any x.addr y.addr W
  have n1 := fun W => compareI_any x.len y.len W
  have n4 := fun W => compareU_any x.pref y.pref W
  have n5 := fun W => compareU_any x.med y.med W
  have n6 := fun W => compareI_any x.origin y.origin W
  have n7 := fun W => compareU_any x.hop y.hop W
  obtain ⟨_, x0, x1, x2, x3, x4, x5, x6, x7⟩ := k1
  obtain ⟨_, y0, y1, y2, y3, y4, y5, y6, y7⟩ := k2
  obtain ⟨ao1, cap1, rfl⟩ := rx.p.form
  obtain ⟨ao2, cap2, rfl⟩ := rx.c.form
  obtain ⟨ao3, cap3, rfl⟩ := ry.p.form
  obtain ⟨ao4, cap4, rfl⟩ := ry.c.form
  obtain ⟨q, hq⟩ : ∃ q, q = cmpR x y := ⟨_, rfl⟩
  have HQ : Hid (q = cmpR x y) := hq
  rw [← hq]
  rw [cmpR_eq] at HQ
  clear hq sx sy rx ry
  generalize cmpV x.addr y.addr = d0 at *
  generalize cmpV x.len y.len = d1 at *
  generalize cmpL x.path y.path = d2 at *
  generalize cmpL x.comms y.comms = d3 at *
  generalize cmpV x.pref y.pref = d4 at *
  generalize cmpV x.med y.med = d5 at *
  generalize cmpV x.origin y.origin = d6 at *
  generalize cmpV x.hop y.hop = d7 at *
  unfold rv
  have hW2 : (w.alloc (.cells #[.int .u32 x.addr, .int .i64 x.len, .slice ao1 x.path.length cap1, .slice ao2 x.comms.length cap2, .int .u32 x.pref, .int .u32 x.med, .int .i64 x.origin, .int .u32 x.hop] 27)).alloc (.cells #[.int .u32 y.addr, .int .i64 y.len, .slice ao3 y.path.length cap3, .slice ao4 y.comms.length cap4, .int .u32 y.pref, .int .u32 y.med, .int .i64 y.origin, .int .u32 y.hop] 27) = W := hW.symm
  clear hW
  go_enter Try.func19, Try.ntmps19
  go_wp2_with fail
  clear hW2
  have hd := fun W => decide8 W d0 d1 d2 d3 d4 d5 d6 d7 q HQ.out
  clear HQ
  go_region_held3 (fun w' => w'.cell? ⟨w.heap.size, 0, none⟩ = some (.int .u32 x.addr) ∧ w'.cell? ⟨w.heap.size, 1, none⟩ = some (.int .i64 x.len) ∧ w'.cell? ⟨w.heap.size, 2, none⟩ = some (.slice ao1 x.path.length cap1) ∧ w'.cell? ⟨w.heap.size, 3, none⟩ = some (.slice ao2 x.comms.length cap2) ∧ w'.cell? ⟨w.heap.size, 4, none⟩ = some (.int .u32 x.pref) ∧ w'.cell? ⟨w.heap.size, 5, none⟩ = some (.int .u32 x.med) ∧ w'.cell? ⟨w.heap.size, 6, none⟩ = some (.int .i64 x.origin) ∧ w'.cell? ⟨w.heap.size, 7, none⟩ = some (.int .u32 x.hop) ∧ w'.cell? ⟨w.heap.size + 1, 0, none⟩ = some (.int .u32 y.addr) ∧ w'.cell? ⟨w.heap.size + 1, 1, none⟩ = some (.int .i64 y.len) ∧ w'.cell? ⟨w.heap.size + 1, 2, none⟩ = some (.slice ao3 y.path.length cap3) ∧ w'.cell? ⟨w.heap.size + 1, 3, none⟩ = some (.slice ao4 y.comms.length cap4) ∧ w'.cell? ⟨w.heap.size + 1, 4, none⟩ = some (.int .u32 y.pref) ∧ w'.cell? ⟨w.heap.size + 1, 5, none⟩ = some (.int .u32 y.med) ∧ w'.cell? ⟨w.heap.size + 1, 6, none⟩ = some (.int .i64 y.origin) ∧ w'.cell? ⟨w.heap.size + 1, 7, none⟩ = some (.int .u32 y.hop)) (go_keep)
   (first
    | (go_at_call 34; first
        | ((with_reducible refine (n0 _).mono ?_); rintro e w0 ⟨rfl, h0⟩; rw [h0]; clear h0 w0)
        | ((with_reducible refine (n4 _).mono ?_); rintro e w0 ⟨rfl, h0⟩; rw [h0]; clear h0 w0)
        | ((with_reducible refine (n5 _).mono ?_); rintro e w0 ⟨rfl, h0⟩; rw [h0]; clear h0 w0)
        | ((with_reducible refine (n7 _).mono ?_); rintro e w0 ⟨rfl, h0⟩; rw [h0]; clear h0 w0))
    | (go_at_call 35; first
        | ((with_reducible refine (n1 _).mono ?_); rintro e w0 ⟨rfl, h0⟩; rw [h0]; clear h0 w0)
        | ((with_reducible refine (n6 _).mono ?_); rintro e w0 ⟨rfl, h0⟩; rw [h0]; clear h0 w0))
    | (go_at_call 36; first
        | ((with_reducible refine lp.mono ?_); rintro e w0 ⟨rfl, h0⟩; rw [h0]; clear h0 w0)
        | ((with_reducible refine lc.mono ?_); rintro e w0 ⟨rfl, h0⟩; rw [h0]; clear h0 w0))
    | (go_at_call 33; refine (hd _).mono ?_; rintro e w2 ⟨rfl, h0⟩; rw [h0]; clear h0 w2))
  go_wp2_with fail
  go_ret
  exact ⟨rfl, (HWg.out.alloc _).drewN 1⟩
end Go.Proofs.Ytaaaccgakahapaa
