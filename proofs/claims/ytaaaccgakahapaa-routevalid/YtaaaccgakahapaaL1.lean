/-
  The walk of the law RouteValid.
-/
import Derived.Test.YtaaaccgakahapaaAlv
namespace Go.Proofs.Ytaaaccgakahapaa
open Go.RowKit

set_option maxHeartbeats 4000000 in
theorem law_valid (x : Rt) (u v : Value) (w : World) (hx : Ok x) (sx : Short x) (rx : Rts w x u v) :
    Calls Try.prog 3 #[rv x u v] w fun e w' => e = .returned (.bool true) ∧ Below w.heap.size w w' := by
  have hmx : Try.prog.follows .mixedOrders = true := by kernel_rfl
  obtain ⟨ao1, cap1, rfl⟩ := rx.p.form
  obtain ⟨ao2, cap2, rfl⟩ := rx.c.form
  obtain ⟨W, hW⟩ : ∃ W, W = w.alloc (.cells #[.int .u32 x.addr, .int .i64 x.len, .slice ao1 x.path.length cap1, .slice ao2 x.comms.length cap2, .int .u32 x.pref, .int .u32 x.med, .int .i64 x.origin, .int .u32 x.hop] 27) := ⟨_, rfl⟩
  have HW2 : Hid (w.alloc (.cells #[.int .u32 x.addr, .int .i64 x.len, .slice ao1 x.path.length cap1, .slice ao2 x.comms.length cap2, .int .u32 x.pref, .int .u32 x.med, .int .i64 x.origin, .int .u32 x.hop] 27) = W) := hW.symm
  have BW : Below w.heap.size w W := by rw [hW]; exact (Below.refl _ _).alloc (Nat.le_refl _) _
  have k0 : Hid (BlkR W w.heap.size x (.slice ao1 x.path.length cap1) (.slice ao2 x.comms.length cap2)) := by rw [hW]; exact BlkR.new w x (.slice ao1 x.path.length cap1) (.slice ao2 x.comms.length cap2)
  have h1 := alive_any W
  have HR : Hid (Rts W x (.slice ao1 x.path.length cap1) (.slice ao2 x.comms.length cap2)) := rx.bel BW
  have HB : Hid (Below w.heap.size w W) := BW
  have HX : Hid (Ok x) := hx
  have HS : Hid (Short x) := sx
  clear BW hW rx hx sx
  unfold rv
  go_enter Try.func3, Try.ntmps3
  go_wp2_with fail
  rw [HW2.out]
  clear HW2
  refine h1.mono ?_
  rintro e w1 ⟨rfl, B1⟩
  have R1 := HR.out.bel B1
  have K1 := (k0.out.bel B1).held
  have V1 := fun n os => valid_any x (.slice ao1 x.path.length cap1) (.slice ao2 x.comms.length cap2) (Sort.grow (w1.drewN n) os) HX.out HS.out (R1.gr ⟨n, os, rfl⟩)
  have V2 := fun n os => rvalid_any x (.slice ao1 x.path.length cap1) (.slice ao2 x.comms.length cap2) (Sort.grow (w1.drewN n) os) HX.out HS.out (R1.gr ⟨n, os, rfl⟩)
  have M1 := fun n os => mask_any x.addr x.len HX.out.addr (Sort.grow (w1.drewN n) os)
  have M2 := fun n os => rmask_any x.addr x.len HX.out.addr (Sort.grow (w1.drewN n) os)
  have f0 := fun n os => (K1.gr ⟨n, os, rfl⟩ : HeldR (Sort.grow (w1.drewN n) os) _ _ _ _).c0
  have f1 := fun n os => (K1.gr ⟨n, os, rfl⟩ : HeldR (Sort.grow (w1.drewN n) os) _ _ _ _).c1
  have f2 := fun n os => (K1.gr ⟨n, os, rfl⟩ : HeldR (Sort.grow (w1.drewN n) os) _ _ _ _).c2
  have f3 := fun n os => (K1.gr ⟨n, os, rfl⟩ : HeldR (Sort.grow (w1.drewN n) os) _ _ _ _).c3
  have f4 := fun n os => (K1.gr ⟨n, os, rfl⟩ : HeldR (Sort.grow (w1.drewN n) os) _ _ _ _).c4
  have f5 := fun n os => (K1.gr ⟨n, os, rfl⟩ : HeldR (Sort.grow (w1.drewN n) os) _ _ _ _).c5
  have f6 := fun n os => (K1.gr ⟨n, os, rfl⟩ : HeldR (Sort.grow (w1.drewN n) os) _ _ _ _).c6
  have f7 := fun n os => (K1.gr ⟨n, os, rfl⟩ : HeldR (Sort.grow (w1.drewN n) os) _ _ _ _).c7
  have heq : ∀ W, (binOp .eql 24 (.agg #[.int .u32 (maskA x.addr x.len), .int .i64 (clampL x.len)]) (.agg #[.int .u32 (maskA x.addr x.len), .int .i64 (clampL x.len)])).run Try.prog W = .ok (.bool true) W := fun W => by rw [eql24]; simp
  have D1 : Hid (Below w.heap.size w w1) := HB.out.trans (B1.mono HB.out.size)
  unfold rv at V1 V2
  generalize validR x = q at *
  generalize maskA x.addr x.len = z at *
  generalize clampL x.len = c at *
  have hqq : (q == q) = true := by simp
  clear h1 B1 R1 K1 HB HR k0 HX HS
  go_wp2_with fail
  go_quiet_grown (first
    | (go_at_call 9; with_reducible refine Calls.grown_of (V1 _ _))
    | (go_at_call 10; with_reducible refine Calls.grown_of (V2 _ _))
    | (go_at_call 11; with_reducible refine Calls.grown_of (M1 _ _))
    | (go_at_call 12; with_reducible refine Calls.grown_of (M2 _ _)))
  go_wp2_with fail
  go_ret
  exact ⟨rfl, below_grow D1.out D1.out.size _ _⟩
end Go.Proofs.Ytaaaccgakahapaa
