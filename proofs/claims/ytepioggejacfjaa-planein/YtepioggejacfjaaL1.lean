/-
  The walk of the law PlaneIn.
-/
import Derived.Test.YtepioggejacfjaaAlv
import Derived.Test.YtepioggejacfjaaMee
namespace Go.Proofs.Ytepioggejacfjaa
open Go.RowKit


set_option maxHeartbeats 2000000 in
theorem law_in (v : Value) (l : List Sp) (c : Int) (w : World) (hl : l.length < 4611686018427387904) (hg : Good l) (hn : Num c) (hv : Row2 w v l) :
    Calls Try.prog 3 #[v, .int .u32 c] w fun e w' => e = .returned (.bool true) ∧ Below w.heap.size w w' := by
  have HV : Hid (Row2 w v l) := hv
  have HG : Hid (Good l) := hg
  have HN : Hid (Num c) := hn
  obtain ⟨ao, cap, rfl, hr, _⟩ := hv
  clear hg hn
  have hmx : Try.prog.follows .mixedOrders = true := by kernel_rfl
  go_enter Try.func3, Try.ntmps3
  go_wp2_with fail
  refine (alive_any w).mono ?_
  rintro e w1 ⟨rfl, B1⟩
  go_wp2_with fail
  go_loopw [11] (fun i wr => ∃ k : Nat, k ≤ l.length ∧ i = .int .i64 k ∧ Below w.heap.size w wr) (fun i _ => l.length - (intOf i).toNat)
  case atStart => exact ⟨0, Nat.zero_le _, rfl, B1⟩
  case round =>
    clear B1
    obtain ⟨k, hk, rfl, hB⟩ := hrel
    have hB' := hB.size
    by_cases hlt : k < l.length
    · obtain ⟨b, off, rfl, hb, hcell⟩ := hr (ne_nil_of_lt hlt)
      obtain ⟨x, hx⟩ : ∃ x, l[k]? = some x := ⟨_, List.getElem?_eq_getElem hlt⟩
      obtain ⟨c1, c2⟩ := hcell k x hx
      have c1' : wr.cell? ⟨b, off + k * 2, none⟩ = some (.int .u32 x.1) := (hB.cell (by exact hb)).trans c1
      have c2' : wr.cell? ⟨b, off + k * 2 + 1, none⟩ = some (.int .u32 x.2) := (hB.cell (by exact hb)).trans c2
      have k1 := fun W => in_any x c (HG.out.at hx) HN.out W
      have k2 := fun W => rin_any x c (HG.out.at hx) HN.out W
      obtain ⟨W, hW⟩ : ∃ W, W = wr.alloc (.cells #[.int .u32 x.1, .int .u32 x.2] 26) := ⟨_, rfl⟩
      have e0 : W.cell? ⟨wr.heap.size, 0, none⟩ = some (.int .u32 x.1) := by rw [hW]; simp [go_sem]
      have e1 : W.cell? ⟨wr.heap.size, 1, none⟩ = some (.int .u32 x.2) := by rw [hW]; simp [go_sem]
      have sW : W.heap.size = wr.heap.size + 1 := by rw [hW]; simp
      have BW : Below w.heap.size w W := by rw [hW]; exact hB.alloc hB' _
      have f0 := fun n os => cell_grown (w := W) (a := ⟨wr.heap.size, 0, none⟩) (by rw [sW]; simp) e0 n os
      have f1 := fun n os => cell_grown (w := W) (a := ⟨wr.heap.size, 1, none⟩) (by rw [sW]; simp) e1 n os
      clear hr hcell c1 c2 hx e0 e1
      generalize inB x c = q at *
      have hqq : (q != q) = false := by simp
      go_wp2_with fail
      rw [← hW]
      have HW : Hid (W.heap.size = wr.heap.size + 1) := sW
      clear hW sW
      go_quiet_grown (first | (go_at_call 9; with_reducible refine Calls.grown_of (k1 _)) | (go_at_call 10; with_reducible refine Calls.grown_of (k2 _)))
      go_wp2_with fail
      go_roundw
      case rel => exact ⟨k + 1, by omega, by go_num, below_grow BW (by rw [HW.out]; omega) _ _⟩
      case measure => simp [intOf]; omega
    · have h1 := any_any _ l c wr (by omega) HG.out HN.out (HV.out.kept hB (Nat.le_refl _))
      clear hr
      go_wp2_with fail
      refine h1.mono ?_
      rintro e w2 ⟨rfl, B2'⟩
      have B2 := bstep hB B2'
      have h2 := rany_any _ l c w2 hl HG.out HN.out (HV.out.kept B2 (Nat.le_refl _))
      generalize anyB l c = q at *
      have hqq : (q == q) = true := by simp
      clear h1 B2'
      go_wp2_with fail
      refine h2.mono ?_
      rintro e w3 ⟨rfl, B3'⟩
      have B3 := bstep B2 B3'
      clear h2 B3'
      go_wp2_with fail
      go_ret
      exact ⟨rfl, B3⟩
end Go.Proofs.Ytepioggejacfjaa
