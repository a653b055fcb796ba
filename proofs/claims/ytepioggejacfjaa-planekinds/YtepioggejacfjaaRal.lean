/-
  The walks of the document's own Any and Alike.
-/
import Derived.Test.YtepioggejacfjaaRbeg
namespace Go.Proofs.Ytepioggejacfjaa
open Go.RowKit

/-- In one of some boxes? -/
def anyB (l : List Sp) (c : Int) : Bool := l.any fun s => inB s c

theorem anyB_take_succ {l : List Sp} {k : Nat} {x : Sp} {c : Int} (hx : l[k]? = some x) : anyB (l.take (k + 1)) c = (anyB (l.take k) c || inB x c) := by
  rw [take_succ_of hx]
  simp [anyB]

theorem anyB_of {l : List Sp} {k : Nat} {x : Sp} {c : Int} (hx : l[k]? = some x) (h : inB x c = true) : anyB l c = true :=
  List.any_eq_true.2 ⟨x, List.mem_of_getElem? hx, h⟩

theorem alike_take_succ {l : List Sp} {k : Nat} {x : Sp} {c d : Int} (hx : l[k]? = some x) : alike (l.take (k + 1)) c d = (alike (l.take k) c d && (inB x c == inB x d)) := by
  rw [take_succ_of hx]
  simp [alike]

theorem alike_not {l : List Sp} {k : Nat} {x : Sp} {c d : Int} (hx : l[k]? = some x) (h : inB x c ≠ inB x d) : alike l c d = false := by
  cases e : alike l c d with
  | false => rfl
  | true => exact absurd (alike_iff.1 e x (List.mem_of_getElem? hx)) h

set_option maxHeartbeats 1000000 in
theorem rany_any (v : Value) (l : List Sp) (c : Int) (w : World) (hl : l.length < 4611686018427387904) (hg : Good l) (hc : Num c) (hv : Row2 w v l) :
    Calls Try.prog 12 #[v, .int .u32 c] w fun e w' => e = .returned (.bool (anyB l c)) ∧ Below w.heap.size w w' := by
  obtain ⟨ao, cap, rfl, hr, _⟩ := hv
  have HG : Hid (Good l) := hg
  have HN : Hid (Num c) := hc
  clear hg hc
  go_enter Try.func12, Try.ntmps12
  go_wp2_with fail
  go_loopw [9] (fun i wr => ∃ k : Nat, k ≤ l.length ∧ i = .int .i64 k ∧ anyB (l.take k) c = false ∧ Below w.heap.size w wr) (fun i _ => l.length - (intOf i).toNat)
  case atStart => exact ⟨0, Nat.zero_le _, rfl, rfl, Below.refl _ _⟩
  case round =>
    obtain ⟨k, hk, rfl, hin, hB⟩ := hrel
    have HI : Hid (anyB (l.take k) c = false) := hin
    have hB' := hB.size
    clear hin
    by_cases hlt : k < l.length
    · obtain ⟨b, off, rfl, hb, hcell⟩ := hr (ne_nil_of_lt hlt)
      obtain ⟨x, hx⟩ : ∃ x, l[k]? = some x := ⟨_, List.getElem?_eq_getElem hlt⟩
      obtain ⟨c1, c2⟩ := hcell k x hx
      have c1' : wr.cell? ⟨b, off + k * 2, none⟩ = some (.int .u32 x.1) := (hB.cell (by exact hb)).trans c1
      have c2' : wr.cell? ⟨b, off + k * 2 + 1, none⟩ = some (.int .u32 x.2) := (hB.cell (by exact hb)).trans c2
      have HX : Hid (l[k]? = some x) := hx
      have hcall := fun W => rin_any x c (HG.out.at hx) HN.out W
      clear hr hcell c1 c2 hx
      go_wp2_with fail
      refine (hcall _).mono ?_
      rintro e w1 ⟨rfl, hgr⟩
      have B1 : Below w.heap.size w w1 := (hB.alloc hB' _).trans ((Grown.below hgr).mono (by simp; omega))
      clear hcall hgr
      cases hq : inB x c with
      | true =>
        go_wp2_with fail
        go_ret
        exact ⟨ret_bool (by rw [anyB_of HX.out hq]), B1⟩
      | false =>
        go_wp2_with fail
        go_roundw
        case rel => exact ⟨k + 1, by omega, by go_num, by rw [anyB_take_succ HX.out, HI.out, hq]; rfl, B1⟩
        case measure => simp [intOf]; omega
    · have e : l.take k = l := List.take_of_length_le (by omega)
      have HI2 : Hid (anyB l c = false) := by have := HI.out; rw [e] at this; exact this
      clear e HI hr
      go_wp2_with fail
      go_ret
      exact ⟨ret_bool HI2.out.symm, hB⟩

set_option maxHeartbeats 1000000 in
theorem alike_any (v : Value) (l : List Sp) (c d : Int) (w : World) (hl : l.length ≤ 64) (hg : Good l) (hc : Num c) (hd : Num d) (hv : Row2 w v l) :
    Calls Try.prog 29 #[v, .int .u32 c, .int .u32 d] w fun e w' => e = .returned (.bool (alike l c d)) ∧ Below w.heap.size w w' := by
  obtain ⟨ao, cap, rfl, hr, _⟩ := hv
  have HG : Hid (Good l) := hg
  have HN : Hid (Num c) := hc
  have HD : Hid (Num d) := hd
  clear hg hc hd
  go_enter Try.func29, Try.ntmps29
  go_wp2_with fail
  go_loopw [11] (fun i wr => ∃ k : Nat, k ≤ l.length ∧ i = .int .i64 k ∧ alike (l.take k) c d = true ∧ Below w.heap.size w wr) (fun i _ => l.length - (intOf i).toNat)
  case atStart => exact ⟨0, Nat.zero_le _, rfl, rfl, Below.refl _ _⟩
  case round =>
    obtain ⟨k, hk, rfl, hin, hB⟩ := hrel
    have HI : Hid (alike (l.take k) c d = true) := hin
    have hB' := hB.size
    clear hin
    by_cases hlt : k < l.length
    · obtain ⟨b, off, rfl, hb, hcell⟩ := hr (ne_nil_of_lt hlt)
      obtain ⟨x, hx⟩ : ∃ x, l[k]? = some x := ⟨_, List.getElem?_eq_getElem hlt⟩
      obtain ⟨c1, c2⟩ := hcell k x hx
      have c1' : wr.cell? ⟨b, off + k * 2, none⟩ = some (.int .u32 x.1) := (hB.cell (by exact hb)).trans c1
      have c2' : wr.cell? ⟨b, off + k * 2 + 1, none⟩ = some (.int .u32 x.2) := (hB.cell (by exact hb)).trans c2
      have HX : Hid (l[k]? = some x) := hx
      have k1 := fun W => rin_any x c (HG.out.at hx) HN.out W
      have k2 := fun W => rin_any x d (HG.out.at hx) HD.out W
      obtain ⟨W, hW⟩ : ∃ W, W = wr.alloc (.cells #[.int .u32 x.1, .int .u32 x.2] 26) := ⟨_, rfl⟩
      have e0 : W.cell? ⟨wr.heap.size, 0, none⟩ = some (.int .u32 x.1) := by rw [hW]; simp [go_sem]
      have e1 : W.cell? ⟨wr.heap.size, 1, none⟩ = some (.int .u32 x.2) := by rw [hW]; simp [go_sem]
      have sW : W.heap.size = wr.heap.size + 1 := by rw [hW]; simp
      have BW : Below w.heap.size w W := by rw [hW]; exact hB.alloc hB' _
      have f0 := fun n os => cell_grown (w := W) (a := ⟨wr.heap.size, 0, none⟩) (by rw [sW]; simp) e0 n os
      have f1 := fun n os => cell_grown (w := W) (a := ⟨wr.heap.size, 1, none⟩) (by rw [sW]; simp) e1 n os
      clear hr hcell c1 c2 hx e0 e1
      generalize hq1 : inB x c = q1 at *
      generalize hq2 : inB x d = q2 at *
      have HQ : Hid (alike (l.take (k + 1)) c d = (q1 == q2)) := by
        show alike (l.take (k + 1)) c d = (q1 == q2)
        rw [alike_take_succ HX.out, HI.out, hq1, hq2]
        rfl
      have HQ2 : Hid (q1 ≠ q2 → alike l c d = false) := fun h => alike_not HX.out (by rw [hq1, hq2]; exact h)
      clear hq1 hq2
      go_wp2_with fail
      rw [← hW]
      have HW : Hid (W.heap.size = wr.heap.size + 1) := sW
      clear hW sW
      have hmx : Try.prog.follows .mixedOrders = true := by kernel_rfl
      cases q1 <;> cases q2
      all_goals
        go_quiet_grown (first | (go_at_call 10; with_reducible refine Calls.grown_of (k1 _)) | (go_at_call 10; with_reducible refine Calls.grown_of (k2 _)))
        go_wp2_with fail
        first
        | (go_ret
           exact ⟨ret_bool (by rw [HQ2.out (by simp)]), below_grow BW (by rw [HW.out]; omega) _ _⟩)
        | (go_roundw
           case rel => exact ⟨k + 1, by omega, by go_num, HQ.out, below_grow BW (by rw [HW.out]; omega) _ _⟩
           case measure => simp [intOf]; omega)
    · have e : l.take k = l := List.take_of_length_le (by omega)
      have HI2 : Hid (alike l c d = true) := by have := HI.out; rw [e] at this; exact this
      clear e HI hr
      go_wp2_with fail
      go_ret
      exact ⟨ret_bool HI2.out.symm, hB⟩
end Go.Proofs.Ytepioggejacfjaa
