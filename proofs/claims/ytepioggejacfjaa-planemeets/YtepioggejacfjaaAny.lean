/-
  The walks of Any and of the document's own Nums.
-/
import Derived.Test.YtepioggejacfjaaRal
import Derived.Test.YtepioggejacfjaaLay2
import Derived.LoopN
namespace Go.Proofs.Ytepioggejacfjaa
open Go.RowKit Go.Shelf

abbrev UB := UInt32 × UInt32

/-- A box as two numbers of the machine's. -/
def toU (x : Sp) : UB := (UInt32.ofNat x.1.toNat, UInt32.ofNat x.2.toNat)
def ofU (u : UB) : Sp := ((u.1.toNat : Int), (u.2.toNat : Int))

theorem ofU_toU {x : Sp} (h : Bx x) : ofU (toU x) = x := by
  obtain ⟨⟨h1, h2⟩, ⟨h3, h4⟩⟩ := h
  unfold ofU toU
  have e1 : (UInt32.ofNat x.1.toNat).toNat = x.1.toNat := by
    rw [UInt32.toNat_ofNat']
    exact Nat.mod_eq_of_lt (by omega)
  have e2 : (UInt32.ofNat x.2.toNat).toNat = x.2.toNat := by
    rw [UInt32.toNat_ofNat']
    exact Nat.mod_eq_of_lt (by omega)
  simp only [e1, e2]
  exact Prod.ext (by simp; omega) (by simp; omega)

theorem ofU_bx (u : UB) : Bx (ofU u) := by
  have h1 := u.1.toNat_lt
  have h2 := u.2.toNat_lt
  unfold ofU Bx Num
  simp only
  omega

/-- Its two cells. -/
def encU (u : UB) : List Value := [.int .u32 (ofU u).1, .int .u32 (ofU u).2]

set_option maxHeartbeats 400000 in
theorem closure_any (B : Nat) (x : Sp) (c : Int) (hx : Bx x) (hn : Num c) (W : World) (hB : B < W.heap.size) (hc : W.cell? ⟨B, 0, none⟩ = some (.int .u32 c)) :
    Calls Try.prog 22 #[.agg #[.int .u32 x.1, .int .u32 x.2], .pointer (some ⟨B, 0, none⟩)] W fun e w' => e = .returned (.bool (inB x c)) ∧ Below W.heap.size W w' := by
  have hcall := fun W => in_any x c hx hn W
  go_enter Try.func22, Try.ntmps22
  go_wp2_with fail
  refine (hcall _).mono ?_
  rintro e w1 ⟨rfl, hgr⟩
  have B1 : Below W.heap.size W w1 := ((Below.refl _ _).alloc (Nat.le_refl _) (.cells #[.int .u32 x.1, .int .u32 x.2] 26)).trans ((Grown.below hgr).mono (by simp))
  clear hcall hgr
  go_wp2_with fail
  go_ret
  exact ⟨rfl, B1⟩

set_option maxHeartbeats 400000 in
theorem index_empty (ao : Option Addr) (cap : Nat) (f : Value) (w : World) :
    Calls Try.prog 30 #[.slice ao 0 cap, f] w fun e w' => e = .returned (.int .i64 (-1)) ∧ w' = w := by
  go_enter Try.func30, Try.ntmps30
  go_wp2_with fail
  refine wp_loop_rounds 1 ?_
  rw [rounds_succ]
  go_wp2_with fail
  go_ret
  exact ⟨rfl, rfl⟩

set_option maxHeartbeats 400000 in
theorem contains_empty (ao : Option Addr) (cap : Nat) (f : Value) (w : World) :
    Calls Try.prog 21 #[.slice ao 0 cap, f] w fun e w' => e = .returned (.bool false) ∧ w' = w := by
  have hcall := fun f W => index_empty ao cap f W
  go_enter Try.func21, Try.ntmps21
  go_wp2_with (go_at_call 30; refine (hcall _ _).mono ?_; rintro e w1 ⟨rfl, rfl⟩)
  go_ret
  exact ⟨rfl, rfl⟩

theorem contains_any (B b off cap : Nat) (l : List Sp) (c : Int) (w : World) (hl : l.length ≤ 9223372036854775807) (hg : Good l) (hn : Num c) (hB : B < w.heap.size) (hc : w.cell? ⟨B, 0, none⟩ = some (.int .u32 c)) (hb : b < w.heap.size)
    (hcell : ∀ i x, l[i]? = some x → w.cell? ⟨b, off + i * 2, none⟩ = some (.int .u32 x.1) ∧ w.cell? ⟨b, off + i * 2 + 1, none⟩ = some (.int .u32 x.2)) :
    Calls Try.prog 21 #[.slice (some ⟨b, off, none⟩) l.length cap, .func (.func 22) #[] #[.pointer (some ⟨B, 0, none⟩)]] w fun e w' => e = .returned (.bool (anyB l c)) ∧ Below w.heap.size w w' := by
  have h := AnyQ.slices_ContainsFunc Try.contB 2 Try.isAgg26 Try.sizeOf26 encU (fun _ => rfl) (fun u => inB (ofU u) c) 22 #[.pointer (some ⟨B, 0, none⟩)] (enters_of Try.func22 (by kernel_rfl) rfl) b off l.length cap (l.map toU) w
    (fun W u hW => (closure_any B (ofU u) c (ofU_bx u) hn W (Nat.lt_of_lt_of_le hB hW.size) ((hW.cell (by exact hB)).trans hc)).mono fun _ _ ⟨h1, h2⟩ => ⟨h1, hW.trans (h2.mono hW.size)⟩)
    (by simp) hl hb (fun j hj i v hv => by
      have hj' : j < l.length := by simpa using hj
      have hx : l[j]? = some l[j] := List.getElem?_eq_getElem hj'
      obtain ⟨c1, c2⟩ := hcell j _ hx
      have e : (l.map toU)[j]! = toU l[j] := by rw [getElem!_pos _ j hj]; simp
      rw [e] at hv
      unfold encU at hv
      rw [ofU_toU (hg.at hx)] at hv
      match i with
      | 0 => simp at hv; subst hv; exact c1
      | 1 => simp at hv; subst hv; exact c2
      | i + 2 => simp at hv)
  have e : ((l.map toU).take l.length).any (fun u => inB (ofU u) c) = anyB l c := by
    rw [List.take_of_length_le (by simp), List.any_map]
    unfold anyB
    rw [Bool.eq_iff_iff, List.any_eq_true, List.any_eq_true]
    constructor
    · rintro ⟨x, hx, h⟩
      obtain ⟨k, hk⟩ := List.mem_iff_getElem?.1 hx
      exact ⟨x, hx, by simpa [ofU_toU (hg.at hk)] using h⟩
    · rintro ⟨x, hx, h⟩
      obtain ⟨k, hk⟩ := List.mem_iff_getElem?.1 hx
      exact ⟨x, hx, by simpa [ofU_toU (hg.at hk)] using h⟩
  rw [e] at h
  exact h

set_option maxHeartbeats 400000 in
theorem any_any (v : Value) (l : List Sp) (c : Int) (w : World) (hl : l.length ≤ 9223372036854775807) (hg : Good l) (hn : Num c) (hv : Row2 w v l) :
    Calls Try.prog 11 #[v, .int .u32 c] w fun e w' => e = .returned (.bool (anyB l c)) ∧ Below w.heap.size w w' := by
  obtain ⟨ao, cap, rfl, hc, _⟩ := hv
  by_cases hne : l = []
  · subst hne
    have hcall := fun f W => contains_empty ao cap f W
    go_enter Try.func11, Try.ntmps11
    go_wp2_with (go_at_call 21; refine (hcall _ _).mono ?_; rintro e w1 ⟨rfl, rfl⟩)
    go_ret
    exact ⟨rfl, (Below.refl _ _).alloc (Nat.le_refl _) _⟩
  · obtain ⟨b, off, rfl, hb, hcell⟩ := hc hne
    have B0 : Below w.heap.size w (w.alloc (.cells #[.int .u32 c] 23)) := (Below.refl _ _).alloc (Nat.le_refl _) _
    have hcall := contains_any w.heap.size b off cap l c (w.alloc (.cells #[.int .u32 c] 23)) hl hg hn (by simp) (by simp [go_sem]) (by simp; omega) (fun i x hx => by
      obtain ⟨c1, c2⟩ := hcell i x hx
      exact ⟨(B0.cell (by exact hb)).trans c1, (B0.cell (by exact hb)).trans c2⟩)
    clear hc hcell hg hn
    go_enter Try.func11, Try.ntmps11
    go_wp2_with fail
    refine hcall.mono ?_
    rintro e w1 ⟨rfl, B1⟩
    have B2 : Below w.heap.size w w1 := B0.trans (B1.mono (by simp))
    clear hcall B1 B0
    go_wp2_with fail
    go_ret
    exact ⟨rfl, B2⟩

set_option maxHeartbeats 1000000 in
theorem nums_any (v u : Value) (l m : List Int) (w : World) (hl : l.length ≤ 4294967296) (hv : Row1 w v l) (hu : Row1 w u m) :
    Calls Try.prog 17 #[v, u] w fun e w' => e = .returned (.bool (decide (l = m))) ∧ Below w.heap.size w w' := by
  obtain ⟨ao, cap, rfl, hc⟩ := hv
  obtain ⟨ao2, cap2, rfl, hc2⟩ := hu
  by_cases hlen : l.length = m.length
  case neg =>
    have hne : ((l.length : Int) != (m.length : Int)) = true := by rw [bne_iff_ne]; omega
    have e : decide (l = m) = false := by simp; intro h; rw [h] at hlen; exact hlen rfl
    rw [e]
    clear e hc hc2 hlen
    go_enter Try.func17, Try.ntmps17
    go_wp2
    go_ret
    exact ⟨rfl, Below.refl _ _⟩
  have hne : ((l.length : Int) != (l.length : Int)) = false := by simp
  rw [← hlen]
  have HL : Hid (l.length = m.length) := hlen
  clear hlen
  go_enter Try.func17, Try.ntmps17
  go_wp2
  go_loopw [13] (fun i wr => ∃ k : Nat, k ≤ l.length ∧ i = .int .i64 k ∧ l.take k = m.take k ∧ Below w.heap.size w wr) (fun i _ => l.length - (intOf i).toNat)
  case atStart => exact ⟨0, Nat.zero_le _, rfl, by simp, Below.refl _ _⟩
  case round =>
    obtain ⟨k, hk, rfl, hin, hB⟩ := hrel
    by_cases hlt : k < l.length
    · obtain ⟨b, off, rfl, hb, hcell⟩ := hc (ne_nil_of_lt hlt)
      obtain ⟨b2, off2, rfl, hb2, hcell2⟩ := hc2 (ne_nil_of_lt (k := k) (by rw [← HL.out]; exact hlt))
      obtain ⟨x, hx⟩ : ∃ x, l[k]? = some x := ⟨_, List.getElem?_eq_getElem hlt⟩
      obtain ⟨y, hy⟩ : ∃ y, m[k]? = some y := ⟨_, List.getElem?_eq_getElem (by rw [← HL.out]; exact hlt)⟩
      have c1' : ∀ q, (wr.drewN q).cell? ⟨b, off + k, none⟩ = some (.int .u32 x) := fun _ => (hB.cell (by exact hb)).trans (hcell k x hx)
      have d1' : ∀ q, (wr.drewN q).cell? ⟨b2, off2 + k, none⟩ = some (.int .u32 y) := fun _ => (hB.cell (by exact hb2)).trans (hcell2 k y hy)
      have HX : Hid (l[k]? = some x) := hx
      have HY : Hid (m[k]? = some y) := hy
      have HI : Hid (l.take k = m.take k) := hin
      by_cases hxy : x = y
      · have hq : (x != y) = false := by simp [hxy]
        have HE : Hid (x = y) := hxy
        clear hc hcell hx hin hc2 hcell2 hy hxy
        go_wp2
        go_quiet (fail)
        go_wp2
        go_roundw
        case rel => exact ⟨k + 1, by omega, by go_num, by rw [take_succ_of HX.out, take_succ_of HY.out, HI.out, HE.out], below_drewN hB _⟩
        case measure => simp [intOf]; omega
      · have hq : (x != y) = true := by simp [hxy]
        have HE : Hid (decide (l = m) = false) := by
          refine decide_eq_false ?_
          intro h
          rw [h] at hx
          rw [hy] at hx
          exact hxy (by injection hx with h; exact h.symm)
        clear hc hcell hx hin hc2 hcell2 hy hxy
        go_wp2
        go_quiet (fail)
        go_wp2
        go_ret
        exact ⟨ret_bool HE.out.symm, below_drewN hB _⟩
    · have e : l = m := by
        rw [List.take_of_length_le (by omega), List.take_of_length_le (by rw [← HL.out]; omega)] at hin
        exact hin
      subst e
      clear hc hc2 hin
      go_wp2
      go_ret
      exact ⟨ret_bool (by simp), hB⟩
end Go.Proofs.Ytepioggejacfjaa
