/-
  The walk of the law PlaneKinds.
-/
import Derived.Test.YtepioggejacfjaaMee
import Derived.Deep.RegionHeld3
namespace Go.Proofs.Ytepioggejacfjaa
open Go.RowKit

/-- How many of a list are of a community's kind. -/
def cntA (l : List Sp) (c : Int) (o : List Int) : Nat := (o.filter fun d => alike l c d).length

theorem cntA_take_succ {l : List Sp} {c : Int} {o : List Int} {k : Nat} {d : Int} (hd : o[k]? = some d) : cntA l c (o.take (k + 1)) = cntA l c (o.take k) + (if alike l c d then 1 else 0) := by
  unfold cntA
  rw [take_succ_of hd, List.filter_append, List.length_append]
  cases h : alike l c d <;> simp [h]

theorem cntA_le (l : List Sp) (c : Int) (o : List Int) (k : Nat) : cntA l c (o.take k) ≤ k := by
  unfold cntA
  have := List.length_filter_le (fun d => alike l c d) (o.take k)
  simp at this ⊢
  omega

theorem cnt_one {l : List Sp} {c : Int} {o : List Int} (ha : Apart l o) (h : ∃ d ∈ o, alike l c d = true) : cntA l c o = 1 := by
  unfold cntA
  have hp : (o.filter fun d => alike l c d).Pairwise fun x y => alike l x y = false := List.Pairwise.filter _ ha
  have hm : ∀ x ∈ o.filter fun d => alike l c d, alike l c x = true := fun x hx => (List.mem_filter.1 hx).2
  obtain ⟨d, hd, hk⟩ := h
  have hin : d ∈ o.filter fun d => alike l c d := List.mem_filter.2 ⟨hd, hk⟩
  generalize (o.filter fun d => alike l c d) = t at *
  match t, hp, hm, hin with
  | [], _, _, hin => simp at hin
  | [x], _, _, _ => rfl
  | x :: y :: r, hp, hm, _ =>
    have h1 := (List.pairwise_cons.1 hp).1 y (by simp)
    have h2 := alike_trans (alike_symm (hm x (by simp))) (hm y (by simp))
    rw [h2] at h1
    cases h1

theorem kind_le {l : List Sp} {c d : Int} {o : List Int} (ha : Apart l o) (h : ∃ e ∈ o, alike l c e = true ∧ e ≤ c) (hd : d ∈ o) (hk : alike l c d = true) : d ≤ c := by
  obtain ⟨e, he, h1, h2⟩ := h
  by_cases hde : d = e
  · omega
  · have h3 := alike_trans (alike_symm hk) h1
    have h4 := alike_trans (alike_symm h1) hk
    obtain ⟨i, hi⟩ := List.mem_iff_getElem?.1 hd
    obtain ⟨j, hj⟩ := List.mem_iff_getElem?.1 he
    obtain ⟨hi', rfl⟩ := List.getElem?_eq_some_iff.1 hi
    obtain ⟨hj', rfl⟩ := List.getElem?_eq_some_iff.1 hj
    have hne : i ≠ j := fun e => hde (by subst e; rfl)
    rcases Nat.lt_or_gt_of_ne hne with h | h
    · have := List.pairwise_iff_getElem.1 ha i j hi' hj' h
      rw [h3] at this
      cases this
    · have := List.pairwise_iff_getElem.1 ha j i hj' hi' h
      rw [h4] at this
      cases this

theorem rising_at {o : List Int} (h : Rising o) {k : Nat} {x y : Int} (hx : o[k]? = some x) (hy : o[k + 1]? = some y) : x < y := by
  obtain ⟨hi, rfl⟩ := List.getElem?_eq_some_iff.1 hx
  obtain ⟨hj, rfl⟩ := List.getElem?_eq_some_iff.1 hy
  exact List.pairwise_iff_getElem.1 h k (k + 1) hi hj (by omega)

/-- In, called where a box lies and nothing below has turned: so it is behind the call. -/
theorem kin {w w2 : World} {b : Nat} {y : Sp} {c : Int} (hy : Bx y) (hc : Num c) (V : World) (G : Held V b y) (B : Below w.heap.size w V) (B2 : Below w2.heap.size w2 V) :
    Calls Try.prog 9 #[.agg #[.int .u32 y.1, .int .u32 y.2], .int .u32 c] V fun e w3 => e = .returned (.bool (inB y c)) ∧ w3.cell? ⟨b, 0, none⟩ = some (.int .u32 y.1) ∧ w3.cell? ⟨b, 1, none⟩ = some (.int .u32 y.2) ∧ Held w3 b y ∧ Below w.heap.size w w3 ∧ Below w2.heap.size w2 w3 :=
  (in_any y c hy hc V).mono fun _ _ ⟨h1, h2⟩ => ⟨h1, (G.kept (Grown.below h2)).c0, (G.kept (Grown.below h2)).c1, G.kept (Grown.below h2), bstep B (Grown.below h2), bstep B2 (Grown.below h2)⟩

set_option maxHeartbeats 4000000 in
theorem law_kinds (v : Value) (l : List Sp) (c : Int) (w : World) (hg : Good l) (hn : Num c) (hv : Row2 w v l) :
    Calls Try.prog 6 #[v, .int .u32 c] w fun e w' => e = .returned (.bool true) ∧ Below w.heap.size w w' := by
  have HV : Hid (Row2 w v l) := hv
  have HG : Hid (Good l) := hg
  have HN : Hid (Num c) := hn
  obtain ⟨ao, cap, rfl, _⟩ := hv
  clear hg hn
  have hmx : Try.prog.follows .mixedOrders = true := by kernel_rfl
  go_enter Try.func6, Try.ntmps6
  go_wp2_with fail
  refine (alive_any w).mono ?_
  rintro e w1 ⟨rfl, B1⟩
  by_cases hmid : 12 < l.length
  · go_wp2_with fail
    go_ret
    exact ⟨rfl, B1⟩
  · have hce := cells_any _ l w1 (by omega) HG.out (HV.out.kept B1 (Nat.le_refl _))
    go_wp2_with fail
    refine hce.mono ?_
    rintro e w2 ⟨u, o, rfl, hcl, hrow, B2'⟩
    have B2 := bstep B1 B2'
    obtain ⟨k1, k2, k3, k4⟩ := hcl.kinds HG.out
    have hol := hcl.len HG.out
    have HRI : Hid (Rising o) := k1
    have HAP : Hid (Apart l o) := k2
    have HNU : Hid (∀ d ∈ o, Num d) := k3
    have HEX : Hid (∃ d ∈ o, alike l c d = true ∧ d ≤ c) := k4 c HN.out
    have HROW : Hid (Row1 w2 u o) := hrow
    obtain ⟨aU, cU, rfl, _⟩ := hrow
    clear hce B1 B2' hcl k1 k2 k3 k4
    go_wp2_with fail
    go_loopw [7, 27] (fun n i wr => ∃ k : Nat, k ≤ o.length ∧ i = .int .i64 k ∧ n = .int .i64 (cntA l c (o.take k) : Nat) ∧ Below w.heap.size w wr ∧ Below w2.heap.size w2 wr) (fun _ i _ => o.length - (intOf i).toNat)
    case atStart => exact ⟨0, Nat.zero_le _, rfl, by simp [cntA], B2, Below.refl _ _⟩
    case round =>
      clear B2
      obtain ⟨k, hk, rfl, rfl, hB, hB2⟩ := hrel
      by_cases hlt : k < o.length
      · obtain ⟨d, hd⟩ : ∃ d, o[k]? = some d := ⟨_, List.getElem?_eq_getElem hlt⟩
        obtain ⟨aU', cU', hvU, hcU⟩ := HROW.out.cell
        simp at hvU
        obtain ⟨rfl, rfl⟩ := hvU
        obtain ⟨bU, offU, rfl, hbU, c1⟩ := hcU k d hd
        have c1' : wr.cell? ⟨bU, offU + k, none⟩ = some (.int .u32 d) := (hB2.cell (by exact hbU)).trans c1
        have HDM : Hid (d ∈ o) := List.mem_of_getElem? hd
        have HDK : Hid (o[k]? = some d) := hd
        have HCS : Hid (cntA l c (o.take (k + 1)) = cntA l c (o.take k) + (if alike l c d then 1 else 0)) := cntA_take_succ hd
        have hcb := cntA_le l c o k
        have HPR : Hid (0 < k → ∃ (km : Nat) (x : Int), (k : Int) - 1 = km ∧ km < o.length ∧ wr.cell? ⟨bU, offU + km, none⟩ = some (.int .u32 x) ∧ x < d) := fun h0 => by
          obtain ⟨km, rfl⟩ : ∃ km, k = km + 1 := ⟨k - 1, by omega⟩
          obtain ⟨x, hx⟩ : ∃ x, o[km]? = some x := ⟨_, List.getElem?_eq_getElem (by omega)⟩
          obtain ⟨bU2, offU2, e2, _, c2⟩ := hcU km x hx
          simp at e2
          obtain ⟨rfl, rfl⟩ := e2
          exact ⟨km, x, by omega, by omega, (hB2.cell (by exact hbU)).trans c2, rising_at HRI.out hx hd⟩
        have HDN : Hid (Num d) := HNU.out d (List.mem_of_getElem? hd)
        clear hcU c1 hd
        by_cases hk0 : 0 < k
        case' pos =>
          obtain ⟨km, x, hkm, hkl, cx, hxd⟩ := HPR.out hk0
          clear HPR
        case' neg => clear HPR
        all_goals
          go_wp2_with fail
          go_loopw [10, 45] (fun sm j wq => ∃ (p : Nat) (sv : Bool), p ≤ l.length ∧ j = .int .i64 p ∧ sm = .bool sv ∧ Hid (sv = alike (l.take p) c d) ∧ Below w.heap.size w wq ∧ Below w2.heap.size w2 wq) (fun _ j _ => l.length - (intOf j).toNat)
          case atStart => exact ⟨0, true, Nat.zero_le _, rfl, rfl, rfl, hB, hB2⟩
          case round =>
            clear hB hB2
            obtain ⟨p, sv, hp, rfl, rfl, HSV, hB, hB2⟩ := hrel
            have hB' := hB.size
            have hB2' := hB2.size
            by_cases hpl : p < l.length
            · obtain ⟨y, hy⟩ : ∃ y, l[p]? = some y := ⟨_, List.getElem?_eq_getElem hpl⟩
              obtain ⟨aoL, capL, eL, hcL, _⟩ := HV.out
              simp at eL
              obtain ⟨rfl, rfl⟩ := eL
              obtain ⟨bL, offL, rfl, hbL, hcellL⟩ := hcL (ne_nil_of_lt hpl)
              obtain ⟨d1, d2⟩ := hcellL p y hy
              have d1' : wr.cell? ⟨bL, offL + p * 2, none⟩ = some (.int .u32 y.1) := (hB.cell (by exact hbL)).trans d1
              have d2' : wr.cell? ⟨bL, offL + p * 2 + 1, none⟩ = some (.int .u32 y.2) := (hB.cell (by exact hbL)).trans d2
              have hby := HG.out.at hy
              have HST : Hid (alike (l.take (p + 1)) c d = (alike (l.take p) c d && (inB y c == inB y d))) := alike_take_succ hy
              obtain ⟨W, hW⟩ : ∃ W, W = wr.alloc (.cells #[.int .u32 y.1, .int .u32 y.2] 26) := ⟨_, rfl⟩
              have GH : Held W wr.heap.size y := by rw [hW]; exact Held.new wr y
              have x0 := GH.c0
              have x1 := GH.c1
              have BW : Below w.heap.size w W := by rw [hW]; exact hB.alloc hB' _
              have BW2 : Below w2.heap.size w2 W := by rw [hW]; exact hB2.alloc hB2' _
              have kin1 := fun V => kin (w := w) (w2 := w2) (b := wr.heap.size) hby HN.out V
              have kin2 := fun V => kin (w := w) (w2 := w2) (b := wr.heap.size) hby HDN.out V
              clear hcL hcellL d1 d2 hy
              generalize inB y c = q1 at *
              generalize inB y d = q2 at *
              have HQ : Hid (alike (l.take (p + 1)) c d = (sv && (q1 == q2))) := by
                show alike (l.take (p + 1)) c d = (sv && (q1 == q2))
                rw [HST.out, HSV.out]
              clear HST HSV
              go_wp2_with fail
              rw [← hW]
              clear hW
              cases sv with
              | false =>
                have HQ2 : Hid (false = alike (l.take (p + 1)) c d) := by
                  show false = _
                  rw [HQ.out]
                  rfl
                clear HQ kin1 kin2
                go_quiet (fail)
                go_wp2_with fail
                go_roundw
                case rel => exact ⟨p + 1, false, by omega, by go_num, rfl, HQ2, below_drewN BW _, below_drewN BW2 _⟩
                case measure => simp [intOf]; omega
              | true =>
                cases q1 <;> cases q2
                all_goals
                  go_region_held3 (fun w' => w'.cell? ⟨wr.heap.size, 0, none⟩ = some (.int .u32 y.1) ∧ w'.cell? ⟨wr.heap.size, 1, none⟩ = some (.int .u32 y.2)) (go_keep)
                   (first
                    | (go_at_call 9; (with_reducible refine (kin1 _ ?_ ?_ ?_).mono ?_); exact ⟨GH.lt, GH.c0, GH.c1⟩; exact ⟨BW.os, BW.tape, BW.output, BW.size, BW.block⟩; exact ⟨BW2.os, BW2.tape, BW2.output, BW2.size, BW2.block⟩; rintro e w3 ⟨rfl, y0, y1, G3, B3, B32⟩)
                    | (go_at_call 9; (with_reducible refine (kin2 _ ?_ ?_ ?_).mono ?_); exact ⟨G3.lt, G3.c0, G3.c1⟩; exact ⟨B3.os, B3.tape, B3.output, B3.size, B3.block⟩; exact ⟨B32.os, B32.tape, B32.output, B32.size, B32.block⟩; rintro e w4 ⟨rfl, z0, z1, G4, B4, B42⟩))
                  go_wp2_with fail
                  go_roundw
                  case rel => exact ⟨p + 1, _, by omega, by go_num, rfl, HQ.out.symm, ⟨B4.os, B4.tape, B4.output, B4.size, B4.block⟩, ⟨B42.os, B42.tape, B42.output, B42.size, B42.block⟩⟩
                  case measure => simp [intOf]; omega
            · have HS : Hid (sv = alike l c d) := by
                have := HSV.out
                rw [List.take_of_length_le (by omega)] at this
                exact this
              clear HSV
              cases sv with
              | true =>
                have hle : d ≤ c := kind_le HAP.out HEX.out HDM.out HS.out.symm
                have HC1 : Hid (cntA l c (o.take (k + 1)) = cntA l c (o.take k) + 1) := by
                  have := HCS.out
                  rw [← HS.out] at this
                  exact this
                clear HCS
                generalize cntA l c (o.take k) = n at *
                go_wp2_with fail
                go_roundw
                case rel => exact ⟨k + 1, by omega, by go_num, by rw [HC1.out]; go_num, hB, hB2⟩
                case measure => simp [intOf]; omega
              | false =>
                have HC1 : Hid (cntA l c (o.take (k + 1)) = cntA l c (o.take k)) := by
                  have := HCS.out
                  rw [← HS.out] at this
                  exact this
                clear HCS
                generalize cntA l c (o.take k) = n at *
                go_wp2_with fail
                go_roundw
                case rel => exact ⟨k + 1, by omega, by go_num, by rw [HC1.out], hB, hB2⟩
                case measure => simp [intOf]; omega
      · have hone : cntA l c (o.take k) = 1 := by
          rw [List.take_of_length_le (by omega)]
          obtain ⟨d, hd, h1, _⟩ := HEX.out
          exact cnt_one HAP.out ⟨d, hd, h1⟩
        rw [hone]
        clear hone
        go_wp2_with fail
        go_ret
        exact ⟨rfl, hB⟩
end Go.Proofs.Ytepioggejacfjaa
