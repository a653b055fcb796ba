/-
  slices.SortFunc, slices.Grow and slices.Compact at this program's own types: the tables of numbers, and the theorems that the library's structures lie here (printed by the kit's laying tool).
  Walks of the leaves: great, next, reaches, cmp.Compare, the closure of rising.
  What it is that a slice's value, in a world, holds a list: spans, numbers, bools, lists of spans; and that it stays so where nothing old turns.
  Walks: In of both packages; Same.
  A row of spans that a call owns, and 'append' of one span to it.
  slices.SortFunc at this program's spans: a row that a call owns comes out a permutation of what it held, rising by where the spans begin.
  The walk of rising: the spans that aren't empty, in new memory, by where they begin.
  The walk of span.Norm: the one form of the set.
-/
import Derived.Shelf.SlSortCmp.WholeK
import Derived.Shelf.SlSortCmp.NoneTotal
import Derived.Shelf.SlGeneric
import Derived.Ground.SlsfProg
import Derived.Test.YtjjlkjfhhpogaaaDoorProg
import Derived.Test.YtjjlkjfhhpogaaaDoorRows
import Derived.WalkKit
import Derived.WalkSpells
import Derived.Test.YtjjlkjfhhpogaaaDoorS1Math
import Derived.BigQuiet
import Derived.Deep.QuietTactic
import Derived.Laws.StructEq
import Derived.Deep.AppendLies
import Derived.Shelf.SlSortCmp.QuietGrown
import Derived.RegionTactic
import Derived.BigRegion
namespace Go.Proofs
open Go.Shelf
def Tryd.sortSp_ren : Go.Shelf.Ren := ⟨fun | 6 => 110 | 15 => 126 | 14 => 125 | 28 => 145 | 29 => 146 | 20 => 137 | 21 => 138 | 22 => 139 | 23 => 140 | 24 => 141 | 25 => 142 | 26 => 143 | 27 => 144 | 46 => 152 | 47 => 153 | 48 => 154 | 49 => 155 | 50 => 156 | 57 => 162 | n => n, fun | 22 => 22 | 24 => 78 | 25 => 144 | 3 => 3 | 39 => 124 | 0 => 0 | 53 => 43 | 55 => 65 | 4 => 4 | 46 => 175 | 45 => 174 | 50 => 147 | 5 => 5 | 9 => 9 | 66 => 184 | 70 => 188 | 76 => 196 | 77 => 33 | n => n, fun | n => n⟩
theorem Tryd.sortSp : Go.Proofs.SlLaysF0.n6 Tryd.prog Tryd.sortSp_ren := {
  mixed := by kernel_rfl
  f6 := ⟨Tryd.f110.name, by decide, Tryd.func110.trans (congrArg some (by kernel_rfl))⟩
  f14 := ⟨Tryd.f125.name, by decide, Tryd.func125.trans (congrArg some (by kernel_rfl))⟩
  f15 := Tryd.func126.trans (congrArg some (by kernel_rfl))
  f20 := ⟨Tryd.f137.name, by decide, Tryd.func137.trans (congrArg some (by kernel_rfl))⟩
  f21 := ⟨Tryd.f138.name, by decide, Tryd.func138.trans (congrArg some (by kernel_rfl))⟩
  f22 := ⟨Tryd.f139.name, by decide, Tryd.func139.trans (congrArg some (by kernel_rfl))⟩
  f23 := ⟨Tryd.f140.name, by decide, Tryd.func140.trans (congrArg some (by kernel_rfl))⟩
  f24 := ⟨Tryd.f141.name, by decide, Tryd.func141.trans (congrArg some (by kernel_rfl))⟩
  f25 := ⟨Tryd.f142.name, by decide, Tryd.func142.trans (congrArg some (by kernel_rfl))⟩
  f26 := ⟨Tryd.f143.name, by decide, Tryd.func143.trans (congrArg some (by kernel_rfl))⟩
  f27 := ⟨Tryd.f144.name, by decide, Tryd.func144.trans (congrArg some (by kernel_rfl))⟩
  f28 := Tryd.func145.trans (congrArg some (by kernel_rfl))
  f29 := Tryd.func146.trans (congrArg some (by kernel_rfl))
  f46 := ⟨Tryd.f152.name, by decide, Tryd.func152.trans (congrArg some (by kernel_rfl))⟩
  f47 := Tryd.func153.trans (congrArg some (by kernel_rfl))
  f48 := Tryd.func154.trans (congrArg some (by kernel_rfl))
  f49 := ⟨Tryd.f155.name, by decide, Tryd.func155.trans (congrArg some (by kernel_rfl))⟩
  f50 := ⟨Tryd.f156.name, by decide, Tryd.func156.trans (congrArg some (by kernel_rfl))⟩
  f57 := ⟨Tryd.f162.name, by decide, Tryd.func162.trans (congrArg some (by kernel_rfl))⟩
  t0 := Tryd.underlying0
  a0 := Tryd.isAgg0
  z0 := Tryd.sizeOf0
  v0 := Tryd.zeroValue0
  t3 := Tryd.underlying3
  a3 := Tryd.isAgg3
  z3 := Tryd.sizeOf3
  v3 := Tryd.zeroValue3
  t4 := Tryd.underlying4
  a4 := Tryd.isAgg4
  z4 := Tryd.sizeOf4
  v4 := Tryd.zeroValue4
  t5 := Tryd.underlying5
  a5 := Tryd.isAgg5
  z5 := Tryd.sizeOf5
  v5 := Tryd.zeroValue5
  t9 := Tryd.underlying9
  a9 := Tryd.isAgg9
  z9 := Tryd.sizeOf9
  v9 := Tryd.zeroValue9
  t22 := Tryd.underlying22
  a22 := Tryd.isAgg22
  z22 := Tryd.sizeOf22
  v22 := Tryd.zeroValue22
  t25 := Tryd.underlying144
  a25 := Tryd.isAgg144
  z25 := Tryd.sizeOf144
  v25 := Tryd.zeroValue144
  t39 := Tryd.underlying124
  a39 := Tryd.isAgg124
  z39 := Tryd.sizeOf124
  v39 := Tryd.zeroValue124
  t45 := Tryd.underlying174
  a45 := Tryd.isAgg174
  z45 := Tryd.sizeOf174
  v45 := Tryd.zeroValue174
  t46 := Tryd.underlying175
  a46 := Tryd.isAgg175
  z46 := Tryd.sizeOf175
  v46 := Tryd.zeroValue175
  t50 := Tryd.underlying147
  a50 := Tryd.isAgg147
  z50 := Tryd.sizeOf147
  v50 := Tryd.zeroValue147
  t53 := Tryd.underlying43
  a53 := Tryd.isAgg43
  z53 := Tryd.sizeOf43
  v53 := Tryd.zeroValue43
  t55 := Tryd.underlying65
  a55 := Tryd.isAgg65
  z55 := Tryd.sizeOf65
  v55 := Tryd.zeroValue65
  t66 := Tryd.underlying184
  a66 := Tryd.isAgg184
  z66 := Tryd.sizeOf184
  v66 := Tryd.zeroValue184
  t70 := Tryd.underlying188
  a70 := Tryd.isAgg188
  z70 := Tryd.sizeOf188
  v70 := Tryd.zeroValue188
  t76 := Tryd.underlying196
  a76 := Tryd.isAgg196
  z76 := Tryd.sizeOf196
  v76 := Tryd.zeroValue196
  t77 := Tryd.underlying33
  a77 := Tryd.isAgg33
  z77 := Tryd.sizeOf33
  v77 := Tryd.zeroValue33 }
end Go.Proofs

namespace Go.Proofs.YtjjlkjfhhpogaaaDoorS1
open Go.RowKit

set_option maxHeartbeats 400000 in
theorem next_last (w : World) :
    Calls Tryd.prog 113 #[.int .u32 4294967295] w fun e w' => e = .returned (.tuple #[.int .u32 0, .bool false]) ∧ w' = w := by
  go_enter Tryd.func113, Tryd.ntmps113
  go_wp2
  go_ret2
  exact ⟨rfl, rfl⟩

set_option maxHeartbeats 400000 in
theorem next_more (n : Int) (h0 : 0 ≤ n) (h1 : n < 4294967295) (w : World) :
    Calls Tryd.prog 113 #[.int .u32 n] w fun e w' => e = .returned (.tuple #[.int .u32 (n + 1), .bool true]) ∧ w' = w := by
  go_enter Tryd.func113, Tryd.ntmps113
  go_wp2
  go_ret2
  exact ⟨rfl, rfl⟩

/-- What cmp.Compare answers. -/
def cmpV (x y : Int) : Int := if x < y then -1 else if y < x then 1 else 0

set_option maxHeartbeats 400000 in
theorem compare_any (x y : Int) (w : World) :
    Calls Tryd.prog 112 #[.int .u32 x, .int .u32 y] w fun e w' => e = .returned (.int .i64 (cmpV x y)) ∧ w' = w := by
  unfold cmpV
  by_cases h1 : x < y
  · rw [if_pos h1]
    go_enter Tryd.func112, Tryd.ntmps112
    go_wp2
    go_ret
    exact ⟨rfl, rfl⟩
  · rw [if_neg h1]
    by_cases h2 : y < x
    · rw [if_pos h2]
      go_enter Tryd.func112, Tryd.ntmps112
      go_wp2
      go_ret
      exact ⟨rfl, rfl⟩
    · rw [if_neg h2]
      go_enter Tryd.func112, Tryd.ntmps112
      go_wp2
      go_ret
      exact ⟨rfl, rfl⟩

set_option maxHeartbeats 400000 in
theorem closure_any (x y : Int × Int) (w : World) :
    Calls Tryd.prog 111 #[.agg #[.int .u32 x.1, .int .u32 x.2], .agg #[.int .u32 y.1, .int .u32 y.2]] w fun e w' => e = .returned (.int .i64 (cmpV x.1 y.1)) ∧ ∃ c1 c2 : Array Value, w' = (w.alloc (.cells c1 78)).alloc (.cells c2 78) := by
  go_enter Tryd.func111, Tryd.ntmps111
  go_wp2_with (go_at_call 112; refine (compare_any _ _ _).mono ?_; rintro e w' ⟨rfl, rfl⟩)
  go_ret
  exact ⟨rfl, _, _, rfl⟩

set_option maxHeartbeats 400000 in
theorem reaches_any (a b lo : Int) (h0 : 0 ≤ b) (h1 : b ≤ 4294967295) (hl : lo ≤ 4294967295) (w : World) :
    Calls Tryd.prog 101 #[.agg #[.int .u32 a, .int .u32 b], .int .u32 lo] w fun e w' => e = .returned (.bool (decide (lo ≤ b + 1))) ∧ ∃ c1 : Array Value, w' = w.alloc (.cells c1 78) := by
  by_cases hb : b = 4294967295
  · subst hb
    have e1 : decide (lo ≤ (4294967295 : Int) + 1) = true := by simp; omega
    rw [e1]
    clear e1
    go_enter Tryd.func101, Tryd.ntmps101
    go_wp2
    go_ret
    exact ⟨rfl, _, rfl⟩
  · have hb' : b < 4294967295 := by omega
    clear hb
    go_enter Tryd.func101, Tryd.ntmps101
    go_wp2_with (go_at_call 113; refine (next_more b h0 hb' _).mono ?_; rintro e w' ⟨rfl, rfl⟩)
    go_ret
    exact ⟨rfl, _, rfl⟩

end Go.Proofs.YtjjlkjfhhpogaaaDoorS1

namespace Go.Proofs.YtjjlkjfhhpogaaaDoorS1
open Go.RowKit

/-- v is a slice that holds these spans. -/
def Row2 (w : World) (v : Value) (l : List Sp) : Prop :=
  ∃ ao cap, v = .slice ao l.length cap ∧ (l ≠ [] → ∃ b off, ao = some ⟨b, off, none⟩ ∧ b < w.heap.size ∧
    ∀ i x, l[i]? = some x → w.cell? ⟨b, off + i * 2, none⟩ = some (.int .u32 x.1) ∧ w.cell? ⟨b, off + i * 2 + 1, none⟩ = some (.int .u32 x.2)) ∧ (ao = none → cap = 0)

/-- v is a slice that holds these numbers. -/
def Row1 (w : World) (v : Value) (l : List Int) : Prop :=
  ∃ ao cap, v = .slice ao l.length cap ∧ (l ≠ [] → ∃ b off, ao = some ⟨b, off, none⟩ ∧ b < w.heap.size ∧
    ∀ i x, l[i]? = some x → w.cell? ⟨b, off + i, none⟩ = some (.int .u32 x))

/-- v is a slice that holds these bools. -/
def RowB (w : World) (v : Value) (l : List Bool) : Prop :=
  ∃ ao cap, v = .slice ao l.length cap ∧ (l ≠ [] → ∃ b off, ao = some ⟨b, off, none⟩ ∧ b < w.heap.size ∧
    ∀ i x, l[i]? = some x → w.cell? ⟨b, off + i, none⟩ = some (.bool x))

/-- v is a slice that holds slices that hold these lists of spans. -/
def RowS (w : World) (v : Value) (L : List (List Sp)) : Prop :=
  ∃ ao cap, v = .slice ao L.length cap ∧ (L ≠ [] → ∃ b off, ao = some ⟨b, off, none⟩ ∧ b < w.heap.size ∧
    ∀ i l, L[i]? = some l → ∃ u, w.cell? ⟨b, off + i, none⟩ = some u ∧ Row2 w u l)

theorem Row2.kept {B : Nat} {w w' : World} {v : Value} {l : List Sp} (h : Row2 w v l) (hB : Below B w w') (hs : w.heap.size ≤ B) : Row2 w' v l := by
  obtain ⟨ao, cap, rfl, hc, hz⟩ := h
  refine ⟨ao, cap, rfl, fun hne => ?_, hz⟩
  obtain ⟨b, off, rfl, hb, hcell⟩ := hc hne
  have e : ∀ o, w'.cell? ⟨b, o, none⟩ = w.cell? ⟨b, o, none⟩ := fun o => hB.cell (p := ⟨b, o, none⟩) (by exact Nat.lt_of_lt_of_le hb hs)
  exact ⟨b, off, rfl, Nat.lt_of_lt_of_le hb hB.size, fun i x hx => by rw [e, e]; exact hcell i x hx⟩

theorem Row1.kept {B : Nat} {w w' : World} {v : Value} {l : List Int} (h : Row1 w v l) (hB : Below B w w') (hs : w.heap.size ≤ B) : Row1 w' v l := by
  obtain ⟨ao, cap, rfl, hc⟩ := h
  refine ⟨ao, cap, rfl, fun hne => ?_⟩
  obtain ⟨b, off, rfl, hb, hcell⟩ := hc hne
  have e : ∀ o, w'.cell? ⟨b, o, none⟩ = w.cell? ⟨b, o, none⟩ := fun o => hB.cell (p := ⟨b, o, none⟩) (by exact Nat.lt_of_lt_of_le hb hs)
  exact ⟨b, off, rfl, Nat.lt_of_lt_of_le hb hB.size, fun i x hx => by rw [e]; exact hcell i x hx⟩

theorem RowB.kept {B : Nat} {w w' : World} {v : Value} {l : List Bool} (h : RowB w v l) (hB : Below B w w') (hs : w.heap.size ≤ B) : RowB w' v l := by
  obtain ⟨ao, cap, rfl, hc⟩ := h
  refine ⟨ao, cap, rfl, fun hne => ?_⟩
  obtain ⟨b, off, rfl, hb, hcell⟩ := hc hne
  have e : ∀ o, w'.cell? ⟨b, o, none⟩ = w.cell? ⟨b, o, none⟩ := fun o => hB.cell (p := ⟨b, o, none⟩) (by exact Nat.lt_of_lt_of_le hb hs)
  exact ⟨b, off, rfl, Nat.lt_of_lt_of_le hb hB.size, fun i x hx => by rw [e]; exact hcell i x hx⟩

theorem RowS.kept {B : Nat} {w w' : World} {v : Value} {L : List (List Sp)} (h : RowS w v L) (hB : Below B w w') (hs : w.heap.size ≤ B) : RowS w' v L := by
  obtain ⟨ao, cap, rfl, hc⟩ := h
  refine ⟨ao, cap, rfl, fun hne => ?_⟩
  obtain ⟨b, off, rfl, hb, hcell⟩ := hc hne
  have e : ∀ o, w'.cell? ⟨b, o, none⟩ = w.cell? ⟨b, o, none⟩ := fun o => hB.cell (p := ⟨b, o, none⟩) (by exact Nat.lt_of_lt_of_le hb hs)
  refine ⟨b, off, rfl, Nat.lt_of_lt_of_le hb hB.size, fun i l hx => ?_⟩
  obtain ⟨u, h1, h2⟩ := hcell i l hx
  exact ⟨u, by rw [e]; exact h1, h2.kept hB hs⟩

theorem ne_nil_of_lt {α : Type} {l : List α} {k : Nat} (h : k < l.length) : l ≠ [] := by
  intro e; subst e; simp at h

/-- The nil slice holds nothing. -/
theorem Row2.nil (w : World) : Row2 w (.slice none 0 0) [] := ⟨none, 0, rfl, fun h => absurd rfl h, fun _ => rfl⟩

/-- The two cells of each span, one behind the other. -/
def enc2 (x : Sp) : List Value := [.int .u32 x.1, .int .u32 x.2]

/-- The cells of a list of spans. -/
def cells2 (l : List Sp) : List Value := l.flatMap enc2

theorem cells2_length (l : List Sp) : (cells2 l).length = l.length * 2 := by
  induction l with
  | nil => rfl
  | cons a l ih => simp [cells2, enc2] at *; omega

theorem cells2_append (a b : List Sp) : cells2 (a ++ b) = cells2 a ++ cells2 b := by simp [cells2]

theorem cells2_at : ∀ (l : List Sp) (i : Nat) (x : Sp), l[i]? = some x → (cells2 l)[i * 2]? = some (.int .u32 x.1) ∧ (cells2 l)[i * 2 + 1]? = some (.int .u32 x.2)
  | [], i, x, h => by simp at h
  | a :: l, 0, x, h => by simp at h; subst h; simp [cells2, enc2]
  | a :: l, i + 1, x, h => by
      have := cells2_at l i x (by simpa using h)
      have e : cells2 (a :: l) = .int .u32 a.1 :: .int .u32 a.2 :: cells2 l := rfl
      rw [e, show (i + 1) * 2 = i * 2 + 1 + 1 from by omega]
      simpa using this

theorem cells2_oneCell (l : List Sp) : ∀ u ∈ cells2 l, u.oneCell' = true := by
  intro u hu
  simp only [cells2, enc2, List.mem_flatMap] at hu
  obtain ⟨x, _, hx⟩ := hu
  simp at hx
  rcases hx with rfl | rfl <;> rfl

/-- What is owned is held. -/
theorem Row2.of_owns {w : World} {base : Nat} {e : TypeId} {v : Value} {l : List Sp} (h : w.ownsRow base e 2 v l.length (cells2 l)) : Row2 w v l := by
  rcases h.2 with ⟨rfl, h0⟩ | ⟨g, cap, cur, rfl, hb, hg, hn, hm, hs, ht⟩
  · have : l = [] := List.length_eq_zero_iff.1 h0
    subst this
    exact Row2.nil w
  · refine ⟨_, cap, rfl, fun _ => ⟨g, 0, rfl, (Array.getElem?_eq_some_iff.1 hg).1, fun i x hx => ?_⟩, fun h => by cases h⟩
    have hc := h.cells (g := g) rfl
    obtain ⟨c1, c2⟩ := cells2_at l i x hx
    have a1 := hc _ _ c1
    have a2 := hc _ _ c2
    have hadd : ∀ j, (⟨g, 0, none⟩ : Addr).add j = ⟨g, 0 + j, none⟩ := fun j => by unfold Addr.add; split <;> simp_all
    rw [hadd] at a1 a2
    exact ⟨a1, a2⟩

end Go.Proofs.YtjjlkjfhhpogaaaDoorS1

namespace Go.Proofs.YtjjlkjfhhpogaaaDoorS1
open Go.RowKit

theorem inS_take_succ {l : List Sp} {k : Nat} {x : Sp} {n : Int} (hx : l[k]? = some x) : inS (l.take (k + 1)) n = (inS (l.take k) n || (decide (x.1 ≤ n) && decide (n ≤ x.2))) := by
  rw [List.take_add_one, hx, inS_append]
  simp [inS]

theorem inS_of_mem {l : List Sp} {k : Nat} {x : Sp} {n : Int} (hx : l[k]? = some x) (h1 : x.1 ≤ n) (h2 : n ≤ x.2) : inS l n = true :=
  inS_iff.2 ⟨x, List.mem_of_getElem? hx, h1, h2⟩

theorem ret_bool {a b : Bool} (h : a = b) : Ending.returned (.bool a) = .returned (.bool b) := by rw [h]

set_option maxHeartbeats 400000 in
theorem rin_any (v : Value) (l : List Sp) (n : Int) (w : World) (hl : l.length ≤ 1000000) (hv : Row2 w v l) :
    Calls Tryd.prog 37 #[v, .int .u32 n] w fun e w' => e = .returned (.bool (inS l n)) ∧ Below w.heap.size w w' := by
  obtain ⟨ao, cap, rfl, hc⟩ := hv
  go_enter Tryd.func37, Tryd.ntmps37
  go_wp2
  go_loopw [9] (fun i wr => ∃ k : Nat, k ≤ l.length ∧ i = .int .i64 k ∧ inS (l.take k) n = false ∧ Below w.heap.size w wr) (fun i _ => l.length - (intOf i).toNat)
  case atStart => exact ⟨0, Nat.zero_le _, rfl, rfl, Below.refl _ _⟩
  case round =>
    obtain ⟨k, hk, rfl, hin, hB⟩ := hrel
    by_cases hlt : k < l.length
    · obtain ⟨b, off, rfl, hb, hcell⟩ := hc.1 (ne_nil_of_lt hlt)
      obtain ⟨x, hx⟩ : ∃ x, l[k]? = some x := ⟨_, List.getElem?_eq_getElem hlt⟩
      obtain ⟨c1, c2⟩ := hcell k x hx
      have c1' : wr.cell? ⟨b, off + k * 2, none⟩ = some (.int .u32 x.1) := (hB.cell (by exact hb)).trans c1
      have c2' : wr.cell? ⟨b, off + k * 2 + 1, none⟩ = some (.int .u32 x.2) := (hB.cell (by exact hb)).trans c2
      have HX : Hid (l[k]? = some x) := hx
      have HI : Hid (inS (l.take k) n = false) := hin
      have hB' := hB.size
      clear hc hcell c1 c2 hx hin
      go_wp2
      · go_ret
        exact ⟨by rw [inS_of_mem HX.out (by assumption) (by assumption)]; rfl, hB.alloc hB' _⟩
      all_goals
        go_roundw
        case rel => exact ⟨k + 1, by omega, by go_num, by rw [inS_take_succ HX.out, HI.out]; simp; omega, hB.alloc hB' _⟩
        case measure => simp [intOf]; omega
    · have e : l.take k = l := List.take_of_length_le (by omega)
      rw [e] at hin
      clear e hc
      go_wp2
      go_ret
      exact ⟨by rw [hin]; rfl, hB⟩

theorem take_succ_of {α : Type} {l : List α} {k : Nat} {x : α} (hx : l[k]? = some x) : l.take (k + 1) = l.take k ++ [x] := by
  rw [List.take_add_one, hx]; rfl

theorem below_drewN {B : Nat} {a w : World} (h : Below B a w) : ∀ n, Below B a (w.drewN n) := fun _ => ⟨h.os, h.tape, h.output, h.size, h.block⟩

end Go.Proofs.YtjjlkjfhhpogaaaDoorS1

namespace Go.Proofs.YtjjlkjfhhpogaaaDoorS1
open Go.RowKit

/-- The call owns this row of spans. -/
def Own2 (base : Nat) (w : World) (v : Value) (l : List Sp) : Prop := w.ownsRow base 78 2 v l.length (cells2 l)

theorem Own2.nil (base : Nat) (w : World) : Own2 base w (.slice none 0 0) [] := World.ownsRow_nil w base 78 2
theorem Own2.alloc {base : Nat} {w : World} {v : Value} {l : List Sp} (h : Own2 base w v l) (o : Obj) : Own2 base (w.alloc o) v l := World.ownsRow.alloc h o

theorem info78 : (Tryd.prog.info? 78).map (fun i => (i.zero, i.size, i.bytes)) = some (some (.agg #[.int .u32 0, .int .u32 0]), 2, 8) := by kernel_rfl

/-- 'append' of one span to a row of the call's own; what lies in other blocks stays. -/
theorem wp_app2o {w : World} {ops : Array Oper} {rest : List Oper} {o : Oper} {a : Act} {Q : Exit → Act → World → Prop} (hgd : o.guard = none) (s x : Operand)
    (ho : o.op = .call { callee := .builtin .append, args := #[s, x], argTypes := #[22, 22] })
    (base : Nat) (v : Value) (l : List Sp) (hs : a.eval s = v) (hown : Own2 base w v l) (y : Sp)
    (blk : Nat) (hx : a.eval x = .slice (some ⟨blk, 0, none⟩) 1 1) (h0 : w.cell? ⟨blk, 0, none⟩ = some (.int .u32 y.1)) (h1 : w.cell? ⟨blk, 1, none⟩ = some (.int .u32 y.2))
    (hl : l.length ≤ 1000000) (hbase : base ≤ w.heap.size)
    (h : ∀ g cap w', Own2 base w' (.slice (some ⟨g, 0, none⟩) (l.length + 1) cap) (l ++ [y]) → Below base w w' → base ≤ g → g < w'.heap.size → (∀ b o, b < w.heap.size → v.ownBlock ≠ some b → w'.cell? ⟨b, o, none⟩ = w.cell? ⟨b, o, none⟩) → wpList Tryd.prog ops Q rest (a.put o.dst (.slice (some ⟨g, 0, none⟩) (l.length + 1) cap)) w') : wpList Tryd.prog ops Q (o :: rest) a w := by
  obtain ⟨i, hi, hz, hz1, hz2⟩ := info_parts info78
  refine wpList_append_lies w hgd s x 22 ho base 78 i _ 2 8 Tryd.underlying22 hi hz hz1 hz2 rfl (by decide) v l.length (cells2 l) hs hown ⟨blk, 0, none⟩ 1 1 (enc2 y) hx rfl ?_ ?_ (by decide) (by unfold maxLen; omega) (by omega) hbase w.heap.size rfl ?_
  · intro j u hu
    have hadd : (⟨blk, 0, none⟩ : Addr).add j = ⟨blk, j, none⟩ := by unfold Addr.add; split <;> simp_all
    rw [hadd]
    match j with
    | 0 => simp [enc2] at hu; subst hu; exact h0
    | 1 => simp [enc2] at hu; subst hu; exact h1
    | j + 2 => simp [enc2] at hu
  · intro u hu
    simp [enc2] at hu
    rcases hu with rfl | rfl <;> rfl
  · intro g cap w' how hgr hg hlt
    refine h g cap w' ?_ ?_ ?_ hlt ?_
    · show w'.ownsRow base 78 2 _ (l ++ [y]).length (cells2 (l ++ [y]))
      rw [cells2_append, List.length_append]
      exact how
    · exact (Below.refl base w).grown hgr hbase (fun k hk => (hown.lt k hk).1)
    · rcases hg with hg | hg
      · exact (hown.lt g hg).1
      · omega
    · intro b o hb hne
      exact World.cell?_of_block (w := w) (hgr.block b hb (fun e => hne e.symm))

/-- 'append' of one span to a row of the call's own. -/
theorem wp_app2 {w : World} {ops : Array Oper} {rest : List Oper} {o : Oper} {a : Act} {Q : Exit → Act → World → Prop} (hgd : o.guard = none) (s x : Operand)
    (ho : o.op = .call { callee := .builtin .append, args := #[s, x], argTypes := #[22, 22] })
    (base : Nat) (v : Value) (l : List Sp) (hs : a.eval s = v) (hown : Own2 base w v l) (y : Sp)
    (blk : Nat) (hx : a.eval x = .slice (some ⟨blk, 0, none⟩) 1 1) (h0 : w.cell? ⟨blk, 0, none⟩ = some (.int .u32 y.1)) (h1 : w.cell? ⟨blk, 1, none⟩ = some (.int .u32 y.2))
    (hl : l.length ≤ 1000000) (hbase : base ≤ w.heap.size)
    (h : ∀ g cap w', Own2 base w' (.slice (some ⟨g, 0, none⟩) (l.length + 1) cap) (l ++ [y]) → Below base w w' → base ≤ g → g < w'.heap.size → wpList Tryd.prog ops Q rest (a.put o.dst (.slice (some ⟨g, 0, none⟩) (l.length + 1) cap)) w') : wpList Tryd.prog ops Q (o :: rest) a w :=
  wp_app2o hgd s x ho base v l hs hown y blk hx h0 h1 hl hbase fun g cap w' a1 a2 a3 a4 _ => h g cap w' a1 a2 a3 a4

theorem Own2.notAt {base : Nat} {w : World} {v : Value} {l : List Sp} (h : Own2 base w v l) {b : Nat} (hb : w.heap.size ≤ b) : v.ownBlock ≠ some b := by
  intro e
  have := (World.ownsRow.lt h b e).2
  omega

/-- What an owned row that isn't empty is: a slice of a block of its own; its cells can be read and written. -/
theorem Own2.shape {base : Nat} {w : World} {v : Value} {l : List Sp} (h : Own2 base w v l) (hne : l ≠ []) :
    ∃ g cap, v = .slice (some ⟨g, 0, none⟩) l.length cap ∧ base ≤ g ∧ g < w.heap.size ∧ l.length ≤ cap ∧
      (∀ o, w.frozen? ⟨g, o, none⟩ = false) ∧
      ∀ i x, l[i]? = some x → w.cell? ⟨g, i * 2, none⟩ = some (.int .u32 x.1) ∧ w.cell? ⟨g, i * 2 + 1, none⟩ = some (.int .u32 x.2) := by
  have hc := fun g => World.ownsRow.cells h (g := g)
  rcases h.2 with ⟨rfl, h0⟩ | ⟨g, cap, cur, rfl, hb, hg, hn, hm, hs, ht⟩
  · exact absurd (List.length_eq_zero_iff.1 h0) hne
  · refine ⟨g, cap, rfl, hb, (Array.getElem?_eq_some_iff.1 hg).1, hn, fun o => ?_, fun i x hx => ?_⟩
    · simp [World.frozen?, hg]
    · obtain ⟨c1, c2⟩ := cells2_at l i x hx
      have a1 := hc g rfl _ _ c1
      have a2 := hc g rfl _ _ c2
      have hadd : ∀ j, (⟨g, 0, none⟩ : Addr).add j = ⟨g, j, none⟩ := fun j => by unfold Addr.add; split <;> simp_all
      rw [hadd] at a1 a2
      exact ⟨a1, a2⟩

theorem Own2.form {base : Nat} {w : World} {v : Value} {l : List Sp} (h : Own2 base w v l) : ∃ ao cap, v = .slice ao l.length cap := by
  rcases h.2 with ⟨rfl, h0⟩ | ⟨g, cap, cur, rfl, _⟩
  · exact ⟨none, 0, by rw [h0]⟩
  · exact ⟨_, _, rfl⟩

theorem owns_set {w : World} {base : Nat} {e : TypeId} {size g n cap : Nat} {xs : List Value} (h : w.ownsRow base e size (.slice (some ⟨g, 0, none⟩) n cap) n xs) (j : Nat) (u : Value) :
    (w.setCell ⟨g, j, none⟩ u).ownsRow base e size (.slice (some ⟨g, 0, none⟩) n cap) n (xs.set j u) := by
  obtain ⟨hx, hr⟩ := h
  refine ⟨by simpa using hx, .inr ?_⟩
  rcases hr with ⟨hv, _⟩ | ⟨g', cap', cur, hv, hb, hg, hn, hm, hs, ht⟩
  · simp at hv
  · simp at hv
    obtain ⟨rfl, rfl⟩ := hv
    refine ⟨g, cap, cur.setIfInBounds j u, rfl, hb, heap_setCell_same w g j cur e u hg, hn, hm, by simpa using hs, ?_⟩
    rw [Array.toList_setIfInBounds, ← ht]
    rw [List.take_set]

theorem Own2.setHi {base : Nat} {w : World} {g n cap : Nat} {init : List Sp} {t : Sp} (h : Own2 base w (.slice (some ⟨g, 0, none⟩) n cap) (init ++ [t])) (z : Int) :
    Own2 base (w.setCell ⟨g, init.length * 2 + 1, none⟩ (.int .u32 z)) (.slice (some ⟨g, 0, none⟩) n cap) (init ++ [(t.1, z)]) := by
  have hn : n = (init ++ [t]).length := by
    rcases h.2 with ⟨hv, _⟩ | ⟨g', cap', cur, hv, _⟩
    · simp at hv
    · simp at hv; simp; omega
  subst hn
  have := owns_set (n := (init ++ [t]).length) h (init.length * 2 + 1) (.int .u32 z)
  have e : (cells2 (init ++ [t])).set (init.length * 2 + 1) (.int .u32 z) = cells2 (init ++ [(t.1, z)]) := by
    rw [cells2_append, cells2_append, List.set_append_right _ _ (by rw [cells2_length]; omega), cells2_length, show init.length * 2 + 1 - init.length * 2 = 1 from by omega]
    rfl
  rw [e] at this
  simpa [Own2] using this

theorem Own2.drewN {base : Nat} {w : World} {v : Value} {l : List Sp} (h : Own2 base w v l) (n : Nat) : Own2 base (w.drewN n) v l := h

end Go.Proofs.YtjjlkjfhhpogaaaDoorS1

namespace Go.Proofs.YtjjlkjfhhpogaaaDoorS1
open Go.RowKit
open Go.Sort (grow alloc_eq_grow grow_grow cell?_grow HoldsK flatK putRowK holdsK_putRowK holdsK_ahead size_putRowK)

/-- The order of the closure. -/
def cfS (x y : Sp) : Int := cmpV x.1 y.1

theorem ltS (x y : Sp) : ltOf cfS x y = decide (x.1 < y.1) := by
  unfold ltOf cfS cmpV
  by_cases h1 : x.1 < y.1
  · simp [h1]
  · by_cases h2 : y.1 < x.1 <;> simp [h1, h2]

theorem swoS : Go.Sort.SWO (ltOf cfS) where
  irrefl x := by rw [ltS]; simp
  trans x y z h1 h2 := by rw [ltS] at *; simp at *; omega
  ntrans x y z h1 h2 := by rw [ltS] at *; simp at *; omega

theorem cmpLays (blk off size : Nat) (w : World) : CmpLays Tryd.prog 111 #[] enc2 2 cfS blk off size w :=
  fun _ _ _ _ x y => (closure_any x y _).mono fun _ _ ⟨he, c1, c2, hw⟩ => ⟨he, 0, #[.cells c1 78, .cells c2 78], by rw [hw, alloc_eq_grow, alloc_eq_grow, grow_grow]; rfl⟩

theorem holdsOwn {base : Nat} {w : World} {g n cap : Nat} {l : List Sp} (h : Own2 base w (.slice (some ⟨g, 0, none⟩) n cap) l) (hne : l ≠ []) : HoldsK enc2 2 w g 0 l.toArray := by
  obtain ⟨g', cap', hv, _, _, _, hfr, hcl⟩ := h.shape hne
  simp at hv
  obtain ⟨rfl, _⟩ := hv
  intro j hj
  rw [flatK] at hj ⊢
  simp at hj
  refine ⟨?_, hfr _⟩
  have hi : j / 2 < l.length := by omega
  obtain ⟨x, hx⟩ : ∃ x, l[j / 2]? = some x := ⟨_, List.getElem?_eq_getElem hi⟩
  have hd : l.toArray[j / 2]! = x := by
    obtain ⟨hi', rfl⟩ := List.getElem?_eq_some_iff.1 hx
    simp [hi]
  obtain ⟨c1, c2⟩ := hcl (j / 2) x hx
  rw [getElem!_pos _ j (by simpa using hj)]
  simp only [Array.getElem_map, Array.getElem_range, id_eq]
  rw [hd]
  rcases Nat.mod_two_eq_zero_or_one j with h0 | h1
  · rw [h0]
    have : 0 + j = j / 2 * 2 := by omega
    rw [this]; exact c1
  · rw [h1]
    have : 0 + j = j / 2 * 2 + 1 := by omega
    rw [this]; exact c2

theorem heap_mapBlock_other (w : World) (blk k : Nat) (f : Array Value → Array Value) (h : k ≠ blk) : (Go.Sort.mapBlock w blk f).heap[k]? = w.heap[k]? := by
  simp [Go.Sort.mapBlock, Array.getElem?_modify, Ne.symm h]

/-- A world of the sort's: nothing below the row's block has turned; the row holds what the sort says. -/
theorem sorted_world {base : Nat} {w : World} {g cap n m : Nat} {l : List Sp} {d' : Array Sp} {os : Array Obj} (h : Own2 base w (.slice (some ⟨g, 0, none⟩) n cap) l) (hne : l ≠ []) (hs : d'.size = l.length) :
    Below base w (sortWorldK enc2 2 w g 0 m d' os) ∧ Row2 (sortWorldK enc2 2 w g 0 m d' os) (.slice (some ⟨g, 0, none⟩) n cap) d'.toList := by
  obtain ⟨g', cap', hv, hb, hlt, _, hfr, hcl⟩ := h.shape hne
  have hH := holdsOwn h hne
  simp at hv
  obtain ⟨rfl, rfl, rfl⟩ := hv
  have hsz : (putRowK enc2 2 (Go.Sort.ahead w m) g 0 d').heap.size = w.heap.size := size_putRowK ..
  refine ⟨⟨rfl, rfl, rfl, by simp [sortWorldK, hsz], fun k hk => ?_⟩, ⟨_, cap, by simp [hs], fun _ => ⟨g, 0, rfl, by simp [sortWorldK, hsz]; omega, fun i x hx => ?_⟩, fun h => by cases h⟩⟩
  · show ((putRowK enc2 2 (Go.Sort.ahead w m) g 0 d').heap ++ os)[k]? = _
    rw [Array.getElem?_append_left (by rw [hsz]; omega)]
    exact heap_mapBlock_other (Go.Sort.ahead w m) g k _ (by omega)
  · have hp := holdsK_putRowK enc2 2 (Go.Sort.ahead w m) g 0 l.toArray d' (holdsK_ahead _ _ _ _ _ _ _ hH) (by simpa using hs)
    obtain ⟨hi, rfl⟩ := List.getElem?_eq_some_iff.1 hx
    have hi' : i < d'.size := by simpa using hi
    have e : ∀ o, (sortWorldK enc2 2 w g 0 m d' os).cell? ⟨g, o, none⟩ = (putRowK enc2 2 (Go.Sort.ahead w m) g 0 d').cell? ⟨g, o, none⟩ := fun o => cell?_grow _ _ _ (by show g < _; rw [hsz]; exact hlt)
    have a1 := (hp.cell (i := i) (c := 0) hi' (by decide)).1
    have a2 := (hp.cell (i := i) (c := 1) hi' (by decide)).1
    have hd : d'[i]! = d'.toList[i] := by rw [getElem!_pos d' i hi']; simp
    rw [hd] at a1 a2
    rw [e, e]
    exact ⟨by simpa [enc2] using a1, by simpa [enc2, Nat.add_assoc] using a2⟩

end Go.Proofs.YtjjlkjfhhpogaaaDoorS1

namespace Go.Proofs.YtjjlkjfhhpogaaaDoorS1
open Go.RowKit

/-- The spans that aren't empty. -/
def full (l : List Sp) : List Sp := l.filter fun s => decide (s.1 ≤ s.2)

theorem full_succ {l : List Sp} {k : Nat} {x : Sp} (hx : l[k]? = some x) : full (l.take (k + 1)) = full (l.take k) ++ (if x.1 ≤ x.2 then [x] else []) := by
  unfold full
  rw [take_succ_of hx, List.filter_append]
  by_cases h : x.1 ≤ x.2 <;> simp [h]
theorem full_len (l : List Sp) (k : Nat) : (full (l.take k)).length ≤ k := by
  unfold full
  exact Nat.le_trans (List.length_filter_le _ _) (List.length_take_le _ _)
theorem inS_full (l : List Sp) (n : Int) : inS (full l) n = inS l n := by
  apply bool_eq
  rw [inS_iff, inS_iff]
  constructor
  · rintro ⟨s, hs, h⟩
    exact ⟨s, (List.mem_filter.1 hs).1, h⟩
  · rintro ⟨s, hs, h⟩
    exact ⟨s, List.mem_filter.2 ⟨hs, by simp; omega⟩, h⟩

/-- What rising answers. -/
def Risen (l m : List Sp) : Prop := (∀ s ∈ m, 0 ≤ s.1 ∧ s.1 ≤ s.2 ∧ s.2 ≤ 4294967295) ∧ m.Pairwise (fun a b => a.1 ≤ b.1) ∧ (∀ n, inS m n = inS l n) ∧ m.length ≤ l.length

theorem risen_of_perm {l m : List Sp} (hg : Good l) (hp : m.Perm (full l)) (hs : m.Pairwise fun a b => a.1 ≤ b.1) : Risen l m := by
  refine ⟨fun s hm => ?_, hs, fun n => ?_, ?_⟩
  · have hf := List.mem_filter.1 (hp.mem_iff.1 hm)
    have := hg s hf.1
    have h2 := hf.2
    simp at h2
    omega
  · rw [← inS_full l]
    apply bool_eq
    rw [inS_iff, inS_iff]
    exact ⟨fun ⟨s, h, r⟩ => ⟨s, hp.mem_iff.1 h, r⟩, fun ⟨s, h, r⟩ => ⟨s, hp.mem_iff.2 h, r⟩⟩
  · rw [hp.length_eq]; exact List.length_filter_le _ _

theorem perm_of_permIn {d d' : Array Sp} (h : Go.Sort.PermIn 0 d.size d d') : d'.toList.Perm d.toList := by
  obtain ⟨h1, _, h3⟩ := h
  have e1 : d.extract 0 d.size = d := by simp
  have e2 : d'.extract 0 d.size = d' := by rw [← h1]; simp
  rw [e1, e2] at h3
  exact h3

theorem pairwise_of_sortedIn {d : Array Sp} {n : Nat} (hn : d.size = n) (h : Go.Sort.SortedIn (ltOf cfS) 0 n d) : d.toList.Pairwise fun a b => a.1 ≤ b.1 := by
  subst hn
  rw [List.pairwise_iff_getElem]
  intro i j hi hj hij
  have := h i j (Nat.zero_le _) hij (by simpa using hj)
  rw [ltS, getElem!_pos d j (by simpa using hj), getElem!_pos d i (by simpa using hi)] at this
  simp at this
  simpa using this

set_option maxHeartbeats 1000000 in
theorem rising_any (v : Value) (l : List Sp) (w : World) (hl : l.length ≤ 1000) (hgood : Good l) (hv : Row2 w v l) :
    Calls Tryd.prog 100 #[v] w fun e w' => ∃ u m, e = .returned u ∧ Risen l m ∧ Row2 w' u m ∧ Below w.heap.size w w' := by
  obtain ⟨ao, cap, rfl, hc⟩ := hv
  go_enter Tryd.func100, Tryd.ntmps100
  go_wp2_with fail
  go_loopw [3, 8] (fun out i wr => ∃ k : Nat, k ≤ l.length ∧ i = .int .i64 k ∧ Own2 w.heap.size wr out (full (l.take k)) ∧ Below w.heap.size w wr) (fun _ i _ => l.length - (intOf i).toNat)
  case atStart => exact ⟨0, Nat.zero_le _, rfl, Own2.nil _ _, Below.refl _ _⟩
  case round =>
    obtain ⟨k, hk, rfl, hown, hB⟩ := hrel
    have hkl := full_len l k
    have hB' := hB.size
    by_cases hlt : k < l.length
    · obtain ⟨b, off, rfl, hb, hcell⟩ := hc.1 (ne_nil_of_lt hlt)
      obtain ⟨x, hx⟩ : ∃ x, l[k]? = some x := ⟨_, List.getElem?_eq_getElem hlt⟩
      obtain ⟨c1, c2⟩ := hcell k x hx
      have c1' : wr.cell? ⟨b, off + k * 2, none⟩ = some (.int .u32 x.1) := (hB.cell (by exact hb)).trans c1
      have c2' : wr.cell? ⟨b, off + k * 2 + 1, none⟩ = some (.int .u32 x.2) := (hB.cell (by exact hb)).trans c2
      have HF : Hid (full (l.take (k + 1)) = full (l.take k) ++ (if x.1 ≤ x.2 then [x] else [])) := full_succ hx
      clear hc hcell c1 c2 hx
      by_cases hle : x.1 ≤ x.2
      · go_wp2_with (at_builtin; refine wp_app2 rfl _ _ rfl w.heap.size _ _ rfl ((hown.alloc _).alloc _) x (wr.heap.size + 1) rfl (by simp [go_sem]) (by simp [go_sem]) (by omega) (by simp; omega) ?_; intro g cap2 w3 how3 hB3 hg1 hg2)
        go_roundw
        case rel => exact ⟨k + 1, by omega, by go_num, by rw [HF.out, if_pos hle]; exact how3, ((hB.alloc hB' _).alloc (by simp; omega) _).trans hB3⟩
        case measure => simp [intOf]; omega
      · go_wp2_with fail
        go_roundw
        case rel => exact ⟨k + 1, by omega, by go_num, by rw [HF.out, if_neg (by omega), List.append_nil]; exact hown.alloc _, hB.alloc hB' _⟩
        case measure => simp [intOf]; omega
    · have e : l.take k = l := List.take_of_length_le (by omega)
      rw [e] at hown hkl
      clear e hc
      by_cases hne : full l = []
      · rw [hne] at hown
        obtain ⟨ao2, cap2, rfl⟩ := hown.form
        have hcon := AnyF.slices_SortFunc_none Tryd.sortSp ao2 cap2 (.func (.func 111) #[] #[]) wr
        change Calls Tryd.prog 110 _ _ _ at hcon
        have hr : Risen l [] := risen_of_perm hgood (by rw [hne]) List.Pairwise.nil
        have hrow := Row2.of_owns hown
        clear hne hown
        go_wp2_with (go_at_call 110; refine hcon.mono ?_; rintro e w' ⟨rfl, rfl⟩)
        go_ret
        exact ⟨_, [], rfl, hr, hrow, hB⟩
      · obtain ⟨g, cap2, rfl, hg1, hg2, hcap, hfr, hcl⟩ := hown.shape hne
        have eg : ∀ args w, (callFunc 111 args).run Tryd.prog w = .ok (.enter 111 args) w := enters_of Tryd.func111 (by kernel_rfl) rfl
        have hcon := AnyQ.slices_SortFunc Tryd.sortSp 2 Tryd.isAgg78 Tryd.sizeOf78 enc2 (fun _ => rfl) (fun x v hv => by simp [enc2] at hv; rcases hv with rfl | rfl <;> rfl) cfS swoS 111 #[] g 0 cap2 (full l).toArray wr eg (cmpLays _ _ _ _) (holdsOwn hown hne) hg2 (by simp; omega)
        change Calls Tryd.prog 110 #[.slice (some ⟨g, 0, none⟩) (full l).length cap2, .func (.func 111) #[] #[]] wr _ at hcon
        have HO := hown
        have HN : Hid (full l ≠ []) := hne
        clear hfr hcl hne hown eg
        go_wp2_with (go_at_call 110; refine hcon.mono ?_; rintro e w' ⟨rfl, d', n, os, hp, hs, rfl⟩)
        have hsz : d'.size = (full l).length := by simpa using hp.1
        obtain ⟨b1, b2⟩ := sorted_world (m := n) (os := os) HO HN.out hsz
        have hr : Risen l d'.toList := risen_of_perm hgood (perm_of_permIn (d := (full l).toArray) hp) (pairwise_of_sortedIn hsz (by simpa using hs))
        go_ret
        exact ⟨_, d'.toList, rfl, hr, b2, hB.trans b1⟩
end Go.Proofs.YtjjlkjfhhpogaaaDoorS1

namespace Go.Proofs.YtjjlkjfhhpogaaaDoorS1
open Go.RowKit
open Go.Sort (grow alloc_eq_grow grow_grow cell?_grow)

theorem Risen.le {l m : List Sp} (h : Risen l m) {i j : Nat} {x y : Sp} (hij : i < j) (hx : m[i]? = some x) (hy : m[j]? = some y) : x.1 ≤ y.1 := by
  obtain ⟨hi, rfl⟩ := List.getElem?_eq_some_iff.1 hx
  obtain ⟨hj, rfl⟩ := List.getElem?_eq_some_iff.1 hy
  exact List.pairwise_iff_getElem.1 h.2.1 i j hi hj hij

/-- The invariant of Norm's loop, behind k spans. -/
structure NormInv (m : List Sp) (k : Nat) (o : List Sp) : Prop where
  nf : NF o
  mem : ∀ n, inS o n = inS (m.take k) n
  le : ∀ x ∈ o, ∀ j y, k ≤ j → m[j]? = some y → x.1 ≤ y.1
  len : o.length ≤ k

theorem NormInv.start (m : List Sp) : NormInv m 0 [] := ⟨NF_nil, fun _ => rfl, by simp, Nat.le_refl _⟩

theorem NormInv.push {l m : List Sp} {k : Nat} {o : List Sp} {s : Sp} (h : NormInv m k o) (hr : Risen l m) (hs : m[k]? = some s) (hf : ∀ x ∈ o, x.2 + 2 ≤ s.1) : NormInv m (k + 1) (o ++ [s]) where
  nf := h.nf.push (hr.1 s (List.mem_of_getElem? hs)) hf
  mem n := by rw [take_succ_of hs, inS_append, inS_append, h.mem]
  le x hx j y hj hy := by
    rcases mem_snoc.1 hx with hx | rfl
    · exact h.le x hx j y (by omega) hy
    · exact hr.le hj hs hy
  len := by have := h.len; simp; omega

theorem NormInv.merge {l m : List Sp} {k : Nat} {init : List Sp} {t s : Sp} (h : NormInv m k (init ++ [t])) (hr : Risen l m) (hs : m[k]? = some s) (hf : s.1 ≤ t.2 + 1) : NormInv m (k + 1) (init ++ [(t.1, max t.2 s.2)]) where
  nf := h.nf.merge (hr.1 s (List.mem_of_getElem? hs)) (h.le t (by simp) k s (Nat.le_refl _) hs)
  mem n := by
    rw [in_merge (h.le t (by simp) k s (Nat.le_refl _) hs) hf, take_succ_of hs, inS_append, h.mem, inS_append]
  le x hx j y hj hy := by
    rcases mem_snoc.1 hx with hx | rfl
    · exact h.le x (by simp [hx]) j y (by omega) hy
    · exact h.le t (by simp) j y (by omega) hy
  len := by have := h.len; simp at *; omega

theorem calls_grown1 {f : FuncId} {args : Array Value} {W : World} {v : Value} (h : Calls Tryd.prog f args W fun e w' => e = .returned v ∧ ∃ c1 : Array Value, w' = W.alloc (.cells c1 78)) :
    Calls Tryd.prog f args W fun e w' => e = .returned v ∧ ∃ q os', w' = grow (W.drewN q) os' :=
  h.mono fun _ _ ⟨he, c, hw⟩ => ⟨he, 0, #[.cells c 78], by rw [hw, alloc_eq_grow]; rfl⟩


theorem Own2.grow {base : Nat} {w : World} {v : Value} {l : List Sp} (h : Own2 base w v l) (n : Nat) (os : Array Obj) : Own2 base (Sort.grow (w.drewN n) os) v l := by
  refine ⟨h.1, ?_⟩
  rcases h.2 with h0 | ⟨g, cap, cur, hv, hb, hg, hn, hm, hs, ht⟩
  · exact .inl h0
  · refine .inr ⟨g, cap, cur, hv, hb, ?_, hn, hm, hs, ht⟩
    have hlt := (Array.getElem?_eq_some_iff.1 hg).1
    show (w.heap ++ os)[g]? = _
    rw [Array.getElem?_append_left hlt]
    exact hg
theorem below_grow {B : Nat} {a w : World} (h : Below B a w) (hs : B ≤ w.heap.size) (n : Nat) (os : Array Obj) : Below B a (Sort.grow (w.drewN n) os) :=
  ⟨h.os, h.tape, h.output, by have := h.size; simp; exact Nat.le_trans this (Nat.le_add_right _ _), fun k hk => by
    show (w.heap ++ os)[k]? = _
    rw [Array.getElem?_append_left (by omega)]
    exact h.block k hk⟩
theorem frozen?_grow' {w : World} {n : Nat} {os : Array Obj} {a : Addr} (h : a.block < w.heap.size) : (Sort.grow (w.drewN n) os).frozen? a = w.frozen? a :=
  World.frozen?_of_block (w := w) (by show (w.heap ++ os)[a.block]? = _; rw [Array.getElem?_append_left h])

theorem Own2.lower {base base' : Nat} {w : World} {v : Value} {l : List Sp} (h : Own2 base w v l) (hb : base' ≤ base) : Own2 base' w v l := by
  refine ⟨h.1, ?_⟩
  rcases h.2 with h0 | ⟨g, cap, cur, hv, hbg, hg, hn, hm, hs, ht⟩
  · exact .inl h0
  · exact .inr ⟨g, cap, cur, hv, Nat.le_trans hb hbg, hg, hn, hm, hs, ht⟩

set_option maxHeartbeats 1000000 in
theorem norm_own (v : Value) (l : List Sp) (w : World) (hl : l.length ≤ 1000) (hg : Good l) (hv : Row2 w v l) :
    Calls Tryd.prog 90 #[v] w fun e w' => ∃ u m, e = .returned u ∧ NF m ∧ (∀ n, inS m n = inS l n) ∧ m.length ≤ l.length ∧ Own2 w.heap.size w' u m ∧ Below w.heap.size w w' := by
  have hm : Tryd.prog.follows .mixedOrders = true := by kernel_rfl
  have hcall := rising_any v l w hl hg hv
  clear hv hg
  go_enter Tryd.func90, Tryd.ntmps90
  go_wp2_with (go_at_call 100; refine hcall.mono ?_; rintro e w1 ⟨u, m, rfl, hris, ⟨ao, cap, rfl, hc⟩, hB1⟩)
  go_loopw [3, 10] (fun out i wr => ∃ (k : Nat) (o : List Sp), k ≤ m.length ∧ i = .int .i64 k ∧ NormInv m k o ∧ Own2 w1.heap.size wr out o ∧ Below w1.heap.size w1 wr) (fun _ i _ => m.length - (intOf i).toNat)
  case atStart => exact ⟨0, [], Nat.zero_le _, rfl, NormInv.start m, Own2.nil _ _, Below.refl _ _⟩
  case round =>
    obtain ⟨k, o, hk, rfl, hinv, hown, hB⟩ := hrel
    have hB' := hB.size
    have hlen := hinv.len
    have hml := hris.2.2.2
    by_cases hlt : k < m.length
    · obtain ⟨b, off, rfl, hb, hcell⟩ := hc.1 (ne_nil_of_lt hlt)
      obtain ⟨x, hx⟩ : ∃ x, m[k]? = some x := ⟨_, List.getElem?_eq_getElem hlt⟩
      obtain ⟨c1, c2⟩ := hcell k x hx
      have c1' : wr.cell? ⟨b, off + k * 2, none⟩ = some (.int .u32 x.1) := (hB.cell (by exact hb)).trans c1
      have c2' : wr.cell? ⟨b, off + k * 2 + 1, none⟩ = some (.int .u32 x.2) := (hB.cell (by exact hb)).trans c2
      have hxb := hris.1 x (List.mem_of_getElem? hx)
      have HX : Hid (m[k]? = some x) := hx
      clear hc hcell c1 c2 hx
      rcases List.eq_nil_or_concat o with rfl | ⟨init, t, rfl⟩
      · obtain ⟨ao2, cap2, rfl⟩ := hown.form
        go_wp2_with fail
        go_quiet (fail)
        go_wp2_with (at_builtin; refine wp_app2 rfl _ _ rfl w1.heap.size _ [] rfl (((hown.alloc _).drewN _).alloc _) x (wr.heap.size + 1) rfl (by simp [go_sem]) (by simp [go_sem]) (by simp) (by simp; omega) ?_; intro g cap2 w3 how3 hB3 hg1 hg2)
        go_roundw
        case rel => exact ⟨k + 1, [] ++ [x], by omega, by go_num, hinv.push hris HX.out (by simp), how3, ((below_drewN (hB.alloc hB' _) _).alloc (by simp; omega) _).trans hB3⟩
        case measure => simp [intOf]; omega
      · rw [List.concat_eq_append] at *
        obtain ⟨g, cap2, rfl, hg1, hg2, hcap, hfr, hcl⟩ := hown.shape (by simp)
        have hn : (init ++ [t]).length = init.length + 1 := by simp
        rw [hn] at hown hlen hcap
        rw [hn]
        have hlast : (init ++ [t])[init.length]? = some t := by simp
        obtain ⟨t1, t2⟩ := hcl init.length t hlast
        have hnft := hinv.nf.last.1
        have hrl := hinv.nf.last.2
        have ownW := hown.alloc (.cells #[.int .u32 x.1, .int .u32 x.2] 78)
        have BW := hB.alloc hB' (.cells #[.int .u32 x.1, .int .u32 x.2] 78)
        have cx0 : (wr.alloc (.cells #[.int .u32 x.1, .int .u32 x.2] 78)).cell? ⟨wr.heap.size, 0, none⟩ = some (.int .u32 x.1) := by simp [go_sem]
        have cx1 : (wr.alloc (.cells #[.int .u32 x.1, .int .u32 x.2] 78)).cell? ⟨wr.heap.size, 1, none⟩ = some (.int .u32 x.2) := by simp [go_sem]
        have ct0 : (wr.alloc (.cells #[.int .u32 x.1, .int .u32 x.2] 78)).cell? ⟨g, init.length * 2, none⟩ = some (.int .u32 t.1) := by rw [World.cell?_alloc_past _ _ _ (by exact hg2)]; exact t1
        have ct1 : (wr.alloc (.cells #[.int .u32 x.1, .int .u32 x.2] 78)).cell? ⟨g, init.length * 2 + 1, none⟩ = some (.int .u32 t.2) := by rw [World.cell?_alloc_past _ _ _ (by exact hg2)]; exact t2
        have fz : (wr.alloc (.cells #[.int .u32 x.1, .int .u32 x.2] 78)).frozen? ⟨g, init.length * 2 + 1, none⟩ = false := by rw [World.frozen?_alloc_past _ _ _ (by exact hg2)]; exact hfr _
        have sW : (wr.alloc (.cells #[.int .u32 x.1, .int .u32 x.2] 78)).heap.size = wr.heap.size + 1 := by simp
        have HN : Hid (NormInv m k (init ++ [t])) := hinv
        clear hn hfr hcl hlast hinv t1 t2
        by_cases hre : x.1 ≤ t.2 + 1
        · have hcon := fun W => calls_grown1 (reaches_any t.1 t.2 x.1 (by omega) (by omega) (by omega) W)
          have e1 : decide (x.1 ≤ t.2 + 1) = true := by simpa using hre
          rw [e1] at hcon
          go_wp2_with fail
          generalize wr.alloc (.cells #[.int .u32 x.1, .int .u32 x.2] 78) = W at *
          have f0 := fun n os => cell_grown (w := W) (a := ⟨g, init.length * 2, none⟩) (by rw [sW]; simp; omega) ct0 n os
          have f1 := fun n os => cell_grown (w := W) (a := ⟨g, init.length * 2 + 1, none⟩) (by rw [sW]; simp; omega) ct1 n os
          have f2 := fun n os => cell_grown (w := W) (a := ⟨wr.heap.size, 0, none⟩) (by rw [sW]; simp) cx0 n os
          have f3 := fun n os => cell_grown (w := W) (a := ⟨wr.heap.size, 1, none⟩) (by rw [sW]; simp) cx1 n os
          have hlt1 : (init.length : Int) < (init.length : Int) + 1 := by omega
          clear e1
          go_quiet_grown (first | (go_at_call 101; refine Calls.grown_of (hcon _)))
          go_wp2_with fail
          have ownV := ownW.grow nq osq
          have BV := below_grow BW (by omega) nq osq
          have fzV : (grow (W.drewN nq) osq).frozen? ⟨g, init.length * 2 + 1, none⟩ = false := (frozen?_grow' (by rw [sW]; simp; omega)).trans fz
          have sV : wr.heap.size + 1 ≤ (grow (W.drewN nq) osq).heap.size := by simp; omega
          have g1 := f1 nq osq
          have g3 := f3 nq osq
          clear f0 f1 f2 f3 hcon
          generalize grow (W.drewN nq) osq = V at *
          go_region
          go_wp2_with fail
          go_roundw
          case rel => exact ⟨k + 1, init ++ [(t.1, max t.2 x.2)], by omega, by go_num, HN.out.merge hris HX.out hre, (ownV.setHi (max t.2 x.2)).drewN 1, (BV.setCell (p := ⟨g, init.length * 2 + 1, none⟩) (by simp; omega) _).drew⟩
          case measure => simp [intOf]; omega
        · have hcon := fun W => calls_grown1 (reaches_any t.1 t.2 x.1 (by omega) (by omega) (by omega) W)
          have e1 : decide (x.1 ≤ t.2 + 1) = false := by simpa using hre
          rw [e1] at hcon
          go_wp2_with fail
          generalize wr.alloc (.cells #[.int .u32 x.1, .int .u32 x.2] 78) = W at *
          have f0 := fun n os => cell_grown (w := W) (a := ⟨g, init.length * 2, none⟩) (by rw [sW]; simp; omega) ct0 n os
          have f1 := fun n os => cell_grown (w := W) (a := ⟨g, init.length * 2 + 1, none⟩) (by rw [sW]; simp; omega) ct1 n os
          have f2 := fun n os => cell_grown (w := W) (a := ⟨wr.heap.size, 0, none⟩) (by rw [sW]; simp) cx0 n os
          have f3 := fun n os => cell_grown (w := W) (a := ⟨wr.heap.size, 1, none⟩) (by rw [sW]; simp) cx1 n os
          have hlt1 : (init.length : Int) < (init.length : Int) + 1 := by omega
          clear e1
          go_quiet_grown (first | (go_at_call 101; refine Calls.grown_of (hcon _)))
          have ownV := ownW.grow nq osq
          have BV := below_grow BW (by omega) nq osq
          have sV : wr.heap.size + 1 ≤ (grow (W.drewN nq) osq).heap.size := by simp; omega
          have g2 := f2 nq osq
          have g3 := f3 nq osq
          clear f0 f1 f2 f3 hcon
          generalize grow (W.drewN nq) osq = V at *
          go_wp2_with (at_builtin; refine wp_app2 rfl _ _ rfl w1.heap.size _ (init ++ [t]) rfl (ownV.alloc _) x V.heap.size rfl (by simp [go_sem]) (by simp [go_sem]) (by simp; omega) (by simp; omega) ?_; intro g4 cap4 w4 how4 hB4 hg41 hg42)
          go_roundw
          case rel => exact ⟨k + 1, (init ++ [t]) ++ [x], by omega, by go_num, HN.out.push hris HX.out (fun y hy => by rcases mem_snoc.1 hy with hy | rfl; (have := hrl y hy; omega); omega), (by rw [List.length_append] at how4; exact how4), (BV.alloc (by omega) _).trans hB4⟩
          case measure => simp [intOf]; omega
    · have hkm : k = m.length := by omega
      subst hkm
      have hmem := hinv.mem
      rw [List.take_length] at hmem
      have hfin := hown.lower hB1.size
      have HM : Hid (∀ n, inS o n = inS m n) := hmem
      clear hmem hc
      go_wp2_with fail
      go_ret
      exact ⟨_, o, rfl, hinv.nf, fun n => (HM.out n).trans (hris.2.2.1 n), by omega, hfin, hB1.trans (hB.mono hB1.size)⟩

theorem norm_any (v : Value) (l : List Sp) (w : World) (hl : l.length ≤ 1000) (hg : Good l) (hv : Row2 w v l) :
    Calls Tryd.prog 90 #[v] w fun e w' => ∃ u m, e = .returned u ∧ NF m ∧ (∀ n, inS m n = inS l n) ∧ m.length ≤ l.length ∧ Row2 w' u m ∧ Below w.heap.size w w' :=
  (norm_own v l w hl hg hv).mono fun _ _ ⟨u, m, he, h1, h2, h3, h4, h5⟩ => ⟨u, m, he, h1, h2, h3, Row2.of_owns h4, h5⟩

end Go.Proofs.YtjjlkjfhhpogaaaDoorS1
