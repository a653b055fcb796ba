/-
  The walk of 'kind': a text that all communities of one kind share.
-/
import Derived.Test.YtepioggejacfjaaRal
import Derived.Laws.BytesArg
import Derived.Laws.OwnMore
import Derived.Deep.OwnRows
namespace Go.Proofs.Ytepioggejacfjaa
open Go.RowKit

/-- A letter for each box. -/
def kindL (l : List Sp) (c : Int) : List Int := l.map fun s => if inB s c then 105 else 111

theorem kindL_take_succ {l : List Sp} {k : Nat} {x : Sp} {c : Int} (hx : l[k]? = some x) : kindL (l.take (k + 1)) c = kindL (l.take k) c ++ [if inB x c then 105 else 111] := by
  rw [take_succ_of hx]
  simp [kindL]

/-- The text. -/
def kindS (l : List Sp) (c : Int) : ByteArray := strOfNums (kindL l c)

theorem kindS_size (l : List Sp) (c : Int) : (kindS l c).size = l.length := by
  unfold kindS
  rw [strOfNums_size]
  simp [kindL]

theorem kindS_eq {l : List Sp} {c d : Int} : (kindS l c).data.toList = (kindS l d).data.toList ↔ alike l c d = true := by
  unfold kindS
  rw [strOfNums_data, strOfNums_data, alike_iff]
  unfold kindL
  rw [List.map_map, List.map_map, List.map_inj_left]
  constructor
  · intro h s hs
    have := h s hs
    simp only [Function.comp] at this
    cases h1 : inB s c <;> cases h2 : inB s d <;> simp [h1, h2] at this ⊢
  · intro h s hs
    simp only [Function.comp]
    rw [h s hs]

/-- The call owns this row of bytes. -/
def Own8 (base : Nat) (w : World) (v : Value) (l : List Int) : Prop := w.ownsRow base 5 1 v l.length (l.map (Value.int .u8))

theorem Own8.alloc {base : Nat} {w : World} {v : Value} {l : List Int} (h : Own8 base w v l) (o : Obj) : Own8 base (w.alloc o) v l := World.ownsRow.alloc h o

theorem Own8.kept {base : Nat} {w w' : World} {v : Value} {l : List Int} (h : Own8 base w v l) (hB : Below w.heap.size w w') : Own8 base w' v l :=
  World.ownsRow.kept h (row := none) ⟨hB.os, hB.tape, hB.output, hB.size, fun k hk _ => hB.block k hk⟩ (by cases (Value.ownBlock v) <;> simp)

theorem Own8.cells {base : Nat} {w : World} {g n cap : Nat} {l : List Int} (h : Own8 base w (.slice (some ⟨g, 0, none⟩) n cap) l) :
    g < w.heap.size ∧ (∀ o, w.frozen? ⟨g, o, none⟩ = false) ∧ ∀ (i : Nat) x, l[i]? = some x → w.cell? ⟨g, i, none⟩ = some (.int .u8 x) := by
  have hc := World.ownsRow.cells h (g := g) rfl
  rcases h.2 with ⟨hv, _⟩ | ⟨g', cap', cur, hv, hb, hg, hn, hm, hs, ht⟩
  · cases hv
  · simp at hv
    obtain ⟨rfl, _⟩ := hv
    refine ⟨(Array.getElem?_eq_some_iff.1 hg).1, fun o => by simp [World.frozen?, hg], fun i x hx => ?_⟩
    have a1 := hc i (.int .u8 x) (by simp [hx])
    have hadd : (⟨g, 0, none⟩ : Addr).add i = ⟨g, i, none⟩ := by unfold Addr.add; split <;> simp_all
    rw [hadd] at a1
    exact a1

theorem Own8.set {base : Nat} {w : World} {g n cap : Nat} {l : List Int} (h : Own8 base w (.slice (some ⟨g, 0, none⟩) n cap) l) (j : Nat) (z : Int) :
    Own8 base (w.setCell ⟨g, j, none⟩ (.int .u8 z)) (.slice (some ⟨g, 0, none⟩) n cap) (l.set j z) := by
  have hn : n = l.length := by
    rcases h.2 with ⟨hv, _⟩ | ⟨g', cap', cur, hv, _⟩
    · simp at hv
    · simp at hv; omega
  subst hn
  have := owns_set (n := l.length) h j (.int .u8 z)
  rw [← List.map_set] at this
  simpa [Own8] using this

theorem info5 : (Try.prog.info? 5).map (fun i => (i.zero, i.size, i.bytes)) = some (some (.int .u8 0), 1, 1) := by kernel_rfl

theorem Own8.made (w : World) (n : Nat) (hn : n ≤ 1000) : Own8 w.heap.size (w.alloc (.cells (madeCells #[.int .u8 0] n) 5)) (.slice (some ⟨w.heap.size, 0, none⟩) n n) (List.replicate n 0) := by
  refine ⟨by simp, .inr ⟨w.heap.size, n, madeCells #[.int .u8 0] n, by simp, Nat.le_refl _, heap_alloc_new w _, by simp, by unfold maxLen; omega, by simp [size_madeCells], ?_⟩⟩
  rw [toList_madeCells_one]
  simp

theorem take_set_same (xs : List Int) (k : Nat) (z : Int) : (xs.set k z).take k = xs.take k := by
  rw [List.take_set, List.set_eq_of_length_le (by simp; omega)]

theorem take_set_succ {xs : List Int} {k : Nat} {z : Int} (h : k < xs.length) : (xs.set k z).take (k + 1) = xs.take k ++ [z] := by
  rw [List.take_add_one, take_set_same]
  simp [h]

set_option maxHeartbeats 1000000 in
theorem kind_any (v : Value) (l : List Sp) (c : Int) (w : World) (hl : l.length ≤ 64) (hg : Good l) (hn : Num c) (hv : Row2 w v l) :
    Calls Try.prog 27 #[v, .int .u32 c] w fun e w' => e = .returned (.string (kindS l c)) ∧ Below w.heap.size w w' := by
  obtain ⟨ao, cap, rfl, hc, _⟩ := hv
  have HG : Hid (Good l) := hg
  have HN : Hid (Num c) := hn
  clear hg hn
  have hmk := run_make_row' (P := Try.prog) 62 5 (.int .u8 0) 1 Try.underlying62 info5 rfl .i64 .i64 l.length (by omega) (by omega)
  go_enter Try.func27, Try.ntmps27
  go_wp2_with fail
  clear hmk
  go_loopw [13] (fun i wr => ∃ (k : Nat) (xs : List Int), k ≤ l.length ∧ i = .int .i64 k ∧ xs.length = l.length ∧ Hid (xs.take k = kindL (l.take k) c) ∧ Own8 w.heap.size wr (.slice (some ⟨w.heap.size, 0, none⟩) l.length l.length) xs ∧ Below w.heap.size w wr) (fun i _ => l.length - (intOf i).toNat)
  case atStart => exact ⟨0, List.replicate l.length 0, Nat.zero_le _, rfl, by simp, (by show _ = _; simp [kindL]), Own8.made w l.length (by omega), (Below.refl _ _).alloc (Nat.le_refl _) _⟩
  case round =>
    obtain ⟨k, xs, hk, rfl, hxl, HX, hown, hB⟩ := hrel
    have hB' := hB.size
    have HXL : Hid (xs.length = l.length) := hxl
    by_cases hlt : k < l.length
    · obtain ⟨ba, offa, rfl, hba, hcella⟩ := hc (ne_nil_of_lt hlt)
      obtain ⟨x, hx⟩ : ∃ x, l[k]? = some x := ⟨_, List.getElem?_eq_getElem hlt⟩
      obtain ⟨c1, c2⟩ := hcella k x hx
      have c1' : wr.cell? ⟨ba, offa + k * 2, none⟩ = some (.int .u32 x.1) := (hB.cell (by exact hba)).trans c1
      have c2' : wr.cell? ⟨ba, offa + k * 2 + 1, none⟩ = some (.int .u32 x.2) := (hB.cell (by exact hba)).trans c2
      have HT : Hid (kindL (l.take (k + 1)) c = kindL (l.take k) c ++ [if inB x c then 105 else 111]) := kindL_take_succ hx
      obtain ⟨y, hy⟩ : ∃ y, xs[k]? = some y := ⟨_, List.getElem?_eq_getElem (by omega)⟩
      obtain ⟨hgb, hfr, hce⟩ := hown.cells
      have d1 := hce k y hy
      have d2 := hfr k
      have hcall := fun W => in_any x c (HG.out.at hx) HN.out W
      have O1 := (hown.set k 111).alloc (.cells #[.int .u32 x.1, .int .u32 x.2] 26)
      have B1 := (hB.setCell (p := ⟨w.heap.size, k, none⟩) (Nat.le_refl _) (.int .u8 111)).alloc (by simp; omega) (.cells #[.int .u32 x.1, .int .u32 x.2] 26)
      clear hc hcella c1 c2 hx hy hce hfr hown hxl
      go_wp2_with fail
      refine (hcall _).mono ?_
      rintro e w1 ⟨rfl, hgr⟩
      have B2 := B1.trans ((Grown.below hgr).mono B1.size)
      have O2 := O1.kept (Grown.below hgr)
      have hB2 := B2.size
      obtain ⟨hgb2, hfr2, hce2⟩ := O2.cells
      have e1 := hce2 k 111 (by rw [List.getElem?_set_self (by rw [HXL.out]; exact hlt)])
      have e2 := hfr2 k
      clear hcall hgr B1 O1 hce2 hfr2
      cases hq : inB x c with
      | true =>
        have O3 := O2.set k 105
        have B3 := B2.setCell (p := ⟨w.heap.size, k, none⟩) (Nat.le_refl _) (.int .u8 105)
        have HE : Hid (((xs.set k 111).set k 105).take (k + 1) = kindL (l.take (k + 1)) c) := by
          show _ = _
          rw [take_set_succ (by simp [HXL.out]; exact hlt), HT.out, hq, ← HX.out]
          rw [take_set_same]
          rfl
        go_wp2_with fail
        go_roundw
        case rel => exact ⟨k + 1, (xs.set k 111).set k 105, by omega, by go_num, by simp [HXL.out], HE, O3, B3⟩
        case measure => simp [intOf]; omega
      | false =>
        have HE : Hid ((xs.set k 111).take (k + 1) = kindL (l.take (k + 1)) c) := by
          show _ = _
          rw [take_set_succ (by rw [HXL.out]; exact hlt), HT.out, hq, ← HX.out]
          rfl
        go_wp2_with fail
        go_roundw
        case rel => exact ⟨k + 1, xs.set k 111, by omega, by go_num, by simp [HXL.out], HE, O2, B2⟩
        case measure => simp [intOf]; omega
    · have hke : k = l.length := by omega
      subst hke
      have ex : xs = kindL l c := by
        have := HX.out
        rw [List.take_length, List.take_of_length_le (by omega)] at this
        exact this
      subst ex
      obtain ⟨hgb, hfr, hce⟩ := hown.cells
      have hcv := fun W (hW : W = wr) => run_convert_bytes_arg (P := Try.prog) wr 62 5 Try.underlying62 Try.underlying5 w.heap.size 0 l.length l.length (kindL l c) HXL.out (fun i hi => by
        rw [Nat.zero_add]
        have hi' : i < (kindL l c).length := by rw [HXL.out]; exact hi
        rw [hce i _ (List.getElem?_eq_getElem hi')]
        simp [List.getD, List.getElem?_eq_getElem hi'])
      have hcv2 := hcv wr rfl 9 Try.underlying9
      clear hc hce hfr hcv hxl
      go_wp2_with fail
      go_ret
      exact ⟨rfl, hB⟩
end Go.Proofs.Ytepioggejacfjaa
