/-
  The walk of Cells.
-/
import Derived.Test.YtepioggejacfjaaCut
import Derived.Test.YtepioggejacfjaaKnd
import Derived.Maps.OwnSet
namespace Go.Proofs.Ytepioggejacfjaa
open Go.RowKit Go.Maps

theorem law9 : Keyed Try.prog 9 := string_keyed Try.underlying9
theorem zero55 (w : World) : (zeroValue 55).run Try.prog w = .ok (.agg #[]) w := Try.zeroValue55 w

/-- A kind as a map's key. -/
def klit (l : List Sp) (c : Int) : Lit := .string (kindS l c).data.toList

theorem klit_key (l : List Sp) (c : Int) (hl : l.length ≤ 64) : keyOf Try.prog 9 (.string (kindS l c)) = some (klit l c) :=
  Go.WideMaps.keyOf_string_mk Try.underlying9 (by rw [kindS_size]; unfold maxLen; omega)

theorem klit_same (l : List Sp) (c d : Int) : (klit l d).sameKey (klit l c) = alike l c d := by
  apply bool_eq
  rw [← kindS_eq]
  unfold klit
  simp [Lit.sameKey]
  constructor <;> (intro h; exact h.symm)

/-- The kinds that were met. -/
abbrev metOf (l : List Sp) (o : List Int) : DataW Unit := setOf (.agg []) (o.map (klit l))

theorem met_has (l : List Sp) (o : List Int) (c : Int) : Maps.has (metOf l o) (klit l c) = o.any fun d => alike l c d := by
  unfold metOf
  rw [has_setOf]
  · rw [List.any_map]
    congr 1
    funext d
    exact klit_same l c d
  · intro x hx
    obtain ⟨d, _, rfl⟩ := List.mem_map.1 hx
    unfold klit
    trivial

theorem owns_at {w w' : World} {R : Value → Option (DataW Unit × List MemPlace)} {b n : Nat} {D : DataW Unit} (h : w.ownsMap Try.prog 9 R b n D) (e : w'.heap[b]? = w.heap[b]?) : w'.ownsMap Try.prog 9 R b n D := by
  obtain ⟨es, clock, hb, r⟩ := h
  exact ⟨es, clock, e.trans hb, r⟩

set_option maxHeartbeats 400000 in
theorem cells_full (v : Value) (l : List Sp) (w : World) (hl : 64 < l.length) (hv : Row2 w v l) :
    Calls Try.prog 15 #[v] w fun e w' => e = .returned (.tuple #[.slice none 0 0, .int .i64 6]) ∧ w' = w := by
  obtain ⟨ao, cap, rfl, hr, _⟩ := hv
  clear hr
  go_enter Try.func15, Try.ntmps15
  go_wp2_with fail
  go_ret2
  exact ⟨rfl, rfl⟩

set_option maxHeartbeats 4000000 in
theorem cells_any (v : Value) (l : List Sp) (w : World) (hl : l.length ≤ 64) (hg : Good l) (hv : Row2 w v l) :
    Calls Try.prog 15 #[v] w fun e w' => ∃ u o, e = .returned (.tuple #[u, .int .i64 0]) ∧ IsCells l o ∧ Row1 w' u o ∧ Below w.heap.size w w' := by
  have HV : Hid (Row2 w v l) := hv
  have HG : Hid (Good l) := hg
  obtain ⟨ao, cap, rfl, _⟩ := hv
  have hcut := cuts_any _ l w hl hg HV.out
  have hmm := @run_makeMap Try.prog
  clear hg
  go_enter Try.func15, Try.ntmps15
  go_wp2_with fail
  refine hcut.mono ?_
  rintro e w1 ⟨X, Y, gX, cX, gY, cY, rfl, hX, hY, hXl, hYl, hgX, hgY, hcX, hcY, B1⟩
  have HX : Hid (Begs hiP l X) := hX
  have HY : Hid (Begs loP l Y) := hY
  have HXr : Hid (∀ x ∈ X, 0 ≤ x ∧ x ≤ 65535) := hX.rng (good_hi HG.out)
  have HYr : Hid (∀ y ∈ Y, 0 ≤ y ∧ y ≤ 65535) := hY.rng (good_lo HG.out)
  have HCX : Hid (∀ (i : Nat) x, X[i]? = some x → w1.cell? ⟨gX, i, none⟩ = some (.float .f64 (fl x))) := hcX
  have HCY : Hid (∀ (i : Nat) x, Y[i]? = some x → w1.cell? ⟨gY, i, none⟩ = some (.float .f64 (fl x))) := hcY
  have hB1w := B1.size
  clear hcut hX hY hcX hcY
  go_wp2_with fail
  go_loopw [6, 27] (fun out i wr => ∃ (k : Nat) (o : List Int), k ≤ X.length ∧ i = .int .i64 k ∧ Own1 (w1.heap.size + 1) wr out o ∧ Hid (o = cellsFold l [] (corners (X.take k) Y)) ∧ wr.ownsMap Try.prog 9 (unitElem (H := Unit)) w1.heap.size o.length (metOf l o) ∧ Below w1.heap.size w1 wr ∧ w1.heap.size + 1 ≤ wr.heap.size) (fun _ i _ => X.length - (intOf i).toNat)
  case atStart => exact ⟨0, [], Nat.zero_le _, rfl, Own1.nil _ _, rfl, World.ownsMap_made _ _ _ _, (Below.refl _ _).alloc (Nat.le_refl _) _, by simp⟩
  case round =>
    clear hmm
    obtain ⟨k, o, hk, rfl, hown, HO, hmap, hB1, hBs⟩ := hrel
    by_cases hlt : k < X.length
    · obtain ⟨x, hx⟩ : ∃ x, X[k]? = some x := ⟨_, List.getElem?_eq_getElem hlt⟩
      have c1' : wr.cell? ⟨gX, k, none⟩ = some (.float .f64 (fl x)) := (hB1.cell (by exact hgX)).trans (HCX.out k x hx)
      have hxr := HXr.out x (List.mem_of_getElem? hx)
      have HXK : Hid (X[k]? = some x) := hx
      clear hx
      go_wp2_with fail
      go_loopw [6, 33] (fun out j wq => ∃ (p : Nat) (o' : List Int), p ≤ Y.length ∧ j = .int .i64 p ∧ Own1 (w1.heap.size + 1) wq out o' ∧ Hid (o' = cellsAt l X Y k x p) ∧ wq.ownsMap Try.prog 9 (unitElem (H := Unit)) w1.heap.size o'.length (metOf l o') ∧ Below w1.heap.size w1 wq ∧ w1.heap.size + 1 ≤ wq.heap.size) (fun _ j _ => Y.length - (intOf j).toNat)
      case atStart => exact ⟨0, o, Nat.zero_le _, rfl, hown, (by show o = _; rw [cellsAt_zero]; exact HO.out), hmap, hB1, hBs⟩
      case round =>
        clear hB1 HO hown hmap hBs c1'
        obtain ⟨p, o', hp, rfl, hown, HO, hmap, hB1, hBs⟩ := hrel
        have hB1' := hB1.size
        have hB : Below w.heap.size w wr := B1.trans (hB1.mono hB1w)
        by_cases hpl : p < Y.length
        · obtain ⟨y, hy⟩ : ∃ y, Y[p]? = some y := ⟨_, List.getElem?_eq_getElem hpl⟩
          have c1' : wr.cell? ⟨gY, p, none⟩ = some (.float .f64 (fl y)) := (hB1.cell (by exact hgY)).trans (HCY.out p y hy)
          have hyr := HYr.out y (List.mem_of_getElem? hy)
          have hnum : Num (65536 * x + y) := by unfold Num; omega
          have hol := cellsAt_bound l k x p (X := X) (Y := Y) (by omega) (by omega)
          rw [← HO.out] at hol
          have HSU : Hid (cellsAt l X Y k x (p + 1) = cellStep l o' (65536 * x + y)) := by
            have := cellsAt_succ (l := l) (X := X) (k := k) (x := x) hy
            rw [← HO.out] at this
            exact this
          have hcom := fun W => community_any x y hxr.1 hxr.2 hyr.1 hyr.2 W
          have hkind := kind_any _ l (65536 * x + y) wr hl HG.out hnum (HV.out.kept hB (Nat.le_refl _))
          have hkey := klit_key l (65536 * x + y) hl
          have hhas := met_has l o' (65536 * x + y)
          generalize kindS l (65536 * x + y) = ks at hkind hkey
          obtain ⟨aO, cO, rfl⟩ := hown.form
          clear hy hnum hB
          go_wp2_with fail
          refine (hcom _).mono ?_
          rintro e w2 ⟨rfl, rfl⟩
          go_wp2_with fail
          refine hkind.mono ?_
          rintro e w3 ⟨rfl, B3⟩
          have hown3 := hown.kept B3
          have hmap3 : w3.ownsMap Try.prog 9 (unitElem (H := Unit)) w1.heap.size o'.length (metOf l o') := owns_at hmap (B3.block _ hmap.lt)
          have BT1 : Below w1.heap.size w1 w3 := hB1.trans (B3.mono hB1')
          have hBT1 := BT1.size
          have hBs3 : w1.heap.size + 1 ≤ w3.heap.size := Nat.le_trans hBs B3.size
          clear hcom hkind hown hmap hB1 hB1' hBs B3
          cases hsn : o'.any fun d => alike l (65536 * x + y) d with
          | true =>
            have HE : Hid (o' = cellsAt l X Y k x (p + 1)) := by
              show o' = _
              rw [HSU.out]
              unfold cellStep
              rw [if_pos hsn]
            rw [hsn] at hhas
            go_wp2_with (first | (at_lookup; refine wpList_lookup_own_unit _ rfl _ _ 52 rfl 9 55 law9 Try.underlying52 (zero55 _) w1.heap.size _ _ rfl hmap3 _ _ rfl hkey ?_; rw [hhas]))
            go_roundw
            case rel => exact ⟨p + 1, o', by omega, by go_num, hown3.alloc _, HE, hmap3.alloc _, BT1.alloc hBT1 _, by simp; omega⟩
            case measure => simp [intOf]; omega
          | false =>
            have HE : Hid (o' ++ [65536 * x + y] = cellsAt l X Y k x (p + 1)) := by
              show _ = _
              rw [HSU.out]
              unfold cellStep
              rw [if_neg (by rw [hsn]; simp)]
            rw [hsn] at hhas
            go_wp2_with (first
              | (at_lookup; refine wpList_lookup_own_unit _ rfl _ _ 52 rfl 9 55 law9 Try.underlying52 (zero55 _) w1.heap.size _ _ rfl hmap3 _ _ rfl hkey ?_; rw [hhas])
              | (at_mapUpdate
                 refine wpList_mapUpdate_own _ rfl _ _ _ 52 rfl 9 55 law9 Try.underlying52 _ w1.heap.size o'.length _ rfl (hmap3.alloc _) (by unfold maxLen; omega) _ _ _ rfl rfl hkey _ [] unitElem_mk ?_
                 intro w4 hmap4 hgrow4
                 have own4 : Own1 (w1.heap.size + 1) w4 (.slice aO o'.length cO) o' := World.ownsRow.kept (hown3.alloc _) hgrow4 (Or.inr (fun e => by have := (World.ownsRow.lt hown3 _ e).1; omega))
                 have B4 : Below w1.heap.size w1 w4 := (BT1.alloc hBT1 _).grown hgrow4 (by simp; omega) (fun j hj => by cases hj; exact Nat.le_refl _)
                 have hs4 : w1.heap.size + 1 ≤ w4.heap.size := by have := hgrow4.size; simp at this; omega
                 clear hgrow4)
              | (at_builtin
                 refine wp_app1 rfl _ _ rfl (w1.heap.size + 1) (.slice aO o'.length cO) o' rfl (own4.alloc _) (65536 * x + y) w4.heap.size rfl (by simp [go_sem]) (by omega) (by simp; omega) ?_
                 intro g5 cap5 w5 how5 hB5 hg51 hg52 hgg5 hoth5))
            have B5 : Below w1.heap.size w1 w5 := (B4.alloc (by omega) _).trans (hB5.mono (by omega))
            have hmap5 : w5.ownsMap Try.prog 9 (unitElem (H := Unit)) w1.heap.size (o'.length + 1) (metOf l (o' ++ [65536 * x + y])) := by
              have h1 := owns_at (hmap4.alloc (.cells #[.int .u32 (65536 * x + y)] 23)) (hoth5 w1.heap.size (by simp; omega) (fun e => by have := (World.ownsRow.lt own4 _ e).1; omega))
              unfold metOf
              rw [List.map_append, List.map_singleton, setOf_snoc]
              exact h1
            have hs5 : w1.heap.size + 1 ≤ w5.heap.size := by omega
            go_roundw
            case rel => exact ⟨p + 1, o' ++ [65536 * x + y], by omega, by go_num, how5, HE, by rw [List.length_append]; exact hmap5, B5, hs5⟩
            case measure => simp [intOf]; omega
        · have hpe : p = Y.length := by omega
          subst hpe
          have HE : Hid (o' = cellsFold l [] (corners (X.take (k + 1)) Y)) := by
            show o' = _
            rw [← cellsAt_end HXK.out]
            exact HO.out
          clear HO hB
          go_wp2_with fail
          go_roundw
          case rel => exact ⟨k + 1, o', by omega, by go_num, hown, HE, hmap, hB1, hBs⟩
          case measure => simp [intOf]; omega
    · have HE : Hid (IsCells l o) := ⟨X, Y, HX.out, HY.out, by
        have := HO.out
        rw [List.take_of_length_le (by omega)] at this
        exact this⟩
      have hB : Below w.heap.size w wr := B1.trans (hB1.mono hB1w)
      go_wp2_with fail
      go_ret2
      exact ⟨_, o, rfl, HE.out, Row1.of_owns hown, hB⟩
end Go.Proofs.Ytepioggejacfjaa
