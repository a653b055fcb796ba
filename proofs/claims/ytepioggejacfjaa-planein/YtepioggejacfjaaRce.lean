/-
  The walk of the document's own Cells.
-/
import Derived.Test.YtepioggejacfjaaRal
namespace Go.Proofs.Ytepioggejacfjaa
open Go.RowKit

theorem Own1.kept {base : Nat} {w w' : World} {v : Value} {l : List Int} (h : Own1 base w v l) (hB : Below w.heap.size w w') : Own1 base w' v l := by
  refine ⟨h.1, ?_⟩
  rcases h.2 with h0 | ⟨g, cap, cur, hv, hb, hg, hn, hm, hs, ht⟩
  · exact .inl h0
  · refine .inr ⟨g, cap, cur, hv, hb, ?_, hn, hm, hs, ht⟩
    have hlt := (Array.getElem?_eq_some_iff.1 hg).1
    rw [hB.block g hlt]
    exact hg

theorem Own1.nil (base : Nat) (w : World) : Own1 base w (.slice none 0 0) [] := World.ownsRow_nil w base 23 1

theorem Own1.keptAt {base : Nat} {w w' : World} {g n cap : Nat} {l : List Int} (h : Own1 base w (.slice (some ⟨g, 0, none⟩) n cap) l) (e : w'.heap[g]? = w.heap[g]?) : Own1 base w' (.slice (some ⟨g, 0, none⟩) n cap) l := by
  refine ⟨h.1, ?_⟩
  rcases h.2 with h0 | ⟨g', cap', cur, hv, hb, hg, hn, hm, hs, ht⟩
  · exact .inl h0
  · refine .inr ⟨g', cap', cur, hv, hb, ?_, hn, hm, hs, ht⟩
    simp at hv
    rw [← hv.1, e, hv.1]
    exact hg

theorem Own1.lower {base base' : Nat} {w : World} {v : Value} {l : List Int} (h : Own1 base w v l) (hb : base' ≤ base) : Own1 base' w v l := by
  refine ⟨h.1, ?_⟩
  rcases h.2 with h0 | ⟨g, cap, cur, hv, hbg, hg, hn, hm, hs, ht⟩
  · exact .inl h0
  · exact .inr ⟨g, cap, cur, hv, Nat.le_trans hb hbg, hg, hn, hm, hs, ht⟩

/-- Where kinds may begin: there is such a list. -/
theorem begs_exists {f : Int → Int} {l : List Sp} (hf : ∀ s ∈ l, (0 ≤ f s.1 ∧ f s.1 ≤ 65535) ∧ 0 ≤ f s.2) : ∃ b, Begs f l b := by
  refine ⟨((List.range 65536).map fun n : Nat => (n : Int)).filter fun x => decide (x = 0) || l.any fun s => decide (x = f s.1) || (decide (f s.2 < 65535) && decide (x = f s.2 + 1)), ?_, fun x => ?_⟩
  · refine List.Pairwise.filter _ (List.pairwise_map.2 (List.pairwise_lt_range.imp fun h => by omega))
  · rw [List.mem_filter]
    have e : (decide (x = 0) || l.any fun s => decide (x = f s.1) || (decide (f s.2 < 65535) && decide (x = f s.2 + 1))) = true ↔ (x = 0 ∨ ∃ s ∈ l, x = f s.1 ∨ (f s.2 < 65535 ∧ x = f s.2 + 1)) := by simp
    rw [e]
    constructor
    · exact fun h => h.2
    · intro h
      refine ⟨?_, h⟩
      have hr : 0 ≤ x ∧ x ≤ 65535 := by
        rcases h with rfl | ⟨s, hs, rfl | ⟨h1, rfl⟩⟩
        · omega
        · exact (hf s hs).1
        · have := (hf s hs).2; omega
      exact List.mem_map.2 ⟨x.toNat, List.mem_range.2 (by omega), by omega⟩

theorem corners_take_succ {X Y : List Int} {k : Nat} {x : Int} (hx : X[k]? = some x) : corners (X.take (k + 1)) Y = corners (X.take k) Y ++ Y.map fun y => 65536 * x + y := by
  rw [take_succ_of hx]
  simp [corners]

/-- The cells after some corners. -/
def cellsAt (l : List Sp) (X Y : List Int) (k : Nat) (x : Int) (j : Nat) : List Int := cellsFold l [] (corners (X.take k) Y ++ (Y.take j).map fun y => 65536 * x + y)

theorem cellsAt_zero (l : List Sp) (X Y : List Int) (k : Nat) (x : Int) : cellsAt l X Y k x 0 = cellsFold l [] (corners (X.take k) Y) := by
  simp [cellsAt]
theorem cellsAt_succ {l : List Sp} {X Y : List Int} {k : Nat} {x : Int} {j : Nat} {y : Int} (hy : Y[j]? = some y) : cellsAt l X Y k x (j + 1) = cellStep l (cellsAt l X Y k x j) (65536 * x + y) := by
  unfold cellsAt
  rw [take_succ_of hy, List.map_append, ← List.append_assoc]
  exact cellsFold_snoc _ _ _ _
theorem cellsAt_end {l : List Sp} {X Y : List Int} {k : Nat} {x : Int} (hx : X[k]? = some x) : cellsAt l X Y k x Y.length = cellsFold l [] (corners (X.take (k + 1)) Y) := by
  unfold cellsAt
  rw [List.take_length, corners_take_succ hx]

theorem cells_bound (l : List Sp) {X Y : List Int} (k : Nat) (hX : X.length ≤ 129) (hY : Y.length ≤ 129) : (cellsFold l [] (corners (X.take k) Y)).length ≤ 16641 := by
  have h1 := cellsFold_length l (corners (X.take k) Y) []
  rw [corners_length] at h1
  have h2 : (X.take k).length ≤ 129 := by simp; omega
  have h3 : (X.take k).length * Y.length ≤ 129 * 129 := Nat.mul_le_mul h2 hY
  simp at h1 h3
  simp
  omega

theorem cellsAt_bound (l : List Sp) {X Y : List Int} (k : Nat) (x : Int) (j : Nat) (hX : X.length ≤ 129) (hY : Y.length ≤ 129) : (cellsAt l X Y k x j).length ≤ 16770 := by
  unfold cellsAt
  have h1 := cellsFold_length l (corners (X.take k) Y ++ (Y.take j).map fun y => 65536 * x + y) []
  rw [List.length_append, corners_length] at h1
  have h2 : (X.take k).length ≤ 129 := by simp; omega
  have h3 : (X.take k).length * Y.length ≤ 129 * 129 := Nat.mul_le_mul h2 hY
  have h4 : ((Y.take j).map fun y => 65536 * x + y).length ≤ 129 := by simp; omega
  have h5 : ([] : List Int).length = 0 := rfl
  omega

/-- All of a list of cells are numbers of 32 bits. -/
theorem cellsAt_num {l : List Sp} {X Y : List Int} {k : Nat} {x : Int} {j : Nat} (hX : ∀ x ∈ X, 0 ≤ x ∧ x ≤ 65535) (hY : ∀ y ∈ Y, 0 ≤ y ∧ y ≤ 65535) (hx : 0 ≤ x ∧ x ≤ 65535) : ∀ d ∈ cellsAt l X Y k x j, Num d := fun d hd => by
  unfold cellsAt at hd
  obtain ⟨t, ht, hsub⟩ := cellsFold_sub l (corners (X.take k) Y ++ (Y.take j).map fun y => 65536 * x + y) []
  rw [ht, List.nil_append] at hd
  rcases List.mem_append.1 (hsub.subset hd) with h | h
  · obtain ⟨a, ha, b, hb, rfl⟩ := mem_corners.1 h
    have := hX a (List.mem_of_mem_take ha)
    have := hY b hb
    unfold Num; omega
  · obtain ⟨b, hb, rfl⟩ := List.mem_map.1 h
    have := hY b (List.mem_of_mem_take hb)
    unfold Num; omega

theorem Row1.cell {w : World} {v : Value} {l : List Int} (h : Row1 w v l) : ∃ ao cap, v = .slice ao l.length cap ∧ ∀ (k : Nat) x, l[k]? = some x → ∃ b off, ao = some ⟨b, off, none⟩ ∧ b < w.heap.size ∧ w.cell? ⟨b, off + k, none⟩ = some (.int .u32 x) := by
  obtain ⟨ao, cap, rfl, hc⟩ := h
  refine ⟨ao, cap, rfl, fun k x hx => ?_⟩
  obtain ⟨b, off, h1, h2, h3⟩ := hc (by intro e; subst e; simp at hx)
  exact ⟨b, off, h1, h2, h3 k x hx⟩

set_option maxHeartbeats 400000 in
theorem rcells_full (v : Value) (l : List Sp) (w : World) (hl : 64 < l.length) (hv : Row2 w v l) :
    Calls Try.prog 16 #[v] w fun e w' => e = .returned (.tuple #[.slice none 0 0, .int .i64 6]) ∧ w' = w := by
  obtain ⟨ao, cap, rfl, hr, _⟩ := hv
  clear hr
  go_enter Try.func16, Try.ntmps16
  go_wp2_with fail
  go_ret2
  exact ⟨rfl, rfl⟩

set_option maxHeartbeats 4000000 in
theorem rcells_any (v : Value) (l : List Sp) (w : World) (hl : l.length ≤ 64) (hg : Good l) (hv : Row2 w v l) :
    Calls Try.prog 16 #[v] w fun e w' => ∃ u o, e = .returned (.tuple #[u, .int .i64 0]) ∧ IsCells l o ∧ Row1 w' u o ∧ Below w.heap.size w w' := by
  have HV : Hid (Row2 w v l) := hv
  have HG : Hid (Good l) := hg
  obtain ⟨ao, cap, rfl, _⟩ := hv
  obtain ⟨Y, hY0⟩ := begs_exists (good_lo hg)
  have HY : Hid (Begs loP l Y) := hY0
  have HYr : Hid (∀ y ∈ Y, 0 ≤ y ∧ y ≤ 65535) := hY0.rng (good_lo hg)
  have hbx := rbegins_hi _ l w hl hg HV.out
  clear hg hY0
  go_enter Try.func16, Try.ntmps16
  go_wp2_with fail
  refine hbx.mono ?_
  rintro e w1 ⟨u1, X, rfl, hX, hXl, hXo, B1⟩
  have HX : Hid (Begs hiP l X) := hX
  have HXr : Hid (∀ x ∈ X, 0 ≤ x ∧ x ≤ 65535) := hX.rng (good_hi HG.out)
  obtain ⟨gX, cX, rfl, _, hgX, _, _, hcX⟩ := hXo.shape hX.ne
  have HCX : Hid (∀ (i : Nat) x, X[i]? = some x → w1.cell? ⟨gX, i, none⟩ = some (.int .u32 x)) := hcX
  have hB1w := B1.size
  clear hbx hX hXo hcX
  go_wp2_with fail
  go_loopw [4, 19] (fun out i wr => ∃ (k : Nat) (o : List Int), k ≤ X.length ∧ i = .int .i64 k ∧ Own1 w1.heap.size wr out o ∧ Hid (o = cellsFold l [] (corners (X.take k) Y)) ∧ Below w1.heap.size w1 wr) (fun _ i _ => X.length - (intOf i).toNat)
  case atStart => exact ⟨0, [], Nat.zero_le _, rfl, Own1.nil _ _, rfl, Below.refl _ _⟩
  case round =>
    obtain ⟨k, o, hk, rfl, hown, HO, hB1⟩ := hrel
    have hB1' := hB1.size
    have hB : Below w.heap.size w wr := B1.trans (hB1.mono hB1w)
    by_cases hlt : k < X.length
    · obtain ⟨x, hx⟩ : ∃ x, X[k]? = some x := ⟨_, List.getElem?_eq_getElem hlt⟩
      have c1' : wr.cell? ⟨gX, k, none⟩ = some (.int .u32 x) := (hB1.cell (by exact hgX)).trans (HCX.out k x hx)
      have hxr := HXr.out x (List.mem_of_getElem? hx)
      have HXK : Hid (X[k]? = some x) := hx
      have hby := rbegins_lo _ l wr hl HG.out (HV.out.kept hB (Nat.le_refl _))
      clear hx
      go_wp2_with fail
      refine hby.mono ?_
      rintro e w2 ⟨u2, Y', rfl, hY', hYl, hYo, B2⟩
      have eY : Y' = Y := hY'.unique HY.out
      subst eY
      obtain ⟨gY, cY, rfl, hgY0, hgY, _, _, _⟩ := hYo.shape hY'.ne
      have hown2 := hown.kept B2
      have BW1 : Below w1.heap.size w1 w2 := hB1.trans (B2.mono hB1')
      have hne2 : u4.ownBlock ≠ some gY := hown.notAt hgY0
      have hob := cells_bound l k (X := X) (Y := Y') (by omega) (by omega)
      have hYo2 : Own1 w1.heap.size w2 (.slice (some ⟨gY, 0, none⟩) Y'.length cY) Y' := hYo.lower hB1'
      clear hby hown c1' hYo hB B2 hgY0
      go_wp2_with fail
      go_loopw [4, 26] (fun out j wq => ∃ (p : Nat) (o' : List Int), p ≤ Y'.length ∧ j = .int .i64 p ∧ Own1 w1.heap.size wq out o' ∧ Hid (o' = cellsAt l X Y' k x p) ∧ Below w1.heap.size w1 wq ∧ out.ownBlock ≠ some gY ∧ Own1 w1.heap.size wq (.slice (some ⟨gY, 0, none⟩) Y'.length cY) Y') (fun _ j _ => Y'.length - (intOf j).toNat)
      case atStart => exact ⟨0, o, Nat.zero_le _, rfl, hown2, (by show o = _; rw [cellsAt_zero]; exact HO.out), BW1, hne2, hYo2⟩
      case round =>
        clear hB1 hB1' HO hown2 BW1 hne2 hYo2
        obtain ⟨p, o', hp, rfl, hown, HO, hB1, hne, hYo⟩ := hrel
        have hB1' := hB1.size
        have hB : Below w.heap.size w wr := B1.trans (hB1.mono hB1w)
        have hB' := hB.size
        by_cases hpl : p < Y'.length
        · obtain ⟨y, hy⟩ : ∃ y, Y'[p]? = some y := ⟨_, List.getElem?_eq_getElem hpl⟩
          obtain ⟨gY2, cY2, hvY, _, hgY2, _, _, hcY⟩ := hYo.shape hY'.ne
          simp at hvY
          obtain ⟨rfl, rfl⟩ := hvY
          have c1' : wr.cell? ⟨gY, p, none⟩ = some (.int .u32 y) := hcY p y hy
          have hyr := HYr.out y (List.mem_of_getElem? hy)
          have hnum : Num (65536 * x + y) := by unfold Num; omega
          have HNU : Hid (Num (65536 * x + y)) := hnum
          have hol := cellsAt_bound l k x p (X := X) (Y := Y') (by omega) (by omega)
          rw [← HO.out] at hol
          have HON : Hid (∀ d ∈ o', Num d) := by
            have := cellsAt_num (l := l) (k := k) (j := p) HXr.out HYr.out hxr
            rw [← HO.out] at this
            exact this
          have HSU : Hid (cellsAt l X Y' k x (p + 1) = cellStep l o' (65536 * x + y)) := by
            have := cellsAt_succ (l := l) (X := X) (k := k) (x := x) hy
            rw [← HO.out] at this
            exact this
          obtain ⟨ao2, cap2, rfl⟩ := hown.form
          clear hcY hy hnum
          go_wp2_with fail
          go_loopw [10, 36] (fun seen j wq => ∃ (m : Nat) (s : Bool), m ≤ o'.length ∧ j = .int .i64 m ∧ seen = .bool s ∧ Hid (s = (o'.take m).any fun d => alike l (65536 * x + y) d) ∧ Below wr.heap.size wr wq) (fun _ j _ => o'.length - (intOf j).toNat)
          case atStart => exact ⟨0, false, Nat.zero_le _, rfl, rfl, rfl, Below.refl _ _⟩
          case round =>
            obtain ⟨m, sn, hm, rfl, rfl, HSN, hB3⟩ := hrel
            have hB3' := hB3.size
            have BT : Below w.heap.size w wr := hB.trans (hB3.mono hB')
            by_cases hml : m < o'.length
            · obtain ⟨d, hd⟩ : ∃ d, o'[m]? = some d := ⟨_, List.getElem?_eq_getElem hml⟩
              obtain ⟨g, cap3, hvo, _, hgo, _, _, hco⟩ := hown.shape (ne_nil_of_lt hml)
              simp at hvo
              obtain ⟨rfl, rfl⟩ := hvo
              have cd : wr.cell? ⟨g, m, none⟩ = some (.int .u32 d) := (hB3.cell (by exact hgo)).trans (hco m d hd)
              have HT : Hid (o'.take (m + 1) = o'.take m ++ [d]) := take_succ_of hd
              have hcall := alike_any _ l (65536 * x + y) d wr hl HG.out HNU.out (HON.out d (List.mem_of_getElem? hd)) (HV.out.kept BT (Nat.le_refl _))
              clear hco hd
              cases sn with
              | true =>
                have HS2 : Hid (true = (o'.take (m + 1)).any fun d => alike l (65536 * x + y) d) := by
                  show true = _
                  rw [HT.out, List.any_append, ← HSN.out]
                  rfl
                clear hcall
                go_wp2_with fail
                go_roundw
                case rel => exact ⟨m + 1, true, by omega, by go_num, rfl, HS2, hB3⟩
                case measure => simp [intOf]; omega
              | false =>
                have HS2 : Hid (alike l (65536 * x + y) d = (o'.take (m + 1)).any fun d => alike l (65536 * x + y) d) := by
                  show alike l (65536 * x + y) d = _
                  rw [HT.out, List.any_append, ← HSN.out]
                  simp
                generalize alike l (65536 * x + y) d = sn2 at hcall HS2
                go_wp2_with fail
                refine hcall.mono ?_
                rintro e w3 ⟨rfl, B3⟩
                go_wp2_with fail
                go_roundw
                case rel => exact ⟨m + 1, sn2, by omega, by go_num, rfl, HS2, hB3.trans (B3.mono hB3')⟩
                case measure => simp [intOf]; omega
            · have HS3 : Hid (sn = o'.any fun d => alike l (65536 * x + y) d) := by
                have := HSN.out
                rw [List.take_of_length_le (by omega)] at this
                exact this
              have hown3 := hown.kept hB3
              have hYo3 := hYo.kept hB3
              have BT1 : Below w1.heap.size w1 wr := hB1.trans (hB3.mono hB1')
              have hBT1 := BT1.size
              have hgY3 : gY < wr.heap.size := by omega
              clear HSN hB hB1 hB3 hB3' hYo hown BT
              cases sn with
              | true =>
                have HE : Hid (o' = cellsAt l X Y' k x (p + 1)) := by
                  show o' = _
                  rw [HSU.out]
                  unfold cellStep
                  rw [if_pos HS3.out.symm]
                go_wp2_with fail
                go_roundw
                case rel => exact ⟨p + 1, o', by omega, by go_num, hown3, HE, BT1, hne, hYo3⟩
                case measure => simp [intOf]; omega
              | false =>
                have HE : Hid (o' ++ [65536 * x + y] = cellsAt l X Y' k x (p + 1)) := by
                  show _ = _
                  rw [HSU.out]
                  unfold cellStep
                  rw [if_neg (by rw [← HS3.out]; simp)]
                go_wp2_with (at_builtin; refine wp_app1 rfl _ _ rfl w1.heap.size _ o' rfl (hown3.alloc _) (65536 * x + y) wr.heap.size rfl (by simp [go_sem]) (by omega) (by simp; omega) ?_; intro g3 cap3 w3 how3 hB3 hg31 hg32 hgg hoth)
                have C1 : Below w1.heap.size w1 w3 := (BT1.alloc hBT1 _).trans hB3
                have hY3 : Own1 w1.heap.size w3 (.slice (some ⟨gY, 0, none⟩) Y'.length cY) Y' := (hYo3.alloc _).keptAt (hoth gY (by simp; omega) hne)
                have hn3 : (Value.slice (some ⟨g3, 0, none⟩) (o'.length + 1) cap3).ownBlock ≠ some gY := by
                  intro e
                  simp [Value.ownBlock] at e
                  subst e
                  rcases hgg with h | h
                  · exact hne h
                  · simp at h; omega
                go_roundw
                case rel => exact ⟨p + 1, o' ++ [65536 * x + y], by omega, by go_num, how3, HE, C1, hn3, hY3⟩
                case measure => simp [intOf]; omega
        · have hpe : p = Y'.length := by omega
          subst hpe
          have HE : Hid (o' = cellsFold l [] (corners (X.take (k + 1)) Y')) := by
            show o' = _
            rw [← cellsAt_end HXK.out]
            exact HO.out
          clear HO hYo
          go_wp2_with fail
          go_roundw
          case rel => exact ⟨k + 1, o', by omega, by go_num, hown, HE, hB1⟩
          case measure => simp [intOf]; omega
    · have HE : Hid (IsCells l o) := ⟨X, Y, HX.out, HY.out, by
        have := HO.out
        rw [List.take_of_length_le (by omega)] at this
        exact this⟩
      go_wp2_with fail
      go_ret2
      exact ⟨_, o, rfl, HE.out, Row1.of_owns hown, hB⟩
end Go.Proofs.Ytepioggejacfjaa
