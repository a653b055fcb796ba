/-
  The walk of the law PlaneCells.
-/
import Derived.Test.YtepioggejacfjaaMee
import Derived.Test.YtepioggejacfjaaCat
namespace Go.Proofs.Ytepioggejacfjaa
open Go.RowKit

/-- What both answer: the cells and no error, or none and that there are too many. -/
def CellsRes (l : List Sp) (o : List Int) (e : Int) : Prop := (l.length ≤ 64 ∧ IsCells l o ∧ e = 0) ∨ (64 < l.length ∧ o = [] ∧ e = 6)

theorem CellsRes.unique {l : List Sp} {o p : List Int} {e f : Int} (h : CellsRes l o e) (k : CellsRes l p f) : o = p ∧ e = f := by
  rcases h with ⟨h1, h2, h3⟩ | ⟨h1, h2, h3⟩ <;> rcases k with ⟨k1, k2, k3⟩ | ⟨k1, k2, k3⟩
  · exact ⟨h2.unique k2, by omega⟩
  · omega
  · omega
  · exact ⟨by rw [h2, k2], by omega⟩

theorem CellsRes.len {l : List Sp} {o : List Int} {e : Int} (h : CellsRes l o e) (hg : Good l) : o.length ≤ 4294967296 := by
  rcases h with ⟨_, h2, _⟩ | ⟨_, h2, _⟩
  · exact h2.len hg
  · rw [h2]; simp

theorem Row1.nil (w : World) : Row1 w (.slice none 0 0) [] := ⟨none, 0, rfl, fun h => absurd rfl h⟩

theorem cells_all (v : Value) (l : List Sp) (w : World) (hg : Good l) (hv : Row2 w v l) :
    Calls Try.prog 15 #[v] w fun e w' => ∃ u o x, e = .returned (.tuple #[u, .int .i64 x]) ∧ CellsRes l o x ∧ Row1 w' u o ∧ Below w.heap.size w w' := by
  by_cases h : l.length ≤ 64
  · exact (cells_any v l w h hg hv).mono fun _ _ ⟨u, o, h1, h2, h3, h4⟩ => ⟨u, o, 0, h1, Or.inl ⟨h, h2, rfl⟩, h3, h4⟩
  · exact (cells_full v l w (by omega) hv).mono fun _ _ ⟨h1, h2⟩ => ⟨_, [], 6, h1, Or.inr ⟨by omega, rfl, rfl⟩, Row1.nil _, by rw [h2]; exact Below.refl _ _⟩

theorem rcells_all (v : Value) (l : List Sp) (w : World) (hg : Good l) (hv : Row2 w v l) :
    Calls Try.prog 16 #[v] w fun e w' => ∃ u o x, e = .returned (.tuple #[u, .int .i64 x]) ∧ CellsRes l o x ∧ Row1 w' u o ∧ Below w.heap.size w w' := by
  by_cases h : l.length ≤ 64
  · exact (rcells_any v l w h hg hv).mono fun _ _ ⟨u, o, h1, h2, h3, h4⟩ => ⟨u, o, 0, h1, Or.inl ⟨h, h2, rfl⟩, h3, h4⟩
  · exact (rcells_full v l w (by omega) hv).mono fun _ _ ⟨h1, h2⟩ => ⟨_, [], 6, h1, Or.inr ⟨by omega, rfl, rfl⟩, Row1.nil _, by rw [h2]; exact Below.refl _ _⟩

set_option maxHeartbeats 4000000 in
theorem law_cells (v : Value) (l : List Sp) (w : World) (hl : l.length * 8 ≤ 140737488351232) (hg : Good l) (hv : Row2 w v l) :
    Calls Try.prog 5 #[v] w fun e w' => e = .returned (.bool true) ∧ Below w.heap.size w w' := by
  have HV : Hid (Row2 w v l) := hv
  have HG : Hid (Good l) := hg
  obtain ⟨ao, cap, rfl, _⟩ := hv
  clear hg
  go_enter Try.func5, Try.ntmps5
  go_wp2_with fail
  refine (alive_any w).mono ?_
  rintro e w1 ⟨rfl, B1⟩
  by_cases hmid : 8 < l.length ∧ l.length ≤ 64
  · obtain ⟨h1, h2⟩ := hmid
    go_wp2_with fail
    go_ret
    exact ⟨rfl, B1⟩
  · have r1 : Row2 (w1.alloc (.cells #[] 26)) (.slice ao l.length cap) l := (HV.out.kept B1 (Nat.le_refl _)).kept ((Below.refl _ _).alloc (Nat.le_refl _) _) (Nat.le_refl _)
    have B1a : Below w.heap.size w (w1.alloc (.cells #[] 26)) := B1.alloc B1.size _
    have hB1 := B1.size
    have hcase : l.length ≤ 8 ∨ 64 < l.length := by omega
    clear hmid
    rcases hcase with hc | hc
    all_goals
      go_wp2_with (first | (at_builtin; refine wp_appAll rfl _ _ rfl w1.heap.size _ [] rfl (Own2.empty _ _ (Nat.le_refl _)) (.slice ao l.length cap) l rfl r1 (by simp; omega) (by simp) ?_; intro u2 w2 how B2'))
      rw [List.nil_append] at how
      have B2 : Below w.heap.size w w2 := B1a.trans (B2'.mono hB1)
      have r2 : Row2 w2 u2 l := Row2.of_owns how
      have hce := cells_all u2 l w2 HG.out r2
      clear B1 B1a B2' how r1
      refine hce.mono ?_
      rintro e w3 ⟨u3, o, x, rfl, hres, q3, B3'⟩
      have B3 := bstep B2 B3'
      have r2 := r2.kept B3' (Nat.le_refl _)
      have hrc := rcells_all _ l w3 HG.out (HV.out.kept B3 (Nat.le_refl _))
      have HLEN : Hid (o.length ≤ 4294967296) := hres.len HG.out
      have HRES : Hid (CellsRes l o x) := hres
      clear hce B2 B3' hres
      go_wp2_with fail
      refine hrc.mono ?_
      rintro e w4 ⟨u4, o4, x4, rfl, hres4, q4, B4'⟩
      obtain ⟨e1, e2⟩ := HRES.out.unique hres4
      subst e1
      subst e2
      have B4 := bstep B3 B4'
      have r2 := r2.kept B4' (Nat.le_refl _)
      have q3 := q3.kept B4' (Nat.le_refl _)
      have hnu := nums_any u3 u4 o o w4 HLEN.out q3 q4
      rw [decide_eq_true rfl] at hnu
      have hxx : (x != x) = false := by simp
      clear hrc B3 B4' hres4
      go_wp2_with fail
      refine hnu.mono ?_
      rintro e w5 ⟨rfl, B5'⟩
      have B5 := bstep B4 B5'
      have HR2 : Hid (Row2 w5 u2 l) := r2.kept B5' (Nat.le_refl _)
      have HR1 : Hid (Row2 w5 (.slice ao l.length cap) l) := HV.out.kept B5 (Nat.le_refl _)
      clear hnu B4 B5' r2 q3 q4 hxx
      obtain ⟨ao2, cap2, e2, _⟩ := HR2.out
      subst e2
      go_wp2_with fail
      go_loopw [43] (fun i wr => ∃ k : Nat, k ≤ l.length ∧ i = .int .i64 k ∧ Below w.heap.size w wr ∧ Below w5.heap.size w5 wr) (fun i _ => l.length - (intOf i).toNat)
      case atStart => exact ⟨0, Nat.zero_le _, rfl, B5, Below.refl _ _⟩
      case round =>
        obtain ⟨k, hk, rfl, hB, hB5⟩ := hrel
        by_cases hlt : k < l.length
        · obtain ⟨y, hy⟩ : ∃ y, l[k]? = some y := ⟨_, List.getElem?_eq_getElem hlt⟩
          obtain ⟨ao3, cap3, e3, hc3, _⟩ := HR2.out
          obtain ⟨ao4, cap4, e4, hc4, _⟩ := HR1.out
          simp at e3 e4
          obtain ⟨rfl, rfl⟩ := e3
          obtain ⟨rfl, rfl⟩ := e4
          obtain ⟨b3, off3, rfl, hb3, hcell3⟩ := hc3 (ne_nil_of_lt hlt)
          obtain ⟨b4, off4, rfl, hb4, hcell4⟩ := hc4 (ne_nil_of_lt hlt)
          obtain ⟨c1, c2⟩ := hcell3 k y hy
          obtain ⟨d1, d2⟩ := hcell4 k y hy
          have c1' : ∀ q, (wr.drewN q).cell? ⟨b3, off3 + k * 2, none⟩ = some (.int .u32 y.1) := fun _ => (hB5.cell (by exact hb3)).trans c1
          have c2' : ∀ q, (wr.drewN q).cell? ⟨b3, off3 + k * 2 + 1, none⟩ = some (.int .u32 y.2) := fun _ => (hB5.cell (by exact hb3)).trans c2
          have d1' : ∀ q, (wr.drewN q).cell? ⟨b4, off4 + k * 2, none⟩ = some (.int .u32 y.1) := fun _ => (hB5.cell (by exact hb4)).trans d1
          have d2' : ∀ q, (wr.drewN q).cell? ⟨b4, off4 + k * 2 + 1, none⟩ = some (.int .u32 y.2) := fun _ => (hB5.cell (by exact hb4)).trans d2
          have hnq : ∀ W, (binOp .neq 26 (.agg #[.int .u32 y.1, .int .u32 y.2]) (.agg #[.int .u32 y.1, .int .u32 y.2])).run Try.prog W = .ok (.bool false) W := fun W => by rw [neq26]; simp
          clear hc3 hc4 hcell3 hcell4 c1 c2 d1 d2 hy
          go_wp2
          go_quiet (fail)
          go_wp2
          go_roundw
          case rel => exact ⟨k + 1, by omega, by go_num, below_drewN hB _, below_drewN hB5 _⟩
          case measure => simp [intOf]; omega
        · go_wp2_with fail
          go_ret
          exact ⟨rfl, hB⟩
end Go.Proofs.Ytepioggejacfjaa
