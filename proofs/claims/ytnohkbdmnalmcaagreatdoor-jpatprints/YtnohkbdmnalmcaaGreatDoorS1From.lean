/-
  The walks of the document's own 'end' and 'from'.
-/
import Derived.Test.YtnohkbdmnalmcaaGreatDoorS1Piece
namespace Go.Proofs.YtnohkbdmnalmcaaGreatDoorS1
open Go.RowKit

theorem ret_u32 {a b : Int} (h : a = b) : Ending.returned (.int .u32 a) = .returned (.int .u32 b) := by rw [h]

set_option maxHeartbeats 400000 in
theorem end_any (v : Value) (b : List Int) (i : Nat) (w : World) (hb : Beg b) (hi : i < b.length) (hl : b.length ≤ 100000) (hv : Row1 w v b) :
    Calls Tryz.prog 127 #[v, .int .i64 i] w fun e w' => e = .returned (.int .u32 (st b (i + 1) - 1)) ∧ w' = w := by
  obtain ⟨ao, cap, rfl, hc⟩ := hv
  obtain ⟨ba, off, rfl, hba, hcell⟩ := hc (ne_nil_of_lt hi)
  by_cases he : i + 1 = b.length
  · have e1 : ((i : Int) == (b.length : Int) - 1) = true := by simp; omega
    have e2 : st b (i + 1) - 1 = 4294967295 := by rw [st_none (by omega)]; omega
    rw [e2]
    clear hcell hc e2
    go_enter Tryz.func127, Tryz.ntmps127
    go_wp2
    go_ret
    exact ⟨rfl, rfl⟩
  · have e1 : ((i : Int) == (b.length : Int) - 1) = false := by simp; omega
    obtain ⟨y, hy⟩ : ∃ y, b[i + 1]? = some y := ⟨_, List.getElem?_eq_getElem (by omega)⟩
    have c1 := hcell (i + 1) y hy
    have hlt := hb.st_lt (i := i) (j := i + 1) (by omega) hi
    have r0 := (hb.st_rng i).1
    rw [st_some hy] at hlt ⊢
    have hyb := hb.rng y (List.mem_of_getElem? hy)
    have hi2 : i + 1 < b.length := by omega
    have hy1 : 1 ≤ y := by omega
    clear hcell hc hy r0 hlt
    go_enter Tryz.func127, Tryz.ntmps127
    go_wp2
    go_ret
    exact ⟨rfl, rfl⟩

/-- What 'from' answers. -/
def Froms (b : List Int) (ins : List Bool) (o : List Sp) : Prop := NF o ∧ (∀ i q n, ins[i]? = some q → st b i ≤ n → n < st b (i + 1) → inS o n = q) ∧ o.length ≤ b.length

set_option maxHeartbeats 2000000 in
theorem from_any (v u : Value) (b : List Int) (ins : List Bool) (w : World) (hb : Beg b) (hl : b.length ≤ 100000) (hlen : ins.length = b.length) (hv : Row1 w v b) (hu : RowB w u ins) :
    Calls Tryz.prog 111 #[v, u] w fun e w' => ∃ r o, e = .returned r ∧ Froms b ins o ∧ Row2 w' r o ∧ Below w.heap.size w w' := by
  have HV : Hid (Row1 w v b) := hv
  have HB : Hid (Beg b) := hb
  obtain ⟨ao, cap, rfl, hc⟩ := hv
  obtain ⟨ao2, cap2, rfl, hc2⟩ := hu
  rw [hlen]
  have HL : Hid (ins.length = b.length) := hlen
  clear hlen hb
  go_enter Tryz.func111, Tryz.ntmps111
  go_wp2_with fail
  go_loopw [5, 10] (fun out i wr => ∃ (k : Nat) (o : List Sp), k ≤ b.length ∧ i = .int .i64 k ∧ FromInv b ins k o ∧ Own2 w.heap.size wr out o ∧ Below w.heap.size w wr) (fun _ i _ => b.length - (intOf i).toNat)
  case atStart => exact ⟨0, [], Nat.zero_le _, rfl, FromInv.start b ins, Own2.nil _ _, Below.refl _ _⟩
  case round =>
    obtain ⟨k, o, hk, rfl, hinv, hown, hB⟩ := hrel
    have hB' := hB.size
    have hlo := hinv.len
    by_cases hlt : k < b.length
    · obtain ⟨ba, off, rfl, hba, hcell⟩ := hc (ne_nil_of_lt hlt)
      obtain ⟨bb, offb, rfl, hbb, hcellb⟩ := hc2 (ne_nil_of_lt (k := k) (by rw [HL.out]; exact hlt))
      obtain ⟨x, hx⟩ : ∃ x, b[k]? = some x := ⟨_, List.getElem?_eq_getElem hlt⟩
      obtain ⟨q, hq⟩ : ∃ q, ins[k]? = some q := ⟨_, List.getElem?_eq_getElem (by rw [HL.out]; exact hlt)⟩
      have c1 : wr.cell? ⟨ba, off + k, none⟩ = some (.int .u32 x) := (hB.cell (by exact hba)).trans (hcell k x hx)
      have c2 : wr.cell? ⟨bb, offb + k, none⟩ = some (.bool q) := (hB.cell (by exact hbb)).trans (hcellb k q hq)
      have hend := fun W (h : Below w.heap.size w W) => end_any _ b k W HB.out hlt hl (HV.out.kept h (Nat.le_refl _))
      have hst := st_some hx
      cases q with
      | false =>
        have HI : Hid (FromInv b ins (k + 1) o) := hinv.skip HB.out hlt hq
        clear hinv hc hc2 hcell hcellb hx hq hend hst
        go_wp2_with fail
        go_roundw
        case rel => exact ⟨k + 1, o, by omega, by go_num, HI.out, hown, hB⟩
        case measure => simp [intOf]; omega
      | true =>
        by_cases hk0 : k = 0
        · have HI : Hid (FromInv b ins (k + 1) (o ++ [(x, st b (k + 1) - 1)])) := by
            have := hinv.push HB.out hlt hq (fun j hj => by omega)
            rw [hst] at this
            exact this
          have hend0 := hend wr hB
          have hk1 : (k : Int) ≤ 0 := by omega
          generalize st b (k + 1) - 1 = y at *
          clear hinv hc hc2 hcell hcellb hx hq hend hst hk0
          go_wp2_with (first
            | (at_builtin; refine wp_app2 rfl _ _ rfl w.heap.size _ o rfl (hown.alloc _) (x, y) _ rfl (by simp [go_sem]) (by simp [go_sem]) (by omega) (by simp; omega) ?_; intro g cap3 w3 how3 hB3 hg1 hg2)
            | (go_at_call 127; refine hend0.mono ?_; rintro e w4 ⟨rfl, rfl⟩))
          go_roundw
          case rel => exact ⟨k + 1, o ++ [(x, y)], by omega, by go_num, HI.out, how3, (hB.alloc hB' _).trans hB3⟩
          case measure => simp [intOf]; omega
        · obtain ⟨j, rfl⟩ : ∃ j, k = j + 1 := ⟨k - 1, by omega⟩
          obtain ⟨q, hq2⟩ : ∃ q, ins[j]? = some q := ⟨_, List.getElem?_eq_getElem (by rw [HL.out]; omega)⟩
          have c3 : wr.cell? ⟨bb, offb + j, none⟩ = some (.bool q) := (hB.cell (by exact hbb)).trans (hcellb j q hq2)
          have hend0 := hend wr hB
          cases q with
          | false =>
            have HI : Hid (FromInv b ins (j + 1 + 1) (o ++ [(x, st b (j + 1 + 1) - 1)])) := by
              have := hinv.push HB.out hlt hq (fun i hi => by have : i = j := by omega
                                                              subst this; exact hq2)
              rw [hst] at this
              exact this
            generalize st b (j + 1 + 1) - 1 = y at *
            clear hinv hc hc2 hcell hcellb hx hq hend hst hq2 hk0
            go_wp2_with (first
              | (at_builtin; refine wp_app2 rfl _ _ rfl w.heap.size _ o rfl (hown.alloc _) (x, y) _ rfl (by simp [go_sem]) (by simp [go_sem]) (by omega) (by simp; omega) ?_; intro g cap3 w3 how3 hB3 hg1 hg2)
              | (go_at_call 127; refine hend0.mono ?_; rintro e w4 ⟨rfl, rfl⟩))
            go_roundw
            case rel => exact ⟨j + 1 + 1, o ++ [(x, y)], by omega, by go_num, HI.out, how3, (hB.alloc hB' _).trans hB3⟩
            case measure => simp [intOf]; omega
          | true =>
            obtain ⟨init, t, rfl, ht⟩ := hinv.last j rfl hq2
            have HI : Hid (FromInv b ins (j + 1 + 1) (init ++ [(t.1, st b (j + 1 + 1) - 1)])) := hinv.grow ht HB.out hlt hq
            obtain ⟨g, cap3, rfl, hg1, hg2, hcap, hfr, hcl⟩ := hown.shape (by simp)
            have hn : (init ++ [t]).length = init.length + 1 := by simp
            rw [hn] at hown hlo hcap
            rw [hn]
            have fz := hfr (init.length * 2 + 1)
            have ct := (hcl init.length t (by simp)).2
            have hnew := hown.setHi (st b (j + 1 + 1) - 1)
            have hBn := hB.setCell (p := ⟨g, init.length * 2 + 1, none⟩) hg1 (.int .u32 (st b (j + 1 + 1) - 1))
            generalize st b (j + 1 + 1) - 1 = y at *
            clear hinv hc hc2 hcell hcellb hx hq hend hst hq2 hk0 hfr hcl hn ht
            go_wp2_with (go_at_call 127; refine hend0.mono ?_; rintro e w4 ⟨rfl, rfl⟩)
            all_goals exact ⟨⟨j + 1 + 1, init ++ [(t.1, y)], by omega, by go_num, HI.out, hnew, hBn⟩, by simp [intOf]; omega⟩
    · have hke : k = b.length := by omega
      subst hke
      have HF : Hid (Froms b ins o) := ⟨hinv.nf, fun i q n hq h1 h2 => hinv.mem i q n (by have := (List.getElem?_eq_some_iff.1 hq).1; rw [HL.out] at this; exact this) hq h1 h2, hinv.len⟩
      clear hc hc2 hinv
      go_wp2_with fail
      go_ret
      exact ⟨_, o, rfl, HF.out, Row2.of_owns hown, hB⟩
end Go.Proofs.YtnohkbdmnalmcaaGreatDoorS1
