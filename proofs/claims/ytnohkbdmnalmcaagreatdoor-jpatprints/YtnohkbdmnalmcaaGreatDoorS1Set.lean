/-
  The walks of the document's own 'Set' and 'Norm'.
-/
import Derived.Test.YtnohkbdmnalmcaaGreatDoorS1From
namespace Go.Proofs.YtnohkbdmnalmcaaGreatDoorS1
open Go.RowKit

/-- By op of what is in a, and in b: 1 either, 2 both, 3 not in a. -/
def opF (op : Int) (p q : Bool) : Bool := if op = 1 then p || q else if op = 2 then p && q else !p

theorem RowS.two {w : World} {va vb : Value} {la lb : List Sp} (ha : Row2 w va la) (hb : Row2 w vb lb) : RowS (w.alloc (.cells #[va, vb] 23)) (.slice (some ⟨w.heap.size, 0, none⟩) 2 2) [la, lb] := by
  have hB : Below w.heap.size w (w.alloc (.cells #[va, vb] 23)) := (Below.refl _ _).alloc (Nat.le_refl _) _
  refine ⟨_, 2, rfl, fun _ => ⟨w.heap.size, 0, rfl, by simp, fun i l hl => ?_⟩⟩
  match i with
  | 0 => simp at hl; subst hl; exact ⟨va, by simp [go_sem], ha.kept hB (Nat.le_refl _)⟩
  | 1 => simp at hl; subst hl; exact ⟨vb, by simp [go_sem], hb.kept hB (Nat.le_refl _)⟩
  | i + 2 => simp at hl

theorem cell0_new (w : World) (v : Value) (t : TypeId) : (w.alloc (.cells #[v] t)).cell? ⟨w.heap.size, 0, none⟩ = some v := by simp [go_sem]

set_option maxHeartbeats 2000000 in
theorem set_any (op : Int) (hop : op = 1 ∨ op = 2 ∨ op = 3) (va vb : Value) (a b : List Sp) (w : World) (hla : a.length ≤ 1000) (hlb : b.length ≤ 1000) (hga : Good a) (hgb : Good b) (hva : Row2 w va a) (hvb : Row2 w vb b) :
    Calls Tryz.prog 91 #[.int .i64 op, va, vb] w fun e w' => ∃ u o, e = .returned u ∧ NF o ∧ (∀ n, 0 ≤ n → n ≤ 4294967295 → inS o n = opF op (inS a n) (inS b n)) ∧ o.length ≤ 10000 ∧ Row2 w' u o ∧ Below w.heap.size w w' := by
  have hS := RowS.two hva hvb
  have hcnt : cnt [a, b] [a, b].length = a.length + b.length := by simp [cnt]
  have hbeg := begins_any _ [a, b] _ (by simp) (by rw [hcnt]; omega) (by intro l hl; simp at hl; rcases hl with rfl | rfl <;> assumption) hS
  have HA : Hid (Row2 w va a) := hva
  have HB : Hid (Row2 w vb b) := hvb
  have HGA : Hid (Good a) := hga
  have HGB : Hid (Good b) := hgb
  rw [hcnt] at hbeg
  obtain ⟨aoa, capa, rfl, _⟩ := hva
  obtain ⟨aob, capb, rfl, _⟩ := hvb
  have HOP : Hid (op = 1 ∨ op = 2 ∨ op = 3) := hop
  clear hS hga hgb hcnt hop
  go_enter Tryz.func91, Tryz.ntmps91
  go_wp2_with (go_at_call 110; refine hbeg.mono ?_; rintro e w1 ⟨u1, bs, rfl, hbs, hed, hbl, ⟨ao, cap, rfl, hc⟩, hB1⟩)
  have HBS : Hid (Beg bs) := hbs
  have B1 : Below w.heap.size w w1 := ((Below.refl _ _).alloc (Nat.le_refl _) _).trans (hB1.mono (by simp))
  have HR1 : Hid (Row1 w1 (.slice ao bs.length cap) bs) := ⟨ao, cap, rfl, hc⟩
  have HED : Hid (∀ l ∈ [a, b], ∀ s ∈ l, Edges bs s) := hed
  clear hbeg hbs hB1 hed
  go_loopw [8, 19] (fun out i wr => ∃ (k : Nat) (ins : List Bool), k ≤ bs.length ∧ i = .int .i64 k ∧ ins.length = k ∧ (∀ j x, j < k → bs[j]? = some x → ins[j]? = some (opF op (inS a x) (inS b x))) ∧ OwnB w1.heap.size wr out ins ∧ Below w1.heap.size w1 wr) (fun _ i _ => bs.length - (intOf i).toNat)
  case atStart => exact ⟨0, [], Nat.zero_le _, rfl, rfl, fun j x hj => by omega, OwnB.nil _ _, Below.refl _ _⟩
  case round =>
    obtain ⟨k, ins, hk, rfl, hlen, hin, hown, hB⟩ := hrel
    have hB' := hB.size
    have HI : Hid (∀ j x, j < k → bs[j]? = some x → ins[j]? = some (opF op (inS a x) (inS b x))) := hin
    have HL : Hid (ins.length = k) := hlen
    clear hin
    by_cases hlt : k < bs.length
    · obtain ⟨ba, off, rfl, hba, hcell⟩ := hc (ne_nil_of_lt hlt)
      obtain ⟨x, hx⟩ : ∃ x, bs[k]? = some x := ⟨_, List.getElem?_eq_getElem hlt⟩
      have c1 : wr.cell? ⟨ba, off + k, none⟩ = some (.int .u32 x) := (hB.cell (by exact hba)).trans (hcell k x hx)
      have hina := fun W (h : Below w.heap.size w W) => rin_any _ a x W (by omega) (HA.out.kept h (Nat.le_refl _))
      have hinb := fun W (h : Below w.heap.size w W) => rin_any _ b x W (by omega) (HB.out.kept h (Nat.le_refl _))
      have HX : Hid (bs[k]? = some x) := hx
      have BW := B1.trans (hB.mono B1.size)
      have HN : Hid (∀ q, q = opF op (inS a x) (inS b x) → ∀ j y, j < k + 1 → bs[j]? = some y → (ins ++ [q])[j]? = some (opF op (inS a y) (inS b y))) := fun q hq j y hj hy => by
        by_cases e : j = k
        · subst e
          rw [HX.out] at hy; injection hy with hy
          subst hy
          rw [List.getElem?_append_right (by rw [HL.out]; omega), HL.out]
          simp [hq]
        · rw [List.getElem?_append_left (by rw [HL.out]; omega)]
          exact HI.out j y (by omega) hy
      clear hc hcell hx hlen
      generalize inS a x = p at *
      generalize inS b x = q at *
      go_wp2_with fail
      refine (hina _ BW).mono ?_
      rintro e w2 ⟨rfl, hB2⟩
      go_wp2_with fail
      refine (hinb _ (BW.trans (hB2.mono BW.size))).mono ?_
      rintro e w3 ⟨rfl, hB3⟩
      have B3 : Below w1.heap.size w1 w3 := hB.trans ((hB2.trans (hB3.mono hB2.size)).mono hB')
      have own3 : OwnB w1.heap.size w3 _ ins := hown.kept ⟨(hB2.trans (hB3.mono hB2.size)).os, (hB2.trans (hB3.mono hB2.size)).tape, (hB2.trans (hB3.mono hB2.size)).output, (hB2.trans (hB3.mono hB2.size)).size, fun k hk _ => (hB2.trans (hB3.mono hB2.size)).block k hk⟩ (row := none) (by cases (Value.ownBlock _) <;> simp)
      have hll : ins.length ≤ bs.length := by rw [HL.out]; exact hk
      have sz3 := B3.size
      clear hina hinb hown hB hB2 hB3 hB' BW c1
      rcases HOP.out with rfl | rfl | rfl <;> cases p <;> cases q
      all_goals
        go_wp2_with (at_builtin; refine wp_appB rfl _ _ rfl w1.heap.size _ ins rfl (own3.alloc _) _ w3.heap.size rfl (cell0_new w3 _ _) (by omega) (by simp; omega) ?_; intro g cap4 w4 how4 hB4)
        go_roundw
        case rel => exact ⟨k + 1, ins ++ [_], by omega, by go_num, by simp [HL.out], HN.out _ (by simp [opF]), how4, (B3.alloc sz3 _).trans hB4⟩
        case measure => simp [intOf]; omega
    · have hke : k = bs.length := by omega
      subst hke
      have HF := from_any (.slice ao bs.length cap) _ bs ins wr HBS.out (by omega) hlen (HR1.out.kept hB (Nat.le_refl _)) (RowB.of_owns hown)
      obtain ⟨ao5, cap5, rfl, _⟩ := RowB.of_owns hown
      have B2 := B1.trans (hB.mono B1.size)
      clear hc hown hlen
      go_wp2_with (go_at_call 111; refine HF.mono ?_; rintro e w4 ⟨u4, o, rfl, hfr, hro, hB4⟩)
      go_ret
      refine ⟨_, o, rfl, hfr.1, fun n h0 h1 => ?_, by have := hfr.2.2; omega, hro, B2.trans (hB4.mono B2.size)⟩
      obtain ⟨i, hi, c1, c2⟩ := HBS.out.piece h0 h1
      have hbi := List.getElem?_eq_getElem hi
      have hii := HI.out i _ hi hbi
      rw [hfr.2.1 i _ n hii c1 c2]
      rw [HBS.out.wholeS (HED.out a (by simp)) HGA.out hi c1 c2, HBS.out.wholeS (HED.out b (by simp)) HGB.out hi c1 c2, st_some hbi]

set_option maxHeartbeats 400000 in
theorem rnorm_any (v : Value) (l : List Sp) (w : World) (hl : l.length ≤ 1000) (hg : Good l) (hv : Row2 w v l) :
    Calls Tryz.prog 74 #[v] w fun e w' => ∃ u o, e = .returned u ∧ NF o ∧ (∀ n, 0 ≤ n → n ≤ 4294967295 → inS o n = inS l n) ∧ o.length ≤ 10000 ∧ Row2 w' u o ∧ Below w.heap.size w w' := by
  have hcall := set_any 1 (Or.inl rfl) v (.slice none 0 0) l [] w hl (by simp) hg (by simp [Good]) hv (Row2.nil w)
  clear hv hg
  go_enter Tryz.func74, Tryz.ntmps74
  go_wp2_with (go_at_call 91; refine hcall.mono ?_; rintro e w1 ⟨u, o, rfl, h1, h2, h3, h4, h5⟩)
  go_ret
  exact ⟨_, o, rfl, h1, fun n a b => by rw [h2 n a b]; simp [opF, inS_nil], h3, h4, h5⟩

end Go.Proofs.YtnohkbdmnalmcaaGreatDoorS1
