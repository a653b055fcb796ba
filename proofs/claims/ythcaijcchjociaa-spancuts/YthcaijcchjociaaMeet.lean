/-
  The walk of span.Meet: with two hands.
-/
import Derived.Test.YthcaijcchjociaaNorm
import Derived.Test.YthcaijcchjociaaMath2
import Derived.WalkMore
namespace Go.Proofs.Ythcaijcchjociaa
open Go.RowKit

set_option maxHeartbeats 2000000 in
theorem meet_any (v1 v2 : Value) (l1 l2 : List Sp) (w : World) (hl1 : l1.length ≤ 1000) (hl2 : l2.length ≤ 1000) (hg1 : Good l1) (hg2 : Good l2) (hv1 : Row2 w v1 l1) (hv2 : Row2 w v2 l2) :
    Calls Try.prog 18 #[v1, v2] w fun e w' => ∃ u o, e = .returned u ∧ NF o ∧ (∀ n, inS o n = (inS l1 n && inS l2 n)) ∧ o.length ≤ l1.length + l2.length ∧ Row2 w' u o ∧ Below w.heap.size w w' := by
  have hcall := norm_any v1 l1 w hl1 hg1 hv1
  have hcall2 := fun w1 (h : Below w.heap.size w w1) => norm_any v2 l2 w1 hl2 hg2 (hv2.kept h (Nat.le_refl _))
  clear hv1 hv2 hg1 hg2
  go_enter Try.func18, Try.ntmps18
  go_wp2_with fail
  go_step3
  go_wp2_with fail
  refine hcall.mono ?_
  rintro e w1 ⟨u, a, rfl, hnfa, hmema, hla, hrowa, hB1⟩
  go_wp2_with fail
  refine (hcall2 w1 hB1).mono ?_
  rintro e w2 ⟨u2, b, rfl, hnfb, hmemb, hlb, ⟨ao2, cap2, rfl, hc2⟩, hB2⟩
  obtain ⟨ao, cap, rfl, hc⟩ := hrowa.kept hB2 (Nat.le_refl _)
  have HM : Hid (∀ n, (inS a n && inS b n) = (inS l1 n && inS l2 n)) := fun n => by rw [hmema, hmemb]
  clear hcall hcall2 hmema hmemb hrowa
  go_wp2_with fail
  go_step3
  go_wp2_with fail
  go_loopw [5, 6, 7] (fun out i j wr => ∃ (p q : Nat) (o : List Sp), p ≤ a.length ∧ q ≤ b.length ∧ i = .int .i64 p ∧ j = .int .i64 q ∧ MeetInv a b p q o ∧ Own2 w2.heap.size wr out o ∧ Below w2.heap.size w2 wr) (fun _ i j _ => (a.length - (intOf i).toNat) + (b.length - (intOf j).toNat))
  case atStart => exact ⟨0, 0, [], Nat.zero_le _, Nat.zero_le _, rfl, rfl, MeetInv.start a b, Own2.nil _ _, Below.refl _ _⟩
  case round =>
    obtain ⟨p, q, o, hp, hq, rfl, rfl, hinv, hown, hB⟩ := hrel
    have hB' := hB.size
    have hlen := hinv.len
    by_cases hpa : p = a.length
    · have HD : Hid (∀ n, inS o n = (inS a n && inS b n)) := hinv.done (Or.inl (by omega))
      subst hpa
      have e1 : ((a.length : Int) == (a.length : Int)) = true := by simp
      clear hc hc2
      go_wp2_with fail
      rw [Exit.noGoto_ret]
      go_ret
      exact ⟨_, o, rfl, hinv.nf, fun n => (HD.out n).trans (HM.out n), by omega, Row2.of_owns hown, hB1.trans (((hB2.mono (Nat.le_refl _)).trans (hB.mono hB2.size)).mono hB1.size)⟩
    have hplt : p < a.length := by omega
    have e1 : ((p : Int) == (a.length : Int)) = false := by simp; omega
    by_cases hqb : q = b.length
    · have HD : Hid (∀ n, inS o n = (inS a n && inS b n)) := hinv.done (Or.inr (by omega))
      subst hqb
      have e2 : ((b.length : Int) == (b.length : Int)) = true := by simp
      clear hc hc2 hpa
      go_wp2_with fail
      rw [Exit.noGoto_ret]
      go_ret
      exact ⟨_, o, rfl, hinv.nf, fun n => (HD.out n).trans (HM.out n), by omega, Row2.of_owns hown, hB1.trans (((hB2.mono (Nat.le_refl _)).trans (hB.mono hB2.size)).mono hB1.size)⟩
    have hqlt : q < b.length := by omega
    have e2 : ((q : Int) == (b.length : Int)) = false := by simp; omega
    obtain ⟨ba, offa, rfl, hba, hcella⟩ := hc.1 (ne_nil_of_lt hplt)
    obtain ⟨bb, offb, rfl, hbb, hcellb⟩ := hc2.1 (ne_nil_of_lt hqlt)
    obtain ⟨x, hx⟩ : ∃ x, a[p]? = some x := ⟨_, List.getElem?_eq_getElem hplt⟩
    obtain ⟨y, hy⟩ : ∃ y, b[q]? = some y := ⟨_, List.getElem?_eq_getElem hqlt⟩
    obtain ⟨c1, c2⟩ := hcella p x hx
    obtain ⟨d1, d2⟩ := hcellb q y hy
    have c1' : wr.cell? ⟨ba, offa + p * 2, none⟩ = some (.int .u32 x.1) := (hB.cell (by exact hba)).trans c1
    have c2' : wr.cell? ⟨ba, offa + p * 2 + 1, none⟩ = some (.int .u32 x.2) := (hB.cell (by exact hba)).trans c2
    have d1' : wr.cell? ⟨bb, offb + q * 2, none⟩ = some (.int .u32 y.1) := (hB.cell (by exact hbb)).trans d1
    have d2' : wr.cell? ⟨bb, offb + q * 2 + 1, none⟩ = some (.int .u32 y.2) := (hB.cell (by exact hbb)).trans d2
    have hxb := hnfa.1 x (List.mem_of_getElem? hx)
    have hyb := hnfb.1 y (List.mem_of_getElem? hy)
    have HL := fun h => hinv.left hnfa hnfb hx hy h
    have HR := fun h => hinv.right hnfa hnfb hx hy h
    clear hc hc2 hcella hcellb c1 d1 hx hy hpa hqb hinv
    by_cases hle : max x.1 y.1 ≤ min x.2 y.2
    · rw [if_pos hle] at HL HR
      by_cases hxy : x.2 < y.2
      all_goals
        first
        | have HI : Hid (MeetInv a b (p + 1) q (o ++ [(max x.1 y.1, min x.2 y.2)])) := HL hxy
        | have HI : Hid (MeetInv a b p (q + 1) (o ++ [(max x.1 y.1, min x.2 y.2)])) := HR hxy
        clear HL HR
        go_wp2_with fail
        go_quiet (fail)
        have ownV := hown.drewN nq
        have BV := below_drewN hB nq
        have sV : w2.heap.size ≤ (wr.drewN nq).heap.size := hB'
        clear c1' c2' d1' d2' hown hB hB'
        generalize wr.drewN nq = V at *
        go_wp2_with (at_builtin; refine wp_app2 rfl _ _ rfl w2.heap.size _ o rfl (ownV.alloc _) (max x.1 y.1, min x.2 y.2) V.heap.size rfl (by simp [go_sem]) (by simp [go_sem]) (by omega) (by simp; omega) ?_; intro g cap3 w3 how3 hB3 hg1 hg2; have B3 := (BV.alloc sV _).trans hB3; have c3 := (B3.cell (p := ⟨ba, offa + p * 2 + 1, none⟩) hba).trans c2; have d3 := (B3.cell (p := ⟨bb, offb + q * 2 + 1, none⟩) hbb).trans d2)
        go_quiet (fail)
        go_wp2_with fail
        go_roundw
        case rel =>
          first
          | exact ⟨p + 1, q, o ++ [(max x.1 y.1, min x.2 y.2)], by omega, by omega, by go_num, rfl, HI.out, how3, below_drewN B3 _⟩
          | exact ⟨p, q + 1, o ++ [(max x.1 y.1, min x.2 y.2)], by omega, by omega, rfl, by go_num, HI.out, how3, below_drewN B3 _⟩
        case measure => simp [intOf]; omega
    · rw [if_neg hle] at HL HR
      by_cases hxy : x.2 < y.2
      all_goals
        first
        | have HI : Hid (MeetInv a b (p + 1) q o) := HL hxy
        | have HI : Hid (MeetInv a b p (q + 1) o) := HR hxy
        clear HL HR
        go_wp2_with fail
        go_quiet (fail)
        have ownV := hown.drewN nq
        have BV := below_drewN hB nq
        have c3 := (BV.cell (p := ⟨ba, offa + p * 2 + 1, none⟩) hba).trans c2
        have d3 := (BV.cell (p := ⟨bb, offb + q * 2 + 1, none⟩) hbb).trans d2
        clear c1' c2' d1' d2' hown hB hB'
        generalize wr.drewN nq = V at *
        go_wp2_with fail
        go_quiet (fail)
        go_wp2_with fail
        go_roundw
        case rel =>
          first
          | exact ⟨p + 1, q, o, by omega, by omega, by go_num, rfl, HI.out, ownV, below_drewN BV _⟩
          | exact ⟨p, q + 1, o, by omega, by omega, rfl, by go_num, HI.out, ownV, below_drewN BV _⟩
        case measure => simp [intOf]; omega
end Go.Proofs.Ythcaijcchjociaa
