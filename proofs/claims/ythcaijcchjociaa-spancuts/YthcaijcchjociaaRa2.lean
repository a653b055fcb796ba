/-
  The walk of the document's own 'Atoms'.
-/
import Derived.Test.YthcaijcchjociaaRa1
namespace Go.Proofs.Ythcaijcchjociaa
open Go.RowKit
open Go.Sort (grow)

set_option maxRecDepth 100000 in
set_option maxHeartbeats 4000000 in
theorem ratoms_any (v : Value) (L : List (List Sp)) (w : World) (hL : L.length ≤ 100000) (hcnt : cnt L L.length ≤ 10000) (hlen : ∀ l ∈ L, l.length ≤ 1000) (hgood : ∀ l ∈ L, Good l) (hv : RowS w v L) :
    Calls Try.prog 21 #[v] w fun e w' => ∃ u o, e = .returned u ∧ Atoms L o ∧ Row2 w' u o ∧ Below w.heap.size w w' := by
  have hm : Try.prog.follows .mixedOrders = true := by kernel_rfl
  have hbeg := begins_any v L w hL hcnt hgood hv
  have HV : Hid (RowS w v L) := hv
  have HG : Hid (∀ l ∈ L, Good l) := hgood
  have HLN : Hid (∀ l ∈ L, l.length ≤ 1000) := hlen
  obtain ⟨ao, cap, rfl, -⟩ := hv
  clear hgood hlen
  go_enter Try.func21, Try.ntmps21
  go_wp2_with fail
  refine hbeg.mono ?_
  rintro e w1 ⟨u1, bs, rfl, hbs, hed, hbl, hrow, hB1⟩
  have HR1 : Hid (Row1 w1 u1 bs) := hrow
  have HBS : Hid (Beg bs) := hbs
  have HED : Hid (∀ l ∈ L, ∀ s ∈ l, Edges bs s) := hed
  obtain ⟨aob, capb, rfl, -⟩ := hrow
  have hB1s := hB1.size
  clear hbeg hbs hed
  go_wp2_with fail
  go_loopg [4, 14] bs.length (fun g out i wr => ∃ (k : Nat) (c : List Int) (o : List Sp), i = .int .i64 k ∧ k ≤ bs.length ∧ bs.length - k ≤ g ∧ AInv L bs k c o ∧ Own2 w1.heap.size wr out o ∧ Below w1.heap.size w1 wr)
  case atStart => exact ⟨0, [], [], rfl, Nat.zero_le _, by omega, AInv.start HBS.out, Own2.nil _ _, Below.refl _ _⟩
  case round =>
    obtain ⟨k, c, o, rfl, hk, hg, hinv, hown, hB⟩ := hrel
    have HI : Hid (AInv L bs k c o) := hinv
    have hol : o.length ≤ k := by rw [hinv.out, spansTo_length]; exact hinv.len
    clear hinv
    by_cases hlt : k < bs.length
    · obtain ⟨_, _, hve, hrc⟩ := HR1.out
      injection hve with hve1 _ hve2
      subst hve1
      obtain ⟨ba, off, rfl, hba, hcell⟩ := hrc (ne_nil_of_lt hlt)
      obtain ⟨x, hx⟩ : ∃ x, bs[k]? = some x := ⟨_, List.getElem?_eq_getElem hlt⟩
      have c1 : wr.cell? ⟨ba, off + k, none⟩ = some (.int .u32 x) := (hB.cell (by exact hba)).trans (hcell k x hx)
      have hst := st_some hx
      have HST : Hid (st bs k = x) := hst
      obtain ⟨aoo, capo, rfl⟩ := hown.form
      have HC : Hid (∀ j y, bs[j]? = some y → w1.cell? ⟨ba, off + j, none⟩ = some (.int .u32 y)) := hcell
      clear hrc hve2 hcell hx hst
      obtain ⟨km, hkm⟩ : ∃ km, km = k - 1 := ⟨_, rfl⟩
      have HKM : Hid (km = k - 1) := hkm
      clear hkm
      by_cases hk0 : 0 < k
      · have hdec : decide ((0 : Int) < k) = true := decide_eq_true (by omega)
        have hkm0 : k = km + 1 := by have := HKM.out; omega
        have HK0 : Hid (k = km + 1) := hkm0
        clear hkm0
        go_wp2_with fail
        go_loopg [7, 23] L.length (fun g2 vs vj wq => ∃ (j : Nat) (q : Bool), vs = .bool q ∧ vj = .int .i64 j ∧ j ≤ L.length ∧ L.length - j ≤ g2 ∧ Hid (q = true ↔ 0 < k ∧ ∀ l ∈ L.take j, inS l x = inS l (st bs km)) ∧ Own2 w1.heap.size wq (.slice aoo o.length capo) o ∧ Below w1.heap.size w1 wq)
        case atStart =>
          refine ⟨0, _, rfl, rfl, Nat.zero_le _, by omega, ?_, hown, hB⟩
          show _ ↔ _
          simp
          try omega
        case round =>
          clear hown hB c1
          obtain ⟨j, q, rfl, rfl, hj, hg2, HQ, hown, hB⟩ := hrel
          have hB' := hB.size
          by_cases hjl : j < L.length
          · obtain ⟨_, _, hve, hrc⟩ := HV.out
            injection hve with hve1 _ hve2
            subst hve1
            obtain ⟨bl, offl, rfl, hbl2, hcelll⟩ := hrc (ne_nil_of_lt hjl)
            obtain ⟨l, hl⟩ : ∃ l, L[j]? = some l := ⟨_, List.getElem?_eq_getElem hjl⟩
            obtain ⟨u, hu, hru⟩ := hcelll j l hl
            have cu : wr.cell? ⟨bl, offl + j, none⟩ = some u := (hB.cell (by exact Nat.lt_of_lt_of_le hbl2 hB1s)).trans ((hB1.cell (by exact hbl2)).trans hu)
            have hru2 : Row2 wr u l := (hru.kept hB1 (Nat.le_refl _)).kept hB (Nat.le_refl _)
            have hll := HLN.out l (List.mem_of_getElem? hl)
            have HL : Hid (L[j]? = some l) := hl
            obtain ⟨aou, capu, rfl, -⟩ := hru
            clear hrc hcelll hu hl hve2
            obtain ⟨y, hy⟩ : ∃ y, bs[km]? = some y := ⟨_, List.getElem?_eq_getElem (by have := HK0.out; omega)⟩
            have HY : Hid (st bs km = y) := st_some hy
            have c2 : wr.cell? ⟨ba, off + km, none⟩ = some (.int .u32 y) := (hB.cell (by exact hba)).trans (HC.out km y hy)
            have f2 := fun n os => cell_grown (w := wr) (a := ⟨ba, off + km, none⟩) (by exact Nat.lt_of_lt_of_le hba hB') c2 n os
            have hinx := fun n os => rin_grown _ l x (grow (wr.drewN n) os) (by omega) (hru2.kept (below_grow (Below.refl _ _) (Nat.le_refl _) n os) (Nat.le_refl _))
            have hiny := fun n os => rin_grown _ l y (grow (wr.drewN n) os) (by omega) (hru2.kept (below_grow (Below.refl _ _) (Nat.le_refl _) n os) (Nat.le_refl _))
            have HQ2 : Hid (∀ q', q' = (q && (inS l x == inS l y)) → (q' = true ↔ 0 < k ∧ ∀ l ∈ L.take (j + 1), inS l x = inS l (st bs km))) := by
              intro q' hq'
              rw [hq', Bool.and_eq_true, HQ.out, take_succ_of HL.out, HY.out]
              constructor
              · rintro ⟨⟨h1, h2⟩, h3⟩
                refine ⟨h1, fun l' hl' => ?_⟩
                rcases mem_snoc.1 hl' with hl' | rfl
                · exact h2 l' hl'
                · exact eq_of_beq h3
              · rintro ⟨h1, h2⟩
                exact ⟨⟨h1, fun l' hl' => h2 l' (mem_snoc.2 (Or.inl hl'))⟩, beq_iff_eq.2 (h2 l (mem_snoc.2 (Or.inr rfl)))⟩
            clear hy hru2 c2
            have zkm : (k : Int) - 1 = km := by have := HK0.out; omega
            have hkm1 : (km : Int) < bs.length := by have := HK0.out; omega
            have hkm2 : km < bs.length := by have := HK0.out; omega
            have rkm : IntKind.i64.wrap (km : Int) = km := by rw [IntKind.wrap_i64]; omega
            generalize inS l x = p1 at hinx HQ2
            generalize inS l y = p2 at hiny HQ2
            cases p1 <;> cases p2
            all_goals
              go_wp2_with fail
              go_quiet_grown (first | (go_at_call 15; with_reducible refine Calls.grown_of (hinx _ _)) | (go_at_call 15; with_reducible refine Calls.grown_of (hiny _ _)))
              go_wp2_with fail
              go_roundg (L.length - (j + 1))
              case measure => omega
              case rel => exact ⟨j + 1, _, rfl, by go_num, by omega, Nat.le_refl _, (show Hid _ from HQ2.out _ (by simp)), hown.grow _ _, below_grow hB hB' _ _⟩
          · have hje : L.take j = L := List.take_of_length_le (by omega)
            have HQ1 : Hid (q = true ↔ 0 < k ∧ ∀ l ∈ L, inS l x = inS l (st bs km)) := by
              have := HQ.out
              rw [hje] at this
              exact this
            clear hje HQ
            have hend0 := end_any _ bs k wr HBS.out hlt (by omega) (HR1.out.kept hB (Nat.le_refl _))
            cases q with
            | true =>
              have hnb : ¬ Begs L (st bs (km + 1)) := fun hb => by
                obtain ⟨l, hl, h⟩ := (begs_at HBS.out HED.out HG.out (by have := HK0.out; omega)).1 hb
                apply h
                rw [← HK0.out, HST.out]
                exact (HQ1.out.1 rfl).2 l hl
              have hinv := HI.out
              rw [HK0.out] at hinv
              obtain ⟨init, t, ho, hA⟩ := hinv.grow HBS.out HED.out HG.out (by have := HK0.out; omega) hnb
              rw [← HK0.out] at hA
              subst ho
              have HI2 : Hid (AInv L bs (k + 1) c (init ++ [(t.1, st bs (k + 1) - 1)])) := hA
              obtain ⟨g, cap3, hsh, hg1, hg2', hcap, hfr, hcl⟩ := hown.shape (by simp)
              injection hsh with e1 e2 e3
              subst e1 e3
              have hn : (init ++ [t]).length = init.length + 1 := by simp
              rw [hn] at hown hol hcap
              rw [hn]
              have fz := hfr (init.length * 2 + 1)
              have ct := (hcl init.length t (by simp)).2
              have hnew := hown.setHi (st bs (k + 1) - 1)
              have hBn := hB.setCell (p := ⟨g, init.length * 2 + 1, none⟩) hg1 (.int .u32 (st bs (k + 1) - 1))
              generalize st bs (k + 1) - 1 = y at *
              clear hnb hA hfr hcl hn HQ1 hinv e2
              go_wp2_with (go_at_call 31; refine hend0.mono ?_; rintro e w4 ⟨rfl, rfl⟩)
              go_roundg (bs.length - (k + 1))
              case measure => omega
              case rel => exact ⟨k + 1, c, init ++ [(t.1, y)], by go_num, by omega, Nat.le_refl _, HI2.out, hnew, hBn⟩
            | false =>
              have HBG : Hid (Begs L (st bs k)) := by
                show Begs L (st bs k)
                rw [HK0.out]
                refine (begs_at HBS.out HED.out HG.out (by have := HK0.out; omega)).2 (Classical.byContradiction fun hno => ?_)
                have : false = true := HQ1.out.2 ⟨hk0, fun l hl => Classical.byContradiction fun hne => hno ⟨l, hl, by rw [← HK0.out, HST.out]; exact hne⟩⟩
                cases this
              have HI2 : Hid (AInv L bs (k + 1) (c ++ [x]) (o ++ [(x, st bs (k + 1) - 1)])) := by
                have := HI.out.push HBS.out HED.out HG.out hlt HBG.out
                rw [HST.out] at this
                exact this
              generalize st bs (k + 1) - 1 = y at *
              clear HQ1
              go_wp2_with (first
                | (at_builtin; refine wp_app2 rfl _ _ rfl w1.heap.size _ o rfl (hown.alloc _) (x, y) _ rfl (by simp [go_sem]) (by simp [go_sem]) (by omega) (by simp; omega) ?_; intro g cap3 w3 how3 hB3 hg1 hg2)
                | (go_at_call 31; refine hend0.mono ?_; rintro e w4 ⟨rfl, rfl⟩))
              go_roundg (bs.length - (k + 1))
              case measure => omega
              case rel => exact ⟨k + 1, _, o ++ [(x, y)], by go_num, by omega, Nat.le_refl _, HI2.out, how3, (hB.alloc hB' _).trans hB3⟩
      · have hdec : decide ((0 : Int) < k) = false := decide_eq_false (by omega)
        go_wp2_with fail
        go_loopg [7, 23] L.length (fun g2 vs vj wq => ∃ (j : Nat) (q : Bool), vs = .bool q ∧ vj = .int .i64 j ∧ j ≤ L.length ∧ L.length - j ≤ g2 ∧ Hid (q = true ↔ 0 < k ∧ ∀ l ∈ L.take j, inS l x = inS l (st bs km)) ∧ Own2 w1.heap.size wq (.slice aoo o.length capo) o ∧ Below w1.heap.size w1 wq)
        case atStart =>
          refine ⟨0, _, rfl, rfl, Nat.zero_le _, by omega, ?_, hown, hB⟩
          show _ ↔ _
          simp
          try omega
        case round =>
          clear hown hB c1
          obtain ⟨j, q, rfl, rfl, hj, hg2, HQ, hown, hB⟩ := hrel
          have hB' := hB.size
          by_cases hjl : j < L.length
          · obtain ⟨_, _, hve, hrc⟩ := HV.out
            injection hve with hve1 _ hve2
            subst hve1
            obtain ⟨bl, offl, rfl, hbl2, hcelll⟩ := hrc (ne_nil_of_lt hjl)
            obtain ⟨l, hl⟩ : ∃ l, L[j]? = some l := ⟨_, List.getElem?_eq_getElem hjl⟩
            obtain ⟨u, hu, hru⟩ := hcelll j l hl
            have cu : wr.cell? ⟨bl, offl + j, none⟩ = some u := (hB.cell (by exact Nat.lt_of_lt_of_le hbl2 hB1s)).trans ((hB1.cell (by exact hbl2)).trans hu)
            have hru2 : Row2 wr u l := (hru.kept hB1 (Nat.le_refl _)).kept hB (Nat.le_refl _)
            have hll := HLN.out l (List.mem_of_getElem? hl)
            have HL : Hid (L[j]? = some l) := hl
            obtain ⟨aou, capu, rfl, -⟩ := hru
            clear hrc hcelll hu hl hve2
            have HQ2 : Hid (q = true ↔ 0 < k ∧ ∀ l ∈ L.take (j + 1), inS l x = inS l (st bs km)) := by
              show _ ↔ _
              rw [HQ.out]
              constructor
              · rintro ⟨h, _⟩; omega
              · rintro ⟨h, _⟩; omega
            clear hru2
            go_wp2_with fail
            go_quiet (fail)
            go_wp2_with fail
            go_roundg (L.length - (j + 1))
            case measure => omega
            case rel => exact ⟨j + 1, q, rfl, by go_num, by omega, Nat.le_refl _, HQ2, hown.drewN _, below_drewN hB _⟩
          · have hje : L.take j = L := List.take_of_length_le (by omega)
            have HQ1 : Hid (q = true ↔ 0 < k ∧ ∀ l ∈ L, inS l x = inS l (st bs km)) := by
              have := HQ.out
              rw [hje] at this
              exact this
            clear hje HQ
            have hend0 := end_any _ bs k wr HBS.out hlt (by omega) (HR1.out.kept hB (Nat.le_refl _))
            have hqf : q = false := by
              cases hq : q with
              | false => rfl
              | true => exact absurd (HQ1.out.1 hq).1 hk0
            subst hqf
            have HBG : Hid (Begs L (st bs k)) := by
              show Begs L (st bs k)
              rw [show k = 0 by omega, HBS.out.st_zero]
              exact Or.inl rfl
            have HI2 : Hid (AInv L bs (k + 1) (c ++ [x]) (o ++ [(x, st bs (k + 1) - 1)])) := by
              have := HI.out.push HBS.out HED.out HG.out hlt HBG.out
              rw [HST.out] at this
              exact this
            generalize st bs (k + 1) - 1 = y at *
            clear HQ1
            go_wp2_with (first
              | (at_builtin; refine wp_app2 rfl _ _ rfl w1.heap.size _ o rfl (hown.alloc _) (x, y) _ rfl (by simp [go_sem]) (by simp [go_sem]) (by omega) (by simp; omega) ?_; intro g cap3 w3 how3 hB3 hg1 hg2)
              | (go_at_call 31; refine hend0.mono ?_; rintro e w4 ⟨rfl, rfl⟩))
            go_roundg (bs.length - (k + 1))
            case measure => omega
            case rel => exact ⟨k + 1, _, o ++ [(x, y)], by go_num, by omega, Nat.le_refl _, HI2.out, how3, (hB.alloc hB' _).trans hB3⟩
    · have hke : k = bs.length := by omega
      subst hke
      have HA : Hid (Atoms L o) := HI.out.done
      obtain ⟨aoo, capo, rfl⟩ := hown.form
      go_wp2_with fail
      go_ret
      exact ⟨_, o, rfl, HA.out, Row2.of_owns hown, hB1.trans (hB.mono hB1s)⟩
end Go.Proofs.Ythcaijcchjociaa
