/-
  The walk of the law SpanCuts.
-/
import Derived.Test.YthcaijcchjociaaL1
import Derived.Test.YthcaijcchjociaaRa1
import Derived.Test.YthcaijcchjociaaOpen2
import Derived.Test.YthcaijcchjociaaMath4
import Derived.Test.YthcaijcchjociaaMeet
namespace Go.Proofs.Ythcaijcchjociaa
open Go.RowKit

set_option maxRecDepth 100000 in
set_option maxHeartbeats 4000000 in
theorem law_cuts_of (hS : SortsUpTo 10000) (v : Value) (L : List (List Sp)) (w : World) (hg : GoodS L) (hv : RowS w v L) :
    Calls Try.prog 7 #[v] w fun e w' => e = .returned (.bool true) ∧ Below w.heap.size w w' := by
  have hm : Try.prog.follows .mixedOrders = true := by kernel_rfl
  have HV : Hid (RowS w v L) := hv
  have HSO : Hid (SortsUpTo 10000) := hS
  clear hS
  have HG : Hid (∀ s ∈ L, Good s) := hg.1
  have hLm := hg.2
  obtain ⟨ao, cap, rfl, -⟩ := hv
  clear hg
  go_enter Try.func7, Try.ntmps7
  go_wp2_with fail
  refine (alive_any w).mono ?_
  rintro e w1 ⟨rfl, B1⟩
  by_cases h20 : 20 < L.length
  · go_wp2_with fail
    go_ret
    exact ⟨rfl, B1⟩
  · go_wp2_with fail
    go_loopg [20] L.length (fun g vi wr => ∃ k : Nat, vi = .int .i64 k ∧ k ≤ L.length ∧ L.length - k ≤ g ∧ Hid (∀ l ∈ L.take k, l.length ≤ 20) ∧ wr = w1)
    case atStart => exact ⟨0, rfl, Nat.zero_le _, by omega, (fun l hl => by simp at hl), rfl⟩
    case round =>
      obtain ⟨k, rfl, hk, hgk, HT, hwr⟩ := hrel
      subst hwr
      by_cases hlt : k < L.length
      · obtain ⟨_, _, hve, hrc⟩ := HV.out
        injection hve with hve1 _ hve2
        subst hve1
        obtain ⟨bl, offl, rfl, hbl2, hcelll⟩ := hrc (ne_nil_of_lt hlt)
        obtain ⟨l, hl⟩ : ∃ l, L[k]? = some l := ⟨_, List.getElem?_eq_getElem hlt⟩
        obtain ⟨u, hu, hru⟩ := hcelll k l hl
        have cu : wr.cell? ⟨bl, offl + k, none⟩ = some u := (B1.cell (by exact hbl2)).trans hu
        have HL : Hid (L[k]? = some l) := hl
        obtain ⟨aou, capu, rfl, -⟩ := hru
        clear hrc hcelll hu hl hve2
        by_cases hl20 : 20 < l.length
        · go_wp2_with fail
          go_ret
          exact ⟨rfl, B1⟩
        · go_wp2_with fail
          go_roundg (L.length - (k + 1))
          case measure => omega
          case rel =>
            refine ⟨k + 1, by go_num, by omega, Nat.le_refl _, ?_, rfl⟩
            intro l' hl'
            rw [take_succ_of HL.out] at hl'
            rcases mem_snoc.1 hl' with hl' | rfl
            · exact HT.out l' hl'
            · omega
      · have hke : k = L.length := by omega
        have HT2 : Hid (∀ l ∈ L, l.length ≤ 20) := by
          have := HT.out
          rw [List.take_of_length_le (by omega)] at this
          exact this
        have hc2 : cnt L L.length ≤ 400 := by
          have := cnt_bound HT2.out L.length (Nat.le_refl _)
          omega
        clear hke HT
        have r1 := HV.out.kept B1 (Nat.le_refl _)
        have hat := atoms_full 10000 HSO.out _ L wr (by omega) (by omega) (by omega) (fun l hl => by have := HT2.out l hl; omega) HG.out r1
        clear r1
        go_wp2_with fail
        refine hat.mono ?_
        rintro e w3 ⟨u3, o, rfl, ho, hol, r3, B3', hF⟩
        have B3 := bstep B1 B3'
        have HA : Hid (Atoms L o) := ho
        have HR : Hid (Row2 w3 u3 o) := r3
        have HCELL : Hid (∃ b off, ∃ c, u3 = .slice (some ⟨b, off, none⟩) o.length c ∧ b < w3.heap.size ∧ ∀ i x, o[i]? = some x → w3.cell? ⟨b, off + i * 2, none⟩ = some (.int .u32 x.1) ∧ w3.cell? ⟨b, off + i * 2 + 1, none⟩ = some (.int .u32 x.2)) := by
          obtain ⟨aoo, capo, rfl, hrc, -⟩ := r3
          obtain ⟨_, _, hx, _, hlen, _⟩ := ho.ends
          obtain ⟨b, off, rfl, hb, hcell⟩ := hrc (ne_nil_of_lt hlen)
          exact ⟨b, off, capo, rfl, hb, hcell⟩
        obtain ⟨ba, off, capo, rfl, hba, hcell⟩ := HCELL.out
        have hcapo : o.length ≤ capo := by
          obtain ⟨_, _, hu⟩ := hF
          injection hu with _ e1 e2
          omega
        clear hF
        have HC : Hid (∀ i x, o[i]? = some x → w3.cell? ⟨ba, off + i * 2, none⟩ = some (.int .u32 x.1) ∧ w3.cell? ⟨ba, off + i * 2 + 1, none⟩ = some (.int .u32 x.2)) := hcell
        obtain ⟨x0, y0, hx0, hy0, hlen, e1, e2⟩ := ho.ends
        have c0 := (hcell 0 x0 hx0).1
        have c1 := (hcell (o.length - 1) y0 hy0).2
        rw [e1] at c0
        rw [e2] at c1
        obtain ⟨n1, hn1⟩ : ∃ n1, o.length = n1 + 1 := ⟨o.length - 1, by omega⟩
        have HN : Hid (o.length = n1 + 1) := hn1
        have zn : (o.length : Int) - 1 = n1 := by omega
        rw [show o.length - 1 = n1 by omega] at c1
        have hn2 : n1 < o.length := by omega
        have hz : ((o.length : Int) == 0) = false := beq_eq_false_iff_ne.2 (by omega)
        rw [Nat.zero_mul, Nat.add_zero] at c0
        clear hat ho r3 hcell hx0 hy0 e1 e2 hn1 HCELL
        go_wp2_with fail
        clear c0 c1 zn hz
        go_loopg [52] o.length (fun g vi wq => ∃ p : Nat, vi = .int .i64 p ∧ p ≤ o.length ∧ o.length - p ≤ g ∧ Below w3.heap.size w3 wq)
        case atStart => exact ⟨0, rfl, Nat.zero_le _, by omega, Below.refl _ _⟩
        case round =>
          clear hgk hk hlt
          obtain ⟨p, rfl, hp, hgp, B4⟩ := hrel
          have hB4 := B4.size
          by_cases hpl : p < o.length
          · obtain ⟨x, hx⟩ : ∃ x, o[p]? = some x := ⟨_, List.getElem?_eq_getElem hpl⟩
            have HX : Hid (o[p]? = some x) := hx
            have AT := HA.out.at hx
            have c2 : wr.cell? ⟨ba, off + p * 2, none⟩ = some (.int .u32 x.1) := (B4.cell (by exact hba)).trans (HC.out p x hx).1
            have c3 : wr.cell? ⟨ba, off + p * 2 + 1, none⟩ = some (.int .u32 x.2) := (B4.cell (by exact hba)).trans (HC.out p x hx).2
            have hrx := AT.rng
            have hd1 : decide (x.2 < x.1) = false := decide_eq_false (by omega)
            have b0 : (wr.alloc (.cells #[.int .u32 x.1, .int .u32 x.2] 35)).cell? ⟨wr.heap.size, 0, none⟩ = some (.int .u32 x.1) := by simp [go_sem]
            have b1 : (wr.alloc (.cells #[.int .u32 x.1, .int .u32 x.2] 35)).cell? ⟨wr.heap.size, 1, none⟩ = some (.int .u32 x.2) := by simp [go_sem]
            have B5 := B4.alloc hB4 (.cells #[.int .u32 x.1, .int .u32 x.2] 35)
            have HAT : Hid (AtomAt L o p x) := AT
            clear hx AT
            by_cases hp0 : 0 < p
            · obtain ⟨pm, hpm⟩ : ∃ pm, pm = p - 1 := ⟨_, rfl⟩
              have HPM : Hid (p = pm + 1) := by show p = pm + 1; omega
              obtain ⟨y, hy⟩ : ∃ y, o[pm]? = some y := ⟨_, List.getElem?_eq_getElem (by omega)⟩
              have HNX := HA.out.next hy (by rw [← HPM.out]; exact HX.out)
              have d3 : wr.cell? ⟨ba, off + pm * 2 + 1, none⟩ = some (.int .u32 y.2) := (B4.cell (by exact hba)).trans (HC.out pm y hy).2
              have d2 : w3.cell? ⟨ba, off + pm * 2, none⟩ = some (.int .u32 y.1) := (HC.out pm y hy).1
              have e3 : (wr.alloc (.cells #[.int .u32 x.1, .int .u32 x.2] 35)).cell? ⟨ba, off + pm * 2 + 1, none⟩ = some (.int .u32 y.2) := by rw [World.cell?_alloc_past _ _ _ (by exact Nat.lt_of_lt_of_le hba hB4)]; exact d3
              have hry := (HA.out.at hy).rng
              have hy2 : (y.2 == 4294967295) = false := beq_eq_false_iff_ne.2 (by have := HNX.1; omega)
              have hxy : (x.1 != y.2 + 1) = false := by rw [HNX.2.1]; simp
              have hwr1 : IntKind.u32.wrap (y.2 + 1) = y.2 + 1 := by simp [IntKind.wrap, IntKind.bits, IntKind.signed]; have := HNX.1; omega
              have zpm : (p : Int) - 1 = pm := by omega
              have hpm1 : (pm : Int) < o.length := by omega
              have hpm2 : pm < o.length := by omega
              have hdp : decide ((0 : Int) < p) = true := decide_eq_true (by omega)
              have hp00 : ((p : Int) == 0) = false := beq_eq_false_iff_ne.2 (by omega)
              have HNX' : Hid (x.1 = y.2 + 1 ∧ ∃ l ∈ L, inS l x.1 ≠ inS l y.1) := HNX.2
              clear hpm HNX hy d3
              go_wp2_with fail
              have hWs : wr.heap.size < (wr.alloc (.cells #[.int .u32 x.1, .int .u32 x.2] 35)).heap.size := by simp
              generalize wr.alloc (.cells #[.int .u32 x.1, .int .u32 x.2] 35) = Wb at b0 b1 B5 e3 hWs ⊢
              go_quiet (fail)
              go_wp2_with fail
              obtain ⟨wb, hwb⟩ : ∃ wb, wb = wr.heap.size := ⟨_, rfl⟩
              rw [← hwb] at b0 b1 hWs ⊢
              have V1 : Below w3.heap.size w3 (Wb.drewN nq) := below_drewN B5 nq
              have v0 : (Wb.drewN nq).cell? ⟨wb, 0, none⟩ = some (.int .u32 x.1) := b0
              have hVs : wb < (Wb.drewN nq).heap.size := by show wb < Wb.heap.size; exact hWs
              clear b0 b1 B5 e3 c2 c3 hwb hWs B4 hB4
              generalize Wb.drewN nq = V at V1 v0 hVs ⊢
              go_loopg [8, 91] L.length (fun g3 vs vj wz => ∃ (j : Nat) (q : Bool), vs = .bool q ∧ vj = .int .i64 j ∧ j ≤ L.length ∧ L.length - j ≤ g3 ∧ Hid (q = true ↔ ∃ l ∈ L.take j, inS l x.1 ≠ inS l y.1) ∧ Below V.heap.size V wz)
              case atStart =>
                refine ⟨0, _, rfl, rfl, Nat.zero_le _, by omega, ?_, Below.refl _ _⟩
                show _ ↔ _
                simp
              case round =>
                obtain ⟨j, q, rfl, rfl, hj, hg3, HQ, B6⟩ := hrel
                have hB6 := B6.size
                have hwbr : wb < wr.heap.size := by omega
                have c0 : wr.cell? ⟨wb, 0, none⟩ = some (.int .u32 x.1) := (B6.cell (by exact hVs)).trans v0
                have B7 := V1.trans (B6.mono V1.size)
                by_cases hjl : j < L.length
                · obtain ⟨_, _, hve, hrc⟩ := HV.out
                  injection hve with hve1 _ hve2
                  subst hve1
                  obtain ⟨bl, offl, rfl, hbl2, hcelll⟩ := hrc (ne_nil_of_lt hjl)
                  obtain ⟨l, hl⟩ : ∃ l, L[j]? = some l := ⟨_, List.getElem?_eq_getElem hjl⟩
                  obtain ⟨u, hu, hru⟩ := hcelll j l hl
                  have B8 := bstep B3 B7
                  have cu : wr.cell? ⟨bl, offl + j, none⟩ = some u := (B8.cell (by exact hbl2)).trans hu
                  have HRU : Hid (Row2 w u l) := hru
                  have hmem := List.mem_of_getElem? hl
                  have HMEM : Hid (l ∈ L) := hmem
                  have hll := HT2.out l hmem
                  have HL : Hid (L[j]? = some l) := hl
                  obtain ⟨aou, capu, rfl, -⟩ := hru
                  have hsub : Row2 wr (.slice (some ⟨ba, off + p * 2, none⟩) 1 (capo - p)) [x] := by
                    refine ⟨_, _, rfl, fun _ => ⟨ba, off + p * 2, rfl, by have := B7.size; omega, fun i z hz => ?_⟩, fun h => by cases h⟩
                    cases i with
                    | zero =>
                      simp at hz
                      subst hz
                      have e := HC.out p x HX.out
                      rw [Nat.zero_mul, Nat.add_zero]
                      exact ⟨(B7.cell (by exact hba)).trans e.1, (B7.cell (by exact hba)).trans e.2⟩
                    | succ i => simp at hz
                  have HSUB : Hid (Row2 wr (.slice (some ⟨ba, off + p * 2, none⟩) 1 (capo - p)) [x]) := hsub
                  have hmeet := meet_any _ _ l [x] wr (by omega) (by simp) (HG.out l hmem) (by intro z hz; simp at hz; subst hz; have := hrx; exact ⟨by omega, by omega, by omega, by omega⟩) (HRU.out.kept B8 (Nat.le_refl _)) hsub
                  have HN : Hid (∀ q', q' = (q || (inS l x.1 != inS l y.1)) → (q' = true ↔ ∃ l' ∈ L.take (j + 1), inS l' x.1 ≠ inS l' y.1)) := by
                    intro q' hq'
                    rw [hq', Bool.or_eq_true, HQ.out, take_succ_of HL.out, bne_iff_ne]
                    constructor
                    · rintro (⟨l', h1, h2⟩ | h)
                      · exact ⟨l', mem_snoc.2 (Or.inl h1), h2⟩
                      · exact ⟨l, mem_snoc.2 (Or.inr rfl), h⟩
                    · rintro ⟨l', h1, h2⟩
                      rcases mem_snoc.1 h1 with h1 | rfl
                      · exact Or.inl ⟨l', h1, h2⟩
                      · exact Or.inr h2
                  clear hrc hcelll hu hl hve2 hsub hmem
                  go_wp2_with fail
                  refine hmeet.mono ?_
                  rintro e w5 ⟨u5, m, rfl, hnf, hmm, hml, r5, D5⟩
                  have hmeq := HAT.out.meet HMEM.out hnf hmm
                  have c5 : w5.cell? ⟨wb, 0, none⟩ = some (.int .u32 x.1) := (D5.cell (by exact hwbr)).trans c0
                  have hin := in_any _ l x.1 w5 (by omega) (HRU.out.kept (bstep B8 D5) (Nat.le_refl _))
                  clear hmeet hnf hmm hml c0
                  cases hqi : inS l x.1 with
                  | true =>
                    rw [hqi, if_pos rfl] at hmeq
                    rw [hqi] at hin
                    subst hmeq
                    have HR5 : Hid (Row2 w5 u5 [x]) := r5
                    obtain ⟨ao5, cap5, rfl, -⟩ := r5
                    simp only [List.length_cons, List.length_nil, Nat.zero_add]
                    go_wp2_with fail
                    refine hin.mono ?_
                    rintro e w6 ⟨rfl, D6'⟩
                    have D6 := D5.trans (D6'.mono D5.size)
                    have hsm := same_any _ _ [x] [x] w6 (by simp) (HR5.out.kept D6' (Nat.le_refl _)) (HSUB.out.kept D6 (Nat.le_refl _))
                    rw [decide_eq_true rfl] at hsm
                    simp only [List.length_cons, List.length_nil, Nat.zero_add] at hsm
                    clear hin
                    go_wp2_with fail
                    refine hsm.mono ?_
                    rintro e w7 ⟨rfl, D7'⟩
                    have D7 := D6.trans (D7'.mono D6.size)
                    clear hsm D6' D7' D5 D6 c5 cu
                    cases q with
                    | true =>
                      have HN2 : Hid (true = true ↔ ∃ l' ∈ L.take (j + 1), inS l' x.1 ≠ inS l' y.1) := HN.out true (by rw [hqi]; rfl)
                      clear HN hqi
                      go_wp2_with fail
                      go_roundg (L.length - (j + 1))
                      case measure => omega
                      case rel => exact ⟨j + 1, true, rfl, by go_num, by omega, Nat.le_refl _, (show Hid _ from ⟨fun _ => HN2.out.1 trivial, fun _ => rfl⟩), B6.trans (D7.mono hB6)⟩
                    | false =>
                      have d7 : w7.cell? ⟨ba, off + pm * 2, none⟩ = some (.int .u32 y.1) := ((B7.trans (D7.mono B7.size)).cell (by exact hba)).trans d2
                      have hin2 := in_any _ l y.1 w7 (by omega) (HRU.out.kept (bstep B8 D7) (Nat.le_refl _))
                      cases hqy : inS l y.1 with
                      | true =>
                        rw [hqy] at hin2
                        have HN2 : Hid (false = true ↔ ∃ l' ∈ L.take (j + 1), inS l' x.1 ≠ inS l' y.1) := HN.out false (by rw [hqi, hqy]; rfl)
                        clear HN hqi hqy
                        go_wp2_with fail
                        refine hin2.mono ?_
                        rintro e w8 ⟨rfl, D8'⟩
                        have D8 := D7.trans (D8'.mono D7.size)
                        clear hin2 d7 D8'
                        go_wp2_with fail
                        go_roundg (L.length - (j + 1))
                        case measure => omega
                        case rel => exact ⟨j + 1, false, rfl, by go_num, by omega, Nat.le_refl _, HN2, B6.trans (D8.mono hB6)⟩
                      | false =>
                        rw [hqy] at hin2
                        have HN2 : Hid (true = true ↔ ∃ l' ∈ L.take (j + 1), inS l' x.1 ≠ inS l' y.1) := HN.out true (by rw [hqi, hqy]; rfl)
                        clear HN hqi hqy
                        go_wp2_with fail
                        refine hin2.mono ?_
                        rintro e w8 ⟨rfl, D8'⟩
                        have D8 := D7.trans (D8'.mono D7.size)
                        clear hin2 d7 D8'
                        go_wp2_with fail
                        go_roundg (L.length - (j + 1))
                        case measure => omega
                        case rel => exact ⟨j + 1, true, rfl, by go_num, by omega, Nat.le_refl _, (show Hid _ from ⟨fun _ => HN2.out.1 trivial, fun _ => rfl⟩), B6.trans (D8.mono hB6)⟩
                  | false =>
                    rw [hqi, if_neg Bool.false_ne_true] at hmeq
                    rw [hqi] at hin
                    subst hmeq
                    obtain ⟨ao5, cap5, rfl, -⟩ := r5
                    simp only [List.length_nil]
                    go_wp2_with fail
                    refine hin.mono ?_
                    rintro e w7 ⟨rfl, D6'⟩
                    have D7 := D5.trans (D6'.mono D5.size)
                    clear hin D6' D5 c5 cu
                    cases q with
                    | true =>
                      have HN2 : Hid (true = true ↔ ∃ l' ∈ L.take (j + 1), inS l' x.1 ≠ inS l' y.1) := HN.out true (by rw [hqi]; rfl)
                      clear HN hqi
                      go_wp2_with fail
                      go_roundg (L.length - (j + 1))
                      case measure => omega
                      case rel => exact ⟨j + 1, true, rfl, by go_num, by omega, Nat.le_refl _, (show Hid _ from ⟨fun _ => HN2.out.1 trivial, fun _ => rfl⟩), B6.trans (D7.mono hB6)⟩
                    | false =>
                      have d7 : w7.cell? ⟨ba, off + pm * 2, none⟩ = some (.int .u32 y.1) := ((B7.trans (D7.mono B7.size)).cell (by exact hba)).trans d2
                      have hin2 := in_any _ l y.1 w7 (by omega) (HRU.out.kept (bstep B8 D7) (Nat.le_refl _))
                      cases hqy : inS l y.1 with
                      | true =>
                        rw [hqy] at hin2
                        have HN2 : Hid (true = true ↔ ∃ l' ∈ L.take (j + 1), inS l' x.1 ≠ inS l' y.1) := HN.out true (by rw [hqi, hqy]; rfl)
                        clear HN hqi hqy
                        go_wp2_with fail
                        refine hin2.mono ?_
                        rintro e w8 ⟨rfl, D8'⟩
                        have D8 := D7.trans (D8'.mono D7.size)
                        clear hin2 d7 D8'
                        go_wp2_with fail
                        go_roundg (L.length - (j + 1))
                        case measure => omega
                        case rel => exact ⟨j + 1, true, rfl, by go_num, by omega, Nat.le_refl _, (show Hid _ from ⟨fun _ => HN2.out.1 trivial, fun _ => rfl⟩), B6.trans (D8.mono hB6)⟩
                      | false =>
                        rw [hqy] at hin2
                        have HN2 : Hid (false = true ↔ ∃ l' ∈ L.take (j + 1), inS l' x.1 ≠ inS l' y.1) := HN.out false (by rw [hqi, hqy]; rfl)
                        clear HN hqi hqy
                        go_wp2_with fail
                        refine hin2.mono ?_
                        rintro e w8 ⟨rfl, D8'⟩
                        have D8 := D7.trans (D8'.mono D7.size)
                        clear hin2 d7 D8'
                        go_wp2_with fail
                        go_roundg (L.length - (j + 1))
                        case measure => omega
                        case rel => exact ⟨j + 1, false, rfl, by go_num, by omega, Nat.le_refl _, HN2, B6.trans (D8.mono hB6)⟩
                · have hje : L.take j = L := List.take_of_length_le (by omega)
                  have hqt : q = true := by
                    rw [HQ.out, hje]
                    exact HNX'.out.2
                  subst hqt
                  clear hje HQ c0
                  go_wp2_with fail
                  go_roundg (o.length - (p + 1))
                  case measure => omega
                  case rel => exact ⟨p + 1, by go_num, by omega, Nat.le_refl _, B7⟩
            · have hdp : decide ((0 : Int) < p) = false := decide_eq_false (by omega)
              have hp00 : ((p : Int) == 0) = true := beq_iff_eq.2 (by omega)
              go_wp2_with fail
              have hWs : wr.heap.size < (wr.alloc (.cells #[.int .u32 x.1, .int .u32 x.2] 35)).heap.size := by simp
              generalize wr.alloc (.cells #[.int .u32 x.1, .int .u32 x.2] 35) = Wb at b0 b1 B5 hWs ⊢
              go_quiet (fail)
              go_wp2_with fail
              obtain ⟨wb, hwb⟩ : ∃ wb, wb = wr.heap.size := ⟨_, rfl⟩
              rw [← hwb] at b0 b1 hWs ⊢
              have V1 : Below w3.heap.size w3 (Wb.drewN nq) := below_drewN B5 nq
              have v0 : (Wb.drewN nq).cell? ⟨wb, 0, none⟩ = some (.int .u32 x.1) := b0
              have hVs : wb < (Wb.drewN nq).heap.size := by show wb < Wb.heap.size; exact hWs
              clear b0 b1 B5 c2 c3 hwb hWs B4 hB4
              generalize Wb.drewN nq = V at V1 v0 hVs ⊢
              go_loopg [8, 91] L.length (fun g3 vs vj wz => ∃ (j : Nat) (q : Bool), vs = .bool q ∧ vj = .int .i64 j ∧ j ≤ L.length ∧ L.length - j ≤ g3 ∧ Hid (q = true) ∧ Below V.heap.size V wz)
              case atStart =>
                refine ⟨0, _, rfl, rfl, Nat.zero_le _, by omega, ?_, Below.refl _ _⟩
                rfl
              case round =>
                obtain ⟨j, q, rfl, rfl, hj, hg3, HQ, B6⟩ := hrel
                have hB6 := B6.size
                have hwbr : wb < wr.heap.size := by omega
                have c0 : wr.cell? ⟨wb, 0, none⟩ = some (.int .u32 x.1) := (B6.cell (by exact hVs)).trans v0
                have B7 := V1.trans (B6.mono V1.size)
                by_cases hjl : j < L.length
                · obtain ⟨_, _, hve, hrc⟩ := HV.out
                  injection hve with hve1 _ hve2
                  subst hve1
                  obtain ⟨bl, offl, rfl, hbl2, hcelll⟩ := hrc (ne_nil_of_lt hjl)
                  obtain ⟨l, hl⟩ : ∃ l, L[j]? = some l := ⟨_, List.getElem?_eq_getElem hjl⟩
                  obtain ⟨u, hu, hru⟩ := hcelll j l hl
                  have B8 := bstep B3 B7
                  have cu : wr.cell? ⟨bl, offl + j, none⟩ = some u := (B8.cell (by exact hbl2)).trans hu
                  have HRU : Hid (Row2 w u l) := hru
                  have hmem := List.mem_of_getElem? hl
                  have HMEM : Hid (l ∈ L) := hmem
                  have hll := HT2.out l hmem
                  have HL : Hid (L[j]? = some l) := hl
                  obtain ⟨aou, capu, rfl, -⟩ := hru
                  have hsub : Row2 wr (.slice (some ⟨ba, off + p * 2, none⟩) 1 (capo - p)) [x] := by
                    refine ⟨_, _, rfl, fun _ => ⟨ba, off + p * 2, rfl, by have := B7.size; omega, fun i z hz => ?_⟩, fun h => by cases h⟩
                    cases i with
                    | zero =>
                      simp at hz
                      subst hz
                      have e := HC.out p x HX.out
                      rw [Nat.zero_mul, Nat.add_zero]
                      exact ⟨(B7.cell (by exact hba)).trans e.1, (B7.cell (by exact hba)).trans e.2⟩
                    | succ i => simp at hz
                  have HSUB : Hid (Row2 wr (.slice (some ⟨ba, off + p * 2, none⟩) 1 (capo - p)) [x]) := hsub
                  have hmeet := meet_any _ _ l [x] wr (by omega) (by simp) (HG.out l hmem) (by intro z hz; simp at hz; subst hz; have := hrx; exact ⟨by omega, by omega, by omega, by omega⟩) (HRU.out.kept B8 (Nat.le_refl _)) hsub
                  clear hrc hcelll hu hl hve2 hsub hmem
                  go_wp2_with fail
                  refine hmeet.mono ?_
                  rintro e w5 ⟨u5, m, rfl, hnf, hmm, hml, r5, D5⟩
                  have hmeq := HAT.out.meet HMEM.out hnf hmm
                  have c5 : w5.cell? ⟨wb, 0, none⟩ = some (.int .u32 x.1) := (D5.cell (by exact hwbr)).trans c0
                  have hin := in_any _ l x.1 w5 (by omega) (HRU.out.kept (bstep B8 D5) (Nat.le_refl _))
                  clear hmeet hnf hmm hml c0
                  cases hqi : inS l x.1 with
                  | true =>
                    rw [hqi, if_pos rfl] at hmeq
                    rw [hqi] at hin
                    subst hmeq
                    have HR5 : Hid (Row2 w5 u5 [x]) := r5
                    obtain ⟨ao5, cap5, rfl, -⟩ := r5
                    simp only [List.length_cons, List.length_nil, Nat.zero_add]
                    go_wp2_with fail
                    refine hin.mono ?_
                    rintro e w6 ⟨rfl, D6'⟩
                    have D6 := D5.trans (D6'.mono D5.size)
                    have hsm := same_any _ _ [x] [x] w6 (by simp) (HR5.out.kept D6' (Nat.le_refl _)) (HSUB.out.kept D6 (Nat.le_refl _))
                    rw [decide_eq_true rfl] at hsm
                    simp only [List.length_cons, List.length_nil, Nat.zero_add] at hsm
                    clear hin
                    go_wp2_with fail
                    refine hsm.mono ?_
                    rintro e w7 ⟨rfl, D7'⟩
                    have D7 := D6.trans (D7'.mono D6.size)
                    clear hsm D6' D7' D5 D6 c5 cu
                    have hqt : q = true := HQ.out
                    subst hqt
                    clear hqi
                    go_wp2_with fail
                    go_roundg (L.length - (j + 1))
                    case measure => omega
                    case rel => exact ⟨j + 1, true, rfl, by go_num, by omega, Nat.le_refl _, rfl, B6.trans (D7.mono hB6)⟩
                  | false =>
                    rw [hqi, if_neg Bool.false_ne_true] at hmeq
                    rw [hqi] at hin
                    subst hmeq
                    obtain ⟨ao5, cap5, rfl, -⟩ := r5
                    simp only [List.length_nil]
                    go_wp2_with fail
                    refine hin.mono ?_
                    rintro e w7 ⟨rfl, D6'⟩
                    have D7 := D5.trans (D6'.mono D5.size)
                    clear hin D6' D5 c5 cu
                    have hqt : q = true := HQ.out
                    subst hqt
                    clear hqi
                    go_wp2_with fail
                    go_roundg (L.length - (j + 1))
                    case measure => omega
                    case rel => exact ⟨j + 1, true, rfl, by go_num, by omega, Nat.le_refl _, rfl, B6.trans (D7.mono hB6)⟩
                · have hje : L.take j = L := List.take_of_length_le (by omega)
                  have hqt : q = true := HQ.out
                  subst hqt
                  clear hje HQ c0
                  go_wp2_with fail
                  go_roundg (o.length - (p + 1))
                  case measure => omega
                  case rel => exact ⟨p + 1, by go_num, by omega, Nat.le_refl _, B7⟩
          · go_wp2_with fail
            go_ret
            exact ⟨rfl, bstep B3 B4⟩
end Go.Proofs.Ythcaijcchjociaa
