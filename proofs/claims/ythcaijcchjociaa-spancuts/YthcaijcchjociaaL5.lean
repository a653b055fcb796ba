/-
  The walk of the law SpanAtoms.
-/
import Derived.Test.YthcaijcchjociaaL1
import Derived.Test.YthcaijcchjociaaQs11
import Derived.Test.YthcaijcchjociaaRa2
import Derived.Test.YthcaijcchjociaaOpen2
namespace Go.Proofs.Ythcaijcchjociaa
open Go.RowKit

theorem sorts10000 : SortsUpTo 10000 := fun blk off cap d w hH hb hs => sorts_all blk off cap d w hH hb (by omega)

set_option maxHeartbeats 2000000 in
theorem law_atoms (v : Value) (L : List (List Sp)) (w : World) (hg : GoodS L) (hv : RowS w v L) :
    Calls Try.prog 5 #[v] w fun e w' => e = .returned (.bool true) ∧ Below w.heap.size w w' := by
  have HV : Hid (RowS w v L) := hv
  have HG : Hid (∀ s ∈ L, Good s) := hg.1
  have hLm := hg.2
  obtain ⟨ao, cap, rfl, -⟩ := hv
  clear hg
  go_enter Try.func5, Try.ntmps5
  go_wp2_with fail
  refine (alive_any w).mono ?_
  rintro e w1 ⟨rfl, B1⟩
  go_wp2_with fail
  go_loopg [3, 10] L.length (fun g vn vi wr => ∃ k : Nat, vn = .int .i64 (cnt L k : Nat) ∧ vi = .int .i64 k ∧ k ≤ L.length ∧ L.length - k ≤ g ∧ cnt L k ≤ 80 ∧ Hid (∀ l ∈ L.take k, l.length ≤ 100) ∧ wr = w1)
  case atStart => exact ⟨0, rfl, rfl, Nat.zero_le _, by omega, by simp [cnt], (fun l hl => by simp at hl), rfl⟩
  case round =>
    obtain ⟨k, rfl, rfl, hk, hgk, hc80, HT, hwr⟩ := hrel
    subst hwr
    by_cases hlt : k < L.length
    · obtain ⟨_, _, hve, hrc⟩ := HV.out
      injection hve with hve1 _ hve2
      subst hve1
      obtain ⟨bl, offl, rfl, hbl2, hcelll⟩ := hrc (ne_nil_of_lt hlt)
      obtain ⟨l, hl⟩ : ∃ l, L[k]? = some l := ⟨_, List.getElem?_eq_getElem hlt⟩
      obtain ⟨u, hu, hru⟩ := hcelll k l hl
      have cu : wr.cell? ⟨bl, offl + k, none⟩ = some u := (B1.cell (by exact hbl2)).trans hu
      have HL : Hid (L[k]? = some l) := hl
      have HCS : Hid (cnt L (k + 1) = cnt L k + l.length) := cnt_succ hl
      obtain ⟨aou, capu, rfl, -⟩ := hru
      clear hrc hcelll hu hl hve2
      generalize cnt L k = n at hc80 HCS ⊢
      by_cases hl100 : l.length ≤ 100
      · have hmin : min (l.length : Int) 100 = l.length := by omega
        by_cases h80 : n + l.length ≤ 80
        · have e1 : decide (100 < (l.length : Int)) = false := by simp; omega
          have e2 : decide (80 < (n : Int) + l.length) = false := by simp; omega
          have hgr := great_any aou l.length capu wr
          rw [e1] at hgr
          clear e1
          go_wp2_with fail
          refine hgr.mono ?_
          rintro e w2 ⟨rfl, rfl⟩
          clear hgr
          go_wp2_with fail
          go_roundg (L.length - (k + 1))
          case measure => omega
          case rel =>
            refine ⟨k + 1, by rw [HCS.out]; congr 1, by go_num, by omega, Nat.le_refl _, by rw [HCS.out]; omega, ?_, rfl⟩
            intro l' hl'
            rw [take_succ_of HL.out] at hl'
            rcases mem_snoc.1 hl' with hl' | rfl
            · exact HT.out l' hl'
            · exact hl100
        · have e2 : decide (80 < (n : Int) + l.length) = true := by simp; omega
          go_wp2_with fail
          go_ret
          exact ⟨rfl, B1⟩
      · have hmin : min (l.length : Int) 100 = 100 := by omega
        have e2 : decide (80 < (n : Int) + 100) = true := by simp; omega
        go_wp2_with fail
        go_ret
        exact ⟨rfl, B1⟩
    · have hke : k = L.length := by omega
      have HT2 : Hid (∀ l ∈ L, l.length ≤ 100) := by
        have := HT.out
        rw [List.take_of_length_le (by omega)] at this
        exact this
      have hc2 : cnt L L.length ≤ 80 := by rw [← hke]; exact hc80
      clear hke HT hc80
      by_cases h40 : 40 < L.length
      · go_wp2_with fail
        go_ret
        exact ⟨rfl, B1⟩
      · have r1 := HV.out.kept B1 (Nat.le_refl _)
        have hat := atoms_any 10000 sorts10000 _ L wr (by omega) (by omega) (by omega) (fun l hl => by have := HT2.out l hl; omega) HG.out r1
        clear r1
        go_wp2_with fail
        refine hat.mono ?_
        rintro e w3 ⟨u3, o3, rfl, ho3, hl3, r3, B3'⟩
        have B3 := bstep B1 B3'
        have hrat := ratoms_any _ L w3 (by omega) (by omega) (fun l hl => by have := HT2.out l hl; omega) HG.out (HV.out.kept B3 (Nat.le_refl _))
        clear hat B3'
        go_wp2_with fail
        refine hrat.mono ?_
        rintro e w4 ⟨u4, o4, rfl, ho4, r4, B4'⟩
        have eo : o3 = o4 := ho3.unique ho4
        subst eo
        have B4 := bstep B3 B4'
        have hsm := same_any u3 u4 o3 o3 w4 (by omega) (r3.kept B4' (Nat.le_refl _)) r4
        rw [decide_eq_true rfl] at hsm
        clear hrat B4' ho3 ho4 r3 r4
        go_wp2_with fail
        refine hsm.mono ?_
        rintro e w5 ⟨rfl, B5⟩
        go_wp2_with fail
        go_ret
        exact ⟨rfl, bstep B4 B5⟩
end Go.Proofs.Ythcaijcchjociaa
