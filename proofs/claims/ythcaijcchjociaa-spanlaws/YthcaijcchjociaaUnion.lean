/-
  The walks of slices.Concat at spans, and of span.Union.
-/
import Derived.Test.YthcaijcchjociaaNorm
import Derived.Test.YthcaijcchjociaaCat
import Derived.Test.YthcaijcchjociaaSet
namespace Go.Proofs.Ythcaijcchjociaa
open Go.RowKit

theorem grow_none (w : World) : Calls Try.prog 35 #[.slice none 0 0, .int .i64 0] w fun e w' => e = .returned (.slice none 0 0) ∧ w' = w :=
  Any8.slices_Grow_room Try.growSp none 0 0 0 w (Nat.le_refl _) (by omega) (by omega) (by omega)

theorem grow_some (w : World) (n : Nat) (h0 : 0 < n) (h1 : n ≤ 10000) : Calls Try.prog 35 #[.slice none 0 0, .int .i64 n] w fun e w' => ∃ u, e = .returned u ∧ Own2 w.heap.size w' u [] ∧ Below w.heap.size w w' := by
  obtain ⟨i, hi, hz, hz1, hz2⟩ := info_parts info35
  have h := Any8.slices_Grow_grow Try.growSp i _ hi hz (by omega) none 0 0 n [] w (Nat.le_refl _) (by omega) (by rw [hz2]; omega) (by omega) (by simp) (fun _ => rfl) (fun a ha => by cases ha)
  refine h.mono fun e w' ⟨he, hw⟩ => ⟨_, he, ?_, ?_⟩
  · subst hw
    refine ⟨rfl, .inr ⟨w.heap.size, _, _, rfl, Nat.le_refl _, heap_alloc_new w.drew _, Nat.zero_le _, ?_, ?_, rfl⟩⟩
    · exact grownCap_le_maxLen _ _ _ _ (by unfold maxLen; omega)
    · have := grownCap_ge w (0 + n) 0 35
      have e : ((Value.agg #[.int .u32 0, .int .u32 0]).cells).size = 2 := rfl
      simp only [Array.size_append, size_zeroCells, e]
      change 0 + (0 + n - 0) * 2 + (grownCap w (0 + n) 0 35 - (0 + n)) * 2 = grownCap w (0 + n) 0 35 * 2
      omega
  · subst hw
    exact ((Below.refl _ _).drew).alloc (Nat.le_refl _) _

theorem flatten_take_succ {L : List (List Sp)} {k : Nat} {l : List Sp} (h : L[k]? = some l) : (L.take (k + 1)).flatten = (L.take k).flatten ++ l := by
  rw [take_succ_of h]; simp

theorem flatten_take_length (L : List (List Sp)) (k : Nat) : (L.take k).flatten.length = cnt L k := by
  unfold cnt
  rw [List.length_flatten]

set_option maxHeartbeats 2000000 in
theorem concat_any (v : Value) (L : List (List Sp)) (w : World) (hL : L.length ≤ 100000) (hcnt : cnt L L.length ≤ 10000) (hv : RowS w v L) :
    Calls Try.prog 24 #[v] w fun e w' => ∃ u, e = .returned u ∧ Row2 w' u L.flatten ∧ Below w.heap.size w w' := by
  obtain ⟨ao, cap, rfl, hc⟩ := hv
  go_enter Try.func24, Try.ntmps24
  go_wp2_with fail
  go_loop [3, 11] (fun size i => ∃ k : Nat, k ≤ L.length ∧ i = .int .i64 k ∧ size = .int .i64 (cnt L k)) (fun _ i => L.length - (intOf i).toNat)
  case atStart => exact ⟨0, Nat.zero_le _, rfl, rfl⟩
  case round =>
    obtain ⟨k, hk, rfl, rfl⟩ := hrel
    have hck := cnt_le (L := L) hk
    by_cases hlt : k < L.length
    · obtain ⟨ba, offa, rfl, hba, hcella⟩ := hc (ne_nil_of_lt hlt)
      obtain ⟨l, hl⟩ : ∃ l, L[k]? = some l := ⟨_, List.getElem?_eq_getElem hlt⟩
      obtain ⟨q, hq, hrow⟩ := hcella k l hl
      obtain ⟨ao2, cap2, rfl, _⟩ := hrow
      have hcs := cnt_succ hl
      have hcl := cnt_le (L := L) (show k + 1 ≤ L.length from hlt)
      have hll : cnt L k + l.length ≤ 10000 := by omega
      have HCS : Hid (cnt L (k + 1) = cnt L k + l.length) := hcs
      clear hcella hl hcs hcl hc
      go_wp2_with fail
      go_round
      case rel => exact ⟨k + 1, by omega, by go_num, by rw [HCS.out]; go_num⟩
      case measure => simp [intOf]; omega
    · have hke : k = L.length := by omega
      subst hke
      have hgrow : Calls Try.prog 35 #[.slice none 0 0, .int .i64 (cnt L L.length)] w fun e w' => ∃ u, e = .returned u ∧ Own2 w.heap.size w' u [] ∧ Below w.heap.size w w' := by
        by_cases h0 : cnt L L.length = 0
        · rw [h0]
          exact (grow_none w).mono fun e w' ⟨he, hw⟩ => ⟨_, he, Own2.nil _ _, by rw [hw]; exact Below.refl _ _⟩
        · exact grow_some w _ (by omega) hcnt
      have HC : Hid (∀ (i : Nat) l, L[i]? = some l → cnt L i + l.length ≤ 10000) := fun i l hl => by
        have h1 := cnt_succ hl
        have h2 := cnt_le (L := L) (show i + 1 ≤ L.length from (List.getElem?_eq_some_iff.1 hl).1)
        omega
      clear hck
      generalize cnt L L.length = N at *
      go_wp2_with (go_at_call 35; refine hgrow.mono ?_; rintro e w1 ⟨u1, rfl, hown1, hB1⟩)
      go_loopw [6, 27] (fun out i wr => ∃ k : Nat, k ≤ L.length ∧ i = .int .i64 k ∧ Own2 w.heap.size wr out (L.take k).flatten ∧ Below w.heap.size w wr) (fun _ i _ => L.length - (intOf i).toNat)
      case atStart => exact ⟨0, Nat.zero_le _, rfl, by simpa using hown1, hB1⟩
      case round =>
        clear hown1 hB1 hgrow
        obtain ⟨k, hk, rfl, hown, hB⟩ := hrel
        have hB' := hB.size
        by_cases hlt : k < L.length
        · obtain ⟨ba, offa, rfl, hba, hcella⟩ := hc (ne_nil_of_lt hlt)
          obtain ⟨l, hl⟩ : ∃ l, L[k]? = some l := ⟨_, List.getElem?_eq_getElem hlt⟩
          obtain ⟨q, hq, hrow⟩ := hcella k l hl
          have hrow' := hrow.kept hB (Nat.le_refl _)
          have HF : Hid ((L.take (k + 1)).flatten = (L.take k).flatten ++ l) := flatten_take_succ hl
          have hlen := flatten_take_length L k
          have hll := HC.out k l hl
          have hq' : wr.cell? ⟨ba, offa + k, none⟩ = some q := (hB.cell (by exact hba)).trans hq
          have hl2 : (L.take k).flatten.length + l.length ≤ 10000 := by omega
          obtain ⟨ao2, cap2, rfl, _⟩ := hrow
          clear hcella hl hc hlen hq hll
          go_wp2_with (at_builtin; refine wp_appAll rfl _ _ rfl w.heap.size _ (L.take k).flatten rfl hown _ l rfl hrow' (by omega) (by omega) ?_; intro v3 w3 how3 hB3)
          go_roundw
          case rel => exact ⟨k + 1, by omega, by go_num, by rw [HF.out]; exact how3, hB.trans hB3⟩
          case measure => simp [intOf]; omega
        · have e : L.take k = L := List.take_of_length_le (by omega)
          rw [e] at hown
          clear e hc
          go_wp2_with fail
          go_ret
          exact ⟨_, rfl, Row2.of_owns hown, hB⟩

theorem good_append {a b : List Sp} (ha : Good a) (hb : Good b) : Good (a ++ b) := fun s hs => by
  rcases List.mem_append.1 hs with h | h
  · exact ha s h
  · exact hb s h

set_option maxHeartbeats 400000 in
theorem union_any (va vb : Value) (a b : List Sp) (w : World) (hla : a.length + b.length ≤ 1000) (hga : Good a) (hgb : Good b) (hva : Row2 w va a) (hvb : Row2 w vb b) :
    Calls Try.prog 16 #[va, vb] w fun e w' => ∃ u o, e = .returned u ∧ NF o ∧ (∀ n, inS o n = (inS a n || inS b n)) ∧ o.length ≤ a.length + b.length ∧ Row2 w' u o ∧ Below w.heap.size w w' := by
  have hS := RowS.two hva hvb
  have hcnt : cnt [a, b] [a, b].length = a.length + b.length := by simp [cnt]
  have hcall := concat_any _ [a, b] _ (by simp) (by rw [hcnt]; omega) hS
  have HG : Hid (Good ([a, b].flatten)) := by simpa [Hid] using good_append hga hgb
  obtain ⟨aoa, capa, rfl, _⟩ := hva
  obtain ⟨aob, capb, rfl, _⟩ := hvb
  clear hS hga hgb hcnt
  go_enter Try.func16, Try.ntmps16
  go_wp2_with fail
  refine hcall.mono ?_
  rintro e w1 ⟨u1, rfl, hrow, hB1⟩
  have B1 : Below w.heap.size w w1 := ((Below.refl _ _).alloc (Nat.le_refl _) _).trans (hB1.mono (by simp))
  have hn := norm_any u1 _ w1 (by simp; omega) HG.out hrow
  clear hcall hB1
  go_wp2_with fail
  refine hn.mono ?_
  rintro e w2 ⟨u2, o, rfl, h1, h2, h3, h4, h5⟩
  go_wp2_with fail
  go_ret
  exact ⟨_, o, rfl, h1, fun n => by rw [h2 n]; simp [inS_append], by simpa using h3, h4, B1.trans (h5.mono B1.size)⟩

end Go.Proofs.Ythcaijcchjociaa
