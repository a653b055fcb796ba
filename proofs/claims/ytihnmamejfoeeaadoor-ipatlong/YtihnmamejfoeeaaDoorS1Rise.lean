/-
  The walk of rising: the spans that aren't empty, in new memory, by where they begin.
-/
import Derived.Test.YtihnmamejfoeeaaDoorS1Sort
namespace Go.Proofs.YtihnmamejfoeeaaDoorS1
open Go.RowKit

/-- The spans that aren't empty. -/
def full (l : List Sp) : List Sp := l.filter fun s => decide (s.1 ≤ s.2)

theorem full_succ {l : List Sp} {k : Nat} {x : Sp} (hx : l[k]? = some x) : full (l.take (k + 1)) = full (l.take k) ++ (if x.1 ≤ x.2 then [x] else []) := by
  unfold full
  rw [take_succ_of hx, List.filter_append]
  by_cases h : x.1 ≤ x.2 <;> simp [h]
theorem full_len (l : List Sp) (k : Nat) : (full (l.take k)).length ≤ k := by
  unfold full
  exact Nat.le_trans (List.length_filter_le _ _) (List.length_take_le _ _)
theorem inS_full (l : List Sp) (n : Int) : inS (full l) n = inS l n := by
  apply bool_eq
  rw [inS_iff, inS_iff]
  constructor
  · rintro ⟨s, hs, h⟩
    exact ⟨s, (List.mem_filter.1 hs).1, h⟩
  · rintro ⟨s, hs, h⟩
    exact ⟨s, List.mem_filter.2 ⟨hs, by simp; omega⟩, h⟩

/-- What rising answers. -/
def Risen (l m : List Sp) : Prop := (∀ s ∈ m, 0 ≤ s.1 ∧ s.1 ≤ s.2 ∧ s.2 ≤ 4294967295) ∧ m.Pairwise (fun a b => a.1 ≤ b.1) ∧ (∀ n, inS m n = inS l n) ∧ m.length ≤ l.length

theorem risen_of_perm {l m : List Sp} (hg : Good l) (hp : m.Perm (full l)) (hs : m.Pairwise fun a b => a.1 ≤ b.1) : Risen l m := by
  refine ⟨fun s hm => ?_, hs, fun n => ?_, ?_⟩
  · have hf := List.mem_filter.1 (hp.mem_iff.1 hm)
    have := hg s hf.1
    have h2 := hf.2
    simp at h2
    omega
  · rw [← inS_full l]
    apply bool_eq
    rw [inS_iff, inS_iff]
    exact ⟨fun ⟨s, h, r⟩ => ⟨s, hp.mem_iff.1 h, r⟩, fun ⟨s, h, r⟩ => ⟨s, hp.mem_iff.2 h, r⟩⟩
  · rw [hp.length_eq]; exact List.length_filter_le _ _

theorem perm_of_permIn {d d' : Array Sp} (h : Go.Sort.PermIn 0 d.size d d') : d'.toList.Perm d.toList := by
  obtain ⟨h1, _, h3⟩ := h
  have e1 : d.extract 0 d.size = d := by simp
  have e2 : d'.extract 0 d.size = d' := by rw [← h1]; simp
  rw [e1, e2] at h3
  exact h3

theorem pairwise_of_sortedIn {d : Array Sp} {n : Nat} (hn : d.size = n) (h : Go.Sort.SortedIn (ltOf cfS) 0 n d) : d.toList.Pairwise fun a b => a.1 ≤ b.1 := by
  subst hn
  rw [List.pairwise_iff_getElem]
  intro i j hi hj hij
  have := h i j (Nat.zero_le _) hij (by simpa using hj)
  rw [ltS, getElem!_pos d j (by simpa using hj), getElem!_pos d i (by simpa using hi)] at this
  simp at this
  simpa using this

set_option maxHeartbeats 1000000 in
theorem rising_any (v : Value) (l : List Sp) (w : World) (hl : l.length ≤ 1000) (hgood : Good l) (hv : Row2 w v l) :
    Calls Tryd.prog 41 #[v] w fun e w' => ∃ u m, e = .returned u ∧ Risen l m ∧ Row2 w' u m ∧ Below w.heap.size w w' := by
  obtain ⟨ao, cap, rfl, hc⟩ := hv
  go_enter Tryd.func41, Tryd.ntmps41
  go_wp2_with fail
  go_loopw [3, 8] (fun out i wr => ∃ k : Nat, k ≤ l.length ∧ i = .int .i64 k ∧ Own2 w.heap.size wr out (full (l.take k)) ∧ Below w.heap.size w wr) (fun _ i _ => l.length - (intOf i).toNat)
  case atStart => exact ⟨0, Nat.zero_le _, rfl, Own2.nil _ _, Below.refl _ _⟩
  case round =>
    obtain ⟨k, hk, rfl, hown, hB⟩ := hrel
    have hkl := full_len l k
    have hB' := hB.size
    by_cases hlt : k < l.length
    · obtain ⟨b, off, rfl, hb, hcell⟩ := hc.1 (ne_nil_of_lt hlt)
      obtain ⟨x, hx⟩ : ∃ x, l[k]? = some x := ⟨_, List.getElem?_eq_getElem hlt⟩
      obtain ⟨c1, c2⟩ := hcell k x hx
      have c1' : wr.cell? ⟨b, off + k * 2, none⟩ = some (.int .u32 x.1) := (hB.cell (by exact hb)).trans c1
      have c2' : wr.cell? ⟨b, off + k * 2 + 1, none⟩ = some (.int .u32 x.2) := (hB.cell (by exact hb)).trans c2
      have HF : Hid (full (l.take (k + 1)) = full (l.take k) ++ (if x.1 ≤ x.2 then [x] else [])) := full_succ hx
      clear hc hcell c1 c2 hx
      by_cases hle : x.1 ≤ x.2
      · go_wp2_with (at_builtin; refine wp_app2 rfl _ _ rfl w.heap.size _ _ rfl ((hown.alloc _).alloc _) x (wr.heap.size + 1) rfl (by simp [go_sem]) (by simp [go_sem]) (by omega) (by simp; omega) ?_; intro g cap2 w3 how3 hB3 hg1 hg2)
        go_roundw
        case rel => exact ⟨k + 1, by omega, by go_num, by rw [HF.out, if_pos hle]; exact how3, ((hB.alloc hB' _).alloc (by simp; omega) _).trans hB3⟩
        case measure => simp [intOf]; omega
      · go_wp2_with fail
        go_roundw
        case rel => exact ⟨k + 1, by omega, by go_num, by rw [HF.out, if_neg (by omega), List.append_nil]; exact hown.alloc _, hB.alloc hB' _⟩
        case measure => simp [intOf]; omega
    · have e : l.take k = l := List.take_of_length_le (by omega)
      rw [e] at hown hkl
      clear e hc
      by_cases hne : full l = []
      · rw [hne] at hown
        obtain ⟨ao2, cap2, rfl⟩ := hown.form
        have hcon := AnyF.slices_SortFunc_none Tryd.sortSp ao2 cap2 (.func (.func 53) #[] #[]) wr
        change Calls Tryd.prog 52 _ _ _ at hcon
        have hr : Risen l [] := risen_of_perm hgood (by rw [hne]) List.Pairwise.nil
        have hrow := Row2.of_owns hown
        clear hne hown
        go_wp2_with (go_at_call 52; refine hcon.mono ?_; rintro e w' ⟨rfl, rfl⟩)
        go_ret
        exact ⟨_, [], rfl, hr, hrow, hB⟩
      · obtain ⟨g, cap2, rfl, hg1, hg2, hcap, hfr, hcl⟩ := hown.shape hne
        have eg : ∀ args w, (callFunc 53 args).run Tryd.prog w = .ok (.enter 53 args) w := enters_of Tryd.func53 (by kernel_rfl) rfl
        have hcon := AnyQ.slices_SortFunc Tryd.sortSp 2 Tryd.isAgg39 Tryd.sizeOf39 enc2 (fun _ => rfl) (fun x v hv => by simp [enc2] at hv; rcases hv with rfl | rfl <;> rfl) cfS swoS 53 #[] g 0 cap2 (full l).toArray wr eg (cmpLays _ _ _ _) (holdsOwn hown hne) hg2 (by simp; omega)
        change Calls Tryd.prog 52 #[.slice (some ⟨g, 0, none⟩) (full l).length cap2, .func (.func 53) #[] #[]] wr _ at hcon
        have HO := hown
        have HN : Hid (full l ≠ []) := hne
        clear hfr hcl hne hown eg
        go_wp2_with (go_at_call 52; refine hcon.mono ?_; rintro e w' ⟨rfl, d', n, os, hp, hs, rfl⟩)
        have hsz : d'.size = (full l).length := by simpa using hp.1
        obtain ⟨b1, b2⟩ := sorted_world (m := n) (os := os) HO HN.out hsz
        have hr : Risen l d'.toList := risen_of_perm hgood (perm_of_permIn (d := (full l).toArray) hp) (pairwise_of_sortedIn hsz (by simpa using hs))
        go_ret
        exact ⟨_, d'.toList, rfl, hr, b2, hB.trans b1⟩
end Go.Proofs.YtihnmamejfoeeaaDoorS1
