/-
  The walk of JpatBlanks: the loop that lays blanks.
-/
import Derived.Test.YtnohkbdmnalmcaaBk
import Derived.Test.YtnohkbdmnalmcaaRa1
import Derived.Laws.DeepStrings4
import Derived.Deep.DeepCutAuto
namespace Go.Proofs.Ytnohkbdmnalmcaa
open Go.RowKit

def PostB (t : Tree) (k : Int) (w : World) (e : Ending) (w' : World) : Prop := ∃ r : PC, e = .returned (.tuple #[r.v, .int .i64 k]) ∧ HT w' t r ∧ Below w.heap.size w w' ∧ okT t

/-- Two patterns in two boxes. -/
structure BB (w : World) (x y : PC) (b c : Nat) (t : Tree) (W : World) : Prop where
  bel : Below w.heap.size w W
  one : Blk W b (encT x).toArray 26
  two : Blk W c (encT y).toArray 26
  held : HT W t x
  held2 : HT W t y

theorem byte_at {s : ByteArray} {i : Nat} {z : UInt8} {r : Bs} (h : s.data.toList.drop i = z :: r) (hi : i < s.size) : s.data.toList[i]'(by rw [Array.length_toList]; exact hi) = z := by
  rw [List.drop_eq_getElem_cons (by rw [Array.length_toList]; exact hi)] at h
  exact (List.cons.inj h).1

set_option maxRecDepth 100000 in
set_option maxHeartbeats 4000000 in
theorem law_blanks0 (kal : ∀ w : World, Calls Try.prog 4 #[] w fun e w' => e = .returned (.bool true) ∧ Below w.heap.size w w') (kpa : ∀ (s : ByteArray) (W : World), Calls Try.prog 5 #[.string s] W fun e w' => PostB (jparseM s.data.toList).1 (jparseM s.data.toList).2 W e w')
    (ksa : ∀ (t : Tree) (x y : PC) (W : World), okT t → HT W t x → HT W t y → Calls Try.prog 6 #[x.v, y.v] W fun e w' => e = .returned (.bool true) ∧ Gr W w') (s : ByteArray) (n : Int) (hn : 0 ≤ n ∧ n < 256) (w : World) :
    Calls Try.prog 3 #[.string s, .int .u8 n] w fun e w' => e = .returned (.bool true) ∧ Below w.heap.size w w' := by
  by_cases c : 300 < s.size
  · have e1 : decide ((300 : Int) < (s.size : Int)) = true := by simp <;> omega
    go_enter Try.func3, Try.ntmps3
    go_wp2_with (go_at_call 4; refine (kal _).mono ?_; rintro _ w2 ⟨rfl, gw⟩; have B2 : Hid (Below w.heap.size w w2) := gw; clear gw)
    go_ret
    exact ⟨rfl, B2.out⟩
  have e1 : decide ((300 : Int) < (s.size : Int)) = false := by simp <;> omega
  go_enter Try.func3, Try.ntmps3
  go_upto_region 6 with (go_at_call 4; refine (kal _).mono ?_; rintro _ w2 ⟨rfl, gw⟩; have B2 : Hid (Below w.heap.size w w2) := gw; clear gw)
  clear kal
  obtain ⟨M, hM⟩ : ∃ M : Nat, M = (n % 3).toNat := ⟨_, rfl⟩
  have hM2 : M ≤ 2 := by omega
  have hM3 : n.tmod 3 = (M : Int) := by rw [Int.tmod_eq_emod_of_nonneg hn.1]; omega
  go_wp2_with fail
  go_loopw [5, 19] (fun vt vi wr => ∃ (i : Nat) (t : ByteArray), i ≤ s.size ∧ vi = .int .i64 i ∧ vt = .string t ∧ Hid (BT s t i) ∧ Hid (Below w.heap.size w wr)) (fun _ vi _ => s.size - (intOf vi).toNat)
  case atStart => exact ⟨0, ⟨#[]⟩, Nat.zero_le _, rfl, rfl, BT.start s, B2⟩
  case round =>
    obtain ⟨i, t, hi, rfl, rfl, HB, HW⟩ := hrel
    by_cases hlt : i < s.size
    case neg =>
      have h1 : ¬ (i : Int) < s.size := by omega
      have ht : t.size ≤ 900 := by have := HB.out.le; omega
      go_upto_region 18 with fail
      obtain ⟨T, hT⟩ : ∃ T, T = t ++ ⟨#[32]⟩ := ⟨_, rfl⟩
      have hTB : Bla s.data.toList T.data.toList ∧ T.size ≤ 3 * s.size + 1 := by
        have e : i = s.size := by omega
        subst e
        rw [hT]
        exact HB.out.full
      have hq := parse_bla hTB.1 (by rw [Array.length_toList]; show s.size ≤ 2000; omega) (by rw [Array.length_toList]; show T.size ≤ 2000; omega)
      have e2 : decide ((2000 : Int) < (T.size : Int)) = false := by simp <;> omega
      have k1 := fun W => kpa s W
      have k2 := fun W => kpa T W
      rw [← hq] at k2
      generalize (jparseM s.data.toList).1 = q at k1 k2
      generalize (jparseM s.data.toList).2 = k at k1 k2
      rw [← hT]
      clear hT hTB hq kpa HB ht h1 hlt hi e1 hM hM2 hM3
      go_upto_region 22 with (first
        | (go_at_call 5; (with_reducible refine (k1 _).mono ?_); rintro _ w3 ⟨⟨r0, ⟨r1, r2, r3⟩, r4, r5, r6⟩, rfl, h2, b2, o2⟩; have HOk : Hid (okT q) := o2; have H2 : Hid (HT w3 q ⟨r0, ⟨r1, r2, r3⟩, ⟨r4, r5, r6⟩⟩) := h2; have I2 : Hid (Below w.heap.size w w3) := bstep HW.out b2; clear b2 h2 o2)
        | (go_at_call 5; (with_reducible refine (k2 _).mono ?_); rintro _ w4 ⟨⟨s0, ⟨s1, s2, s3⟩, s4, s5, s6⟩, rfl, h3, b3, o3⟩; have H3 : Hid (HT w4 q ⟨s0, ⟨s1, s2, s3⟩, ⟨s4, s5, s6⟩⟩ ∧ HT w4 q ⟨r0, ⟨r1, r2, r3⟩, ⟨r4, r5, r6⟩⟩ ∧ Blk w4 w3.heap.size (encT ⟨r0, ⟨r1, r2, r3⟩, ⟨r4, r5, r6⟩⟩).toArray 26) := ⟨h3, HT.bel b3 (HT.bel (bel_alloc _ _) H2.out), (Blk.new _ _ _).bel b3⟩; have I3 : Hid (Below w.heap.size w w4) := bstep (bstep I2.out (bel_alloc _ _)) b3; clear b3 h3 o3))
      generalize hW3 : World.alloc _ _ = W3
      have HS : Hid (BB w ⟨r0, ⟨r1, r2, r3⟩, ⟨r4, r5, r6⟩⟩ ⟨s0, ⟨s1, s2, s3⟩, ⟨s4, s5, s6⟩⟩ w3.heap.size w4.heap.size q W3) := by
        rw [← hW3]
        exact ⟨bstep I3.out (bel_alloc _ _), H3.out.2.2.alloc _, Blk.new _ _ _, HT.bel (bel_alloc _ _) H3.out.2.1, HT.bel (bel_alloc _ _) H3.out.1⟩
      clear hW3 H2 H3 I2 I3 k1 k2
      generalize w3.heap.size = b1 at *
      generalize w4.heap.size = b2 at *
      obtain ⟨m0, m1, m2⟩ := BlkT.cs HS.out.one
      obtain ⟨n0, n1, n2⟩ := BlkT.cs HS.out.two
      have ks : ∀ W, HT W q ⟨r0, ⟨r1, r2, r3⟩, ⟨r4, r5, r6⟩⟩ → HT W q ⟨s0, ⟨s1, s2, s3⟩, ⟨s4, s5, s6⟩⟩ → Calls Try.prog 6 #[PC.v ⟨r0, ⟨r1, r2, r3⟩, ⟨r4, r5, r6⟩⟩, PC.v ⟨s0, ⟨s1, s2, s3⟩, ⟨s4, s5, s6⟩⟩] W fun e w' => e = .returned (.bool true) ∧ Gr W w' := fun W h1 h2 => ksa q _ _ W HOk.out h1 h2
      go_wp2_with (go_at_call 6; refine (ks _ HS.out.held HS.out.held2).mono ?_; rintro _ w7 ⟨rfl, gw⟩; have B7 : Hid (Below w.heap.size w w7) := bstep HS.out.bel gw.below; clear gw)
      go_ret
      exact ⟨rfl, B7.out⟩
    obtain ⟨z, r, hz⟩ : ∃ z r, s.data.toList.drop i = z :: r := by
      rw [List.drop_eq_getElem_cons (by rw [Array.length_toList]; exact hlt)]
      exact ⟨_, _, rfl⟩
    have hidx := str_at hz
    have ht : t.size ≤ 900 := by have := HB.out.le; omega
    have hlt2 : (i : Int) < s.size := by omega
    by_cases hd : isDig z = true
    · have d1 : decide ((48 : Int) ≤ (z.toNat : Int)) = true := by unfold isDig at hd; simp at hd ⊢; omega
      have d2 : decide ((z.toNat : Int) ≤ 57) = true := by unfold isDig at hd; simp at hd ⊢; omega
      go_wp2_with fail
      constructor
      · refine ⟨i + 1, _, by omega, by go_num, rfl, ?_, HW⟩
        have hz2 : s.data.toList[i]'(by rw [Array.length_toList]; exact hlt) = z := byte_at hz hlt
        exact BU.next HB.out.zero hlt (by omega) (fun _ => rfl)
      · simp [intOf]; omega
    · have hcs : (decide ((48 : Int) ≤ (z.toNat : Int)) = true ∧ decide ((z.toNat : Int) ≤ 57) = false) ∨ decide ((48 : Int) ≤ (z.toNat : Int)) = false := by
        unfold isDig at hd; simp at hd ⊢; omega
      rcases hcs with ⟨d1, d2⟩ | d1
      all_goals
        go_upto_region 11 with fail
        go_wp2_with fail
        go_loopw [5, 36] (fun vt vk wr2 => ∃ (m : Nat) (t2 : ByteArray), m ≤ M ∧ vk = .int .u8 m ∧ vt = .string t2 ∧ Hid (BU s t2 i m) ∧ wr2 = wr) (fun _ vk _ => M - (intOf vk).toNat)
        case atStart => exact ⟨0, t, Nat.zero_le _, rfl, rfl, HB.out.zero, rfl⟩
        case round =>
          obtain ⟨m, t2, hm, rfl, rfl, HU, rfl⟩ := hrel
          by_cases hmk : m < M
          · have hmk2 : (m : Int) < M := by omega
            have ht2 : t2.size ≤ 902 := by have := HU.out.le; omega
            go_wp2_with fail
            constructor
            · exact ⟨m + 1, _, by omega, by go_num, rfl, HU.out.more, trivial⟩
            · simp [intOf]; omega
          · have hmk2 : ¬ (m : Int) < M := by omega
            have ht2 : t2.size ≤ 902 := by have := HU.out.le; omega
            go_wp2_with fail
            constructor
            · refine ⟨i + 1, _, by omega, by go_num, rfl, ?_, HW⟩
              have hz2 : s.data.toList[i]'(by rw [Array.length_toList]; exact hlt) = z := byte_at hz hlt
              exact BU.next HU.out hlt (by omega) (fun h => by rw [hz2] at h; exact absurd h hd)
            · simp [intOf]; omega

end Go.Proofs.Ytnohkbdmnalmcaa
