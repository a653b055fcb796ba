/-
  Walks: the leaves of the document's reader.
-/
import Derived.Test.YtnohkbdmnalmcaaGreatDoorRd
import Derived.Test.YtnohkbdmnalmcaaGreatDoorKd
import Derived.Test.YtnohkbdmnalmcaaGreatDoorCq
namespace Go.Proofs.YtnohkbdmnalmcaaGreatDoor
open Go.RowKit

/-- The document's reader, in a block. -/
abbrev BlkQ (w : World) (b : Nat) (s : ByteArray) (i : Nat) (wr ou fu : Bool) : Prop := Blk w b (rc s i wr ou fu) 56

set_option maxRecDepth 100000 in
set_option maxHeartbeats 1000000 in
theorem take_no {s : ByteArray} {b i : Nat} {wr ou fu : Bool} {c : UInt8} {w : World} (hi : i ≤ s.size) (hb : BlkQ w b s i wr ou fu) (h : headIs c (s.data.toList.drop i) = false) :
    Calls Tryz.prog 28 #[.pointer (some ⟨b, 0, none⟩), .int .u8 c.toNat] w fun e w' => e = .returned (.bool false) ∧ Gr w w' := by
  have hmx : Tryz.prog.follows .mixedOrders = true := by kernel_rfl
  have c0 := fun n os => (hb.grow n os).c 0
  have c1 := fun n os => (hb.grow n os).c 1
  simp at c0 c1
  have bl := hb.lt
  cases e : s.data.toList.drop i with
  | nil =>
    have hi2 := drop_nil hi e
    have e1 : decide ((i : Int) < (s.size : Int)) = false := by simp; omega
    clear e h hi
    go_enter Tryz.func28, Tryz.ntmps28
    go_wp2_with fail
    refine wp_region_quiet_grownB (by assumption) (by kernel_rfl) ?_
    repeat (refine wpQuiet_stepB (fun K hK => ?_); go_simp; first | (refine hK _ ?_; clear hK K) | (apply Exists.intro; refine ⟨fun _ => ?_, hK _ ?_⟩; fail; clear hK K))
    refine wpQuiet_nilB ?_
    intro _ hw'
    obtain ⟨⟨nq, osq⟩, hw''⟩ := hw'
    subst hw''
    go_wp2_with fail
    go_ret
    exact ⟨rfl, nq, osq, rfl⟩
  | cons z r =>
    have hi2 := drop_lt e
    have e1 : (i : Int) < (s.size : Int) := by omega
    have e2 : ((z.toNat : Int) == (c.toNat : Int)) = false := by rw [u8_eq]; rw [e, headIs_cons] at h; exact h
    have e3 : ((z.toNat : Int) != (c.toNat : Int)) = true := by simp [bne, e2]
    have hidx := str_at e
    clear e h hi
    go_enter Tryz.func28, Tryz.ntmps28
    go_wp2_with fail
    refine wp_region_quiet_grownB (by assumption) (by kernel_rfl) ?_
    repeat (refine wpQuiet_stepB (fun K hK => ?_); go_simp; first | (refine hK _ ?_; clear hK K) | (apply Exists.intro; refine ⟨fun _ => ?_, hK _ ?_⟩; fail; clear hK K))
    refine wpQuiet_nilB ?_
    intro _ hw'
    obtain ⟨⟨nq, osq⟩, hw''⟩ := hw'
    subst hw''
    go_wp2_with fail
    go_ret
    exact ⟨rfl, nq, osq, rfl⟩

set_option maxRecDepth 100000 in
set_option maxHeartbeats 1000000 in
theorem take_yes {s : ByteArray} {b i : Nat} {wr ou fu : Bool} {c : UInt8} {w : World} (_hs : s.size ≤ 3000) (hb : BlkQ w b s i wr ou fu) (h : headIs c (s.data.toList.drop i) = true) :
    Calls Tryz.prog 28 #[.pointer (some ⟨b, 0, none⟩), .int .u8 c.toNat] w fun e w' => e = .returned (.bool true) ∧ Ex b w w' ∧ BlkQ w' b s (i + 1) wr ou fu := by
  have hmx : Tryz.prog.follows .mixedOrders = true := by kernel_rfl
  have c0 := fun n os => (hb.grow n os).c 0
  have c1 := fun n os => (hb.grow n os).c 1
  simp at c0 c1
  have bl := hb.lt
  have HB : Hid (BlkQ w b s i wr ou fu) := hb
  cases e : s.data.toList.drop i with
  | nil => rw [e, headIs_nil] at h; cases h
  | cons z r =>
    have hi2 := drop_lt e
    have e1 : (i : Int) < (s.size : Int) := by omega
    have e2 : ((z.toNat : Int) == (c.toNat : Int)) = true := by rw [u8_eq]; rw [e, headIs_cons] at h; exact h
    have e3 : ((z.toNat : Int) != (c.toNat : Int)) = false := by simp [bne, e2]
    have hidx := str_at e
    clear e h hb
    go_enter Tryz.func28, Tryz.ntmps28
    go_wp2_with fail
    refine wp_region_quiet_grownB (by assumption) (by kernel_rfl) ?_
    repeat (refine wpQuiet_stepB (fun K hK => ?_); go_simp; first | (refine hK _ ?_; clear hK K) | (apply Exists.intro; refine ⟨fun _ => ?_, hK _ ?_⟩; fail; clear hK K))
    refine wpQuiet_nilB ?_
    intro _ hw'
    obtain ⟨⟨nq, osq⟩, hw''⟩ := hw'
    subst hw''
    clear c0 c1
    have HV : Hid (Gr w (Sort.grow (w.drewN nq) osq)) := ⟨nq, osq, rfl⟩
    generalize Sort.grow (w.drewN nq) osq = V at *
    have d1 := (HB.out.gr HV.out).c 1
    simp at d1
    have df := (HB.out.gr HV.out).frozen 1
    go_wp2_with fail
    go_ret
    refine ⟨rfl, (Ex.of_gr HV.out).setB 1 _, ?_⟩
    exact (HB.out.gr HV.out).set 1 (.int .i64 ((i + 1 : Nat) : Int))

/-- The next byte, or 0. -/
def peekM (r : Bs) : UInt8 := r.headD 0

set_option maxRecDepth 100000 in
set_option maxHeartbeats 1000000 in
theorem peek_any {s : ByteArray} {b i : Nat} {wr ou fu : Bool} {w : World} (hi : i ≤ s.size) (hb : BlkQ w b s i wr ou fu) :
    Calls Tryz.prog 68 #[.pointer (some ⟨b, 0, none⟩)] w fun e w' => e = .returned (.int .u8 (peekM (s.data.toList.drop i)).toNat) ∧ Gr w w' := by
  have hmx : Tryz.prog.follows .mixedOrders = true := by kernel_rfl
  have HB : Hid (BlkQ w b s i wr ou fu) := hb
  have c0 := fun n os => (hb.grow n os).c 0
  have c1 := fun n os => (hb.grow n os).c 1
  simp at c0 c1
  have bl := hb.lt
  cases e : s.data.toList.drop i with
  | nil =>
    have hi2 := drop_nil hi e
    have e1 : decide ((i : Int) < (s.size : Int)) = false := by simp; omega
    clear e hi hb
    go_enter Tryz.func68, Tryz.ntmps68
    go_wp2_with fail
    refine wp_region_quiet_grownB (by assumption) (by kernel_rfl) ?_
    repeat (refine wpQuiet_stepB (fun K hK => ?_); go_simp; first | (refine hK _ ?_; clear hK K) | (apply Exists.intro; refine ⟨fun _ => ?_, hK _ ?_⟩; fail; clear hK K))
    refine wpQuiet_nilB ?_
    intro _ hw'
    obtain ⟨⟨nq, osq⟩, hw''⟩ := hw'
    subst hw''
    go_wp2_with fail
    go_ret
    exact ⟨rfl, nq, osq, rfl⟩
  | cons z r =>
    have hi2 := drop_lt e
    have e1 : (i : Int) < (s.size : Int) := by omega
    have hidx := str_at e
    clear e hi hb
    go_enter Tryz.func68, Tryz.ntmps68
    go_wp2_with fail
    refine wp_region_quiet_grownB (by assumption) (by kernel_rfl) ?_
    repeat (refine wpQuiet_stepB (fun K hK => ?_); go_simp; first | (refine hK _ ?_; clear hK K) | (apply Exists.intro; refine ⟨fun _ => ?_, hK _ ?_⟩; fail; clear hK K))
    refine wpQuiet_nilB ?_
    intro _ hw'
    obtain ⟨⟨nq, osq⟩, hw''⟩ := hw'
    subst hw''
    clear c0 c1
    have HV : Hid (Gr w (Sort.grow (w.drewN nq) osq)) := ⟨nq, osq, rfl⟩
    generalize Sort.grow (w.drewN nq) osq = V at *
    have c0 := fun n os => ((HB.out.gr HV.out).grow n os).c 0
    have c1 := fun n os => ((HB.out.gr HV.out).grow n os).c 1
    simp at c0 c1
    have blv := (HB.out.gr HV.out).lt
    go_wp2_with fail
    refine wp_region_quiet_grownB (by assumption) (by kernel_rfl) ?_
    repeat (refine wpQuiet_stepB (fun K hK => ?_); go_simp; first | (refine hK _ ?_; clear hK K) | (apply Exists.intro; refine ⟨fun _ => ?_, hK _ ?_⟩; fail; clear hK K))
    refine wpQuiet_nilB ?_
    intro _ hw'
    obtain ⟨⟨nq2, osq2⟩, hw''⟩ := hw'
    subst hw''
    have HV2 : Hid (Gr w (Sort.grow (V.drewN nq2) osq2)) := HV.out.trans ⟨nq2, osq2, rfl⟩
    generalize Sort.grow (V.drewN nq2) osq2 = V2 at *
    clear c0 c1 hidx
    go_wp2_with fail
    go_ret
    exact ⟨rfl, HV2.out⟩

/-- Where Need comes to. -/
def needI (s : ByteArray) (c : UInt8) (i : Nat) : Nat := if headIs c (s.data.toList.drop i) = true then i + 1 else i
theorem needI_le {s : ByteArray} {c : UInt8} {i : Nat} (hi : i ≤ s.size) : i ≤ needI s c i ∧ needI s c i ≤ s.size := by
  unfold needI
  split
  · rename_i h; have := (headIs_drop h).2; omega
  · omega

set_option maxRecDepth 100000 in
set_option maxHeartbeats 1000000 in
theorem need_any {s : ByteArray} {b i : Nat} {wr ou fu : Bool} {c : UInt8} {w : World} (hs : s.size ≤ 3000) (hi : i ≤ s.size) (hb : BlkQ w b s i wr ou fu) :
    Calls Tryz.prog 99 #[.pointer (some ⟨b, 0, none⟩), .int .u8 c.toNat] w fun e w' => (∃ v, e = .returned v) ∧ Ex b w w' ∧ BlkQ w' b s (needI s c i) (mustW s c i wr) ou fu := by
  unfold needI mustW
  cases h : headIs c (s.data.toList.drop i) with
  | true =>
    simp only [if_true, Bool.not_true, Bool.or_false]
    have kt := take_yes hs hb h
    clear hb
    go_enter Tryz.func99, Tryz.ntmps99
    go_wp2_with (go_at_call 28; refine kt.mono ?_; rintro _ w2 ⟨rfl, ex2, b2⟩; have E2 : Hid (Ex b w w2) := ex2; have B2 : Hid (BlkQ w2 b s (i + 1) wr ou fu) := b2; clear ex2 b2)
    exact bodyPost_end (results_none rfl _ _ _) rfl ⟨⟨_, rfl⟩, E2.out, B2.out⟩
  | false =>
    simp only [Bool.false_eq_true, if_false, Bool.not_false, Bool.or_true]
    have kt := take_no hi hb h
    have HB : Hid (BlkQ w b s i wr ou fu) := hb
    clear hb
    go_enter Tryz.func99, Tryz.ntmps99
    go_wp2_with (go_at_call 28; refine kt.mono ?_; rintro _ w2 ⟨rfl, g2⟩; have G2 : Hid (Gr w w2) := g2; clear g2; have c2 := (HB.out.gr G2.out).c 2; have f2 := (HB.out.gr G2.out).frozen 2; simp at c2)
    exact bodyPost_end (results_none rfl _ _ _) rfl ⟨⟨_, rfl⟩, (Ex.of_gr G2.out).setB 2 _, (HB.out.gr G2.out).set 2 (.bool true)⟩

/-- Is the next byte a digit? -/
def headDig : Bs → Bool
  | [] => false
  | c :: _ => isDig c
theorem peek_dig {r : Bs} : (decide (48 ≤ ((peekM r).toNat : Int)) && decide (((peekM r).toNat : Int) ≤ 57)) = headDig r := by
  cases r with
  | nil => rfl
  | cons c r =>
    unfold headDig isDig
    show (decide (48 ≤ ((c.toNat : Nat) : Int)) && decide (((c.toNat : Nat) : Int) ≤ 57)) = (decide (48 ≤ c.toNat) && decide (c.toNat ≤ 57))
    rw [show decide (48 ≤ ((c.toNat : Nat) : Int)) = decide (48 ≤ c.toNat) from decide_eq_decide.2 (by omega), show decide (((c.toNat : Nat) : Int) ≤ 57) = decide (c.toNat ≤ 57) from decide_eq_decide.2 (by omega)]

set_option maxRecDepth 100000 in
set_option maxHeartbeats 1000000 in
theorem digit_any {s : ByteArray} {b i : Nat} {wr ou fu : Bool} {w : World} (hi : i ≤ s.size) (hb : BlkQ w b s i wr ou fu) {q : Bool} (hq : headDig (s.data.toList.drop i) = q) :
    Calls Tryz.prog 119 #[.pointer (some ⟨b, 0, none⟩)] w fun e w' => e = .returned (.bool q) ∧ Gr w w' := by
  have kp := fun (W : World) (h : BlkQ W b s i wr ou fu) => peek_any hi h
  rw [← peek_dig] at hq
  have HB : Hid (BlkQ w b s i wr ou fu) := hb
  generalize (peekM (s.data.toList.drop i)).toNat = n at *
  by_cases h1 : (48 : Int) ≤ n
  · by_cases h2 : (n : Int) ≤ 57
    · have e : q = true := by rw [← hq]; simp; omega
      subst e
      have g1 : (47 : Int) < n := by omega
      have g2 : (n : Int) < 58 := by omega
      clear hq hb
      go_enter Tryz.func119, Tryz.ntmps119
      go_wp2_with (first
        | (go_at_call 68; refine (kp _ HB.out).mono ?_; rintro _ w2 ⟨rfl, g2'⟩; have G2 : Hid (Gr w w2) := g2'; clear g2')
        | (go_at_call 68; refine (kp _ (HB.out.gr G2.out)).mono ?_; rintro _ w3 ⟨rfl, g3'⟩; have G3 : Hid (Gr w w3) := G2.out.trans g3'; clear g3'))
      go_ret
      exact ⟨rfl, G3.out⟩
    · have e : q = false := by rw [← hq]; simp; omega
      subst e
      clear hq hb
      go_enter Tryz.func119, Tryz.ntmps119
      go_wp2_with (first
        | (go_at_call 68; refine (kp _ HB.out).mono ?_; rintro _ w2 ⟨rfl, g2'⟩; have G2 : Hid (Gr w w2) := g2'; clear g2')
        | (go_at_call 68; refine (kp _ (HB.out.gr G2.out)).mono ?_; rintro _ w3 ⟨rfl, g3'⟩; have G3 : Hid (Gr w w3) := G2.out.trans g3'; clear g3'))
      go_ret
      exact ⟨by simp; omega, G3.out⟩
  · have e : q = false := by rw [← hq]; simp; omega
    subst e
    have g1 : ¬ (48 : Int) ≤ n := h1
    clear hq hb
    go_enter Tryz.func119, Tryz.ntmps119
    go_wp2_with (go_at_call 68; refine (kp _ HB.out).mono ?_; rintro _ w2 ⟨rfl, g2'⟩; have G2 : Hid (Gr w w2) := g2'; clear g2')
    go_ret
    exact ⟨rfl, G2.out⟩

end Go.Proofs.YtnohkbdmnalmcaaGreatDoor
