/-
  Walks: the document's Number and One.
-/
import Derived.Test.YtnohkbdmnalmcaaGreatDoorZr1
import Derived.Test.YtnohkbdmnalmcaaGreatDoorBl
namespace Go.Proofs.YtnohkbdmnalmcaaGreatDoor
open Go.RowKit

theorem posOf_blkQ {b i : Nat} {s : ByteArray} {wr ou fu : Bool} {w : World} (h : BlkQ w b s i wr ou fu) : posOf b w = i := by
  have := h.c 1
  simp at this
  unfold posOf
  rw [this]
  simp
/-- A number as the document has it. -/
def capV (n : Nat) : Int := wr n
/-- Between the rounds: the digits ds stand from i to j, n is what they come to, or too great. -/
def NumJ (s : ByteArray) (i j : Nat) (ds : Bs) (n : Nat) : Prop :=
  i ≤ j ∧ j ≤ s.size ∧ ds.length = j - i ∧ s.data.toList.drop i = ds ++ s.data.toList.drop j ∧ (∀ c ∈ ds, isDig c = true) ∧ ((n ≤ 4294967295 ∧ n = val ds) ∨ (4294967295 < n ∧ n ≤ 42949672959 ∧ 4294967295 < val ds))
theorem NumJ.start {s : ByteArray} {i : Nat} (hi : i ≤ s.size) : NumJ s i i [] 0 := ⟨Nat.le_refl _, hi, by simp, by simp, by simp, by simp [val]⟩
theorem isDig_iff {z : UInt8} : isDig z = true ↔ 48 ≤ z.toNat ∧ z.toNat ≤ 57 := by simp [isDig]
theorem NumJ.step {s : ByteArray} {i j : Nat} {ds : Bs} {n : Nat} {z : UInt8} {r : Bs} (h : NumJ s i j ds n) (hz : s.data.toList.drop j = z :: r) (hd : isDig z = true) : NumJ s i (j + 1) (ds ++ [z]) (if n ≤ 4294967295 then 10 * n + (z.toNat - 48) else n) := by
  obtain ⟨h1, h2, h3, h4, h5, h6⟩ := h
  have := drop_lt hz
  have h7 := isDig_iff.1 hd
  refine ⟨by omega, by omega, by simp <;> omega, by rw [h4, hz, drop_step hz]; simp, ?_, ?_⟩
  · intro c hc
    rcases List.mem_append.1 hc with hc | hc
    · exact h5 c hc
    · simp at hc; subst hc; exact hd
  · rw [val_snoc]
    split <;> omega
theorem numJ_end {s : ByteArray} {i j : Nat} {ds : Bs} {n : Nat} (h : NumJ s i j ds n) (hn : headDig (s.data.toList.drop j) = false) : numM (s.data.toList.drop i) = if ds = [] ∨ (ds.head? = some 48 ∧ 1 < ds.length) then none else some (val ds, s.data.toList.drop j) := by
  obtain ⟨h1, h2, h3, h4, h5, h6⟩ := h
  have hnd : nd (s.data.toList.drop j) := by
    intro c hc
    cases e : s.data.toList.drop j with
    | nil => rw [e] at hc; simp at hc
    | cons d r => rw [e] at hc hn; simp at hc; subst hc; exact hn
  obtain ⟨a, b⟩ := takeWhile_append_all h5 hnd
  unfold numM
  rw [h4, a, b]

def NumQz (s : ByteArray) (b i : Nat) (wr ou fu : Bool) (w : World) (e : Ending) (w' : World) : Prop :=
  ∃ (v : Int) (n at' : Nat) (wr' ou' : Bool), e = .returned (.int .u32 v) ∧ Ex b w w' ∧ BlkQ w' b s at' wr' ou' fu ∧ at' ≤ s.size ∧ i ≤ at' ∧ (wr = true → wr' = true) ∧
    (wr = false → (numM (s.data.toList.drop i) = none ∧ wr' = true) ∨ ∃ r, numM (s.data.toList.drop i) = some (n, r) ∧ wr' = false ∧ s.data.toList.drop at' = r ∧ v = capV n ∧ ou' = (ou || decide (4294967295 < n)))

theorem num_bad {r : Bs} (h : headDig r = false) : numM r = none := by
  cases r with
  | nil => simp [numM]
  | cons c r => exact num_none h r
theorem num_zero {r : Bs} : numM (48 :: r) = if headDig r = true then none else some (0, r) := by
  cases r with
  | nil => rfl
  | cons c r =>
    unfold numM headDig
    by_cases h : isDig c = true
    · rw [if_pos h, if_pos]
      right
      simp [show isDig 48 = true from rfl, h]
    · have h' : isDig c = false := by simpa using h
      rw [if_neg h, if_neg]
      · simp [show isDig 48 = true from rfl, h', val]
      · simp [show isDig 48 = true from rfl, h']

set_option maxRecDepth 100000 in
set_option maxHeartbeats 8000000 in
theorem rnumber_any {s : ByteArray} {b i : Nat} {wr ou fu : Bool} {w : World} (hi : i ≤ s.size) (hs : s.size ≤ 3000) (hb : BlkQ w b s i wr ou fu) :
    Calls Tryz.prog 100 #[.pointer (some ⟨b, 0, none⟩)] w fun e w' => NumQz s b i wr ou fu w e w' := by
  have hmx : Tryz.prog.follows .mixedOrders = true := by kernel_rfl
  have HB : Hid (BlkQ w b s i wr ou fu) := hb
  cases hd : headDig (s.data.toList.drop i) with
  | false =>
    have HN : Hid (numM (s.data.toList.drop i) = none) := num_bad hd
    have kd := fun (W : World) (h : BlkQ W b s i wr ou fu) => digit_any hi h hd
    clear hb hd
    go_enter Tryz.func100, Tryz.ntmps100
    go_wp2_with (go_at_call 119; refine (kd _ HB.out).mono ?_; rintro _ w2 ⟨rfl, g2⟩; have G2 : Hid (Gr w w2) := g2; clear g2; have c2 := (HB.out.gr G2.out).c 2; have f2 := (HB.out.gr G2.out).frozen 2; simp at c2)
    go_ret
    exact ⟨0, 0, i, true, ou, rfl, (Ex.of_gr G2.out).setB 2 _, (HB.out.gr G2.out).set 2 (.bool true), hi, Nat.le_refl _, fun _ => rfl, fun _ => Or.inl ⟨HN.out, rfl⟩⟩
  | true =>
    have kd := fun (W : World) (h : BlkQ W b s i wr ou fu) => digit_any hi h hd
    cases h0 : headIs 48 (s.data.toList.drop i) with
    | true =>
      obtain ⟨hz, hlt⟩ := headIs_drop h0
      have HN : Hid (numM (s.data.toList.drop i) = if headDig (s.data.toList.drop (i + 1)) = true then none else some (0, s.data.toList.drop (i + 1))) := by show _ = _; rw [hz]; exact num_zero
      have kt := fun (W : World) (h : BlkQ W b s i wr ou fu) => take_yes hs h h0
      obtain ⟨q, hq⟩ : ∃ q, headDig (s.data.toList.drop (i + 1)) = q := ⟨_, rfl⟩
      have kd2 := fun (W : World) (h : BlkQ W b s (i + 1) wr ou fu) => digit_any (by omega) h hq
      rw [hq] at HN
      clear hb hd h0 hz hq
      cases q with
      | true =>
        go_enter Tryz.func100, Tryz.ntmps100
        go_wp2_with (first
          | (go_at_call 119; (with_reducible refine (kd _ HB.out).mono ?_); rintro _ w2 ⟨rfl, g2⟩; have G2 : Hid (Gr w w2) := g2; clear g2)
          | (go_at_call 28; refine (kt _ (HB.out.gr G2.out)).mono ?_; rintro _ w3 ⟨rfl, e3, b3⟩; have E3 : Hid (Ex b w w3) := (Ex.of_gr G2.out).trans e3; have B3 : Hid (BlkQ w3 b s (i + 1) wr ou fu) := b3; clear e3 b3)
          | (go_at_call 119; refine (kd2 _ B3.out).mono ?_; rintro _ w4 ⟨rfl, g4⟩; have G4 : Hid (Gr w3 w4) := g4; clear g4; have c2 := (B3.out.gr G4.out).c 2; have f2 := (B3.out.gr G4.out).frozen 2; simp at c2))
        go_ret
        exact ⟨0, 0, i + 1, true, ou, rfl, (E3.out.trans (Ex.of_gr G4.out)).setB 2 _, (B3.out.gr G4.out).set 2 (.bool true), by omega, by omega, fun _ => rfl, fun _ => Or.inl ⟨by rw [HN.out]; rfl, rfl⟩⟩
      | false =>
        go_enter Tryz.func100, Tryz.ntmps100
        go_wp2_with (first
          | (go_at_call 119; (with_reducible refine (kd _ HB.out).mono ?_); rintro _ w2 ⟨rfl, g2⟩; have G2 : Hid (Gr w w2) := g2; clear g2)
          | (go_at_call 28; refine (kt _ (HB.out.gr G2.out)).mono ?_; rintro _ w3 ⟨rfl, e3, b3⟩; have E3 : Hid (Ex b w w3) := (Ex.of_gr G2.out).trans e3; have B3 : Hid (BlkQ w3 b s (i + 1) wr ou fu) := b3; clear e3 b3)
          | (go_at_call 119; refine (kd2 _ B3.out).mono ?_; rintro _ w4 ⟨rfl, g4⟩; have G4 : Hid (Gr w3 w4) := g4; clear g4))
        go_ret
        exact ⟨0, 0, i + 1, wr, ou, rfl, E3.out.trans (Ex.of_gr G4.out), B3.out.gr G4.out, by omega, by omega, id, fun hw => Or.inr ⟨_, by rw [HN.out]; rfl, hw, rfl, rfl, by simp⟩⟩
    | false =>
      have kt := fun (W : World) (h : BlkQ W b s i wr ou fu) => take_no hi h h0
      cases wr with
      | true =>
        clear hb h0 hd
        go_enter Tryz.func100, Tryz.ntmps100
        go_wp2_with (first
          | (go_at_call 119; (with_reducible refine (kd _ HB.out).mono ?_); rintro _ w2 ⟨rfl, g2⟩; have G2 : Hid (Gr w w2) := g2; clear g2)
          | (go_at_call 28; refine (kt _ (HB.out.gr G2.out)).mono ?_; rintro _ w3 ⟨rfl, g3⟩; have G3 : Hid (Gr w w3) := G2.out.trans g3; clear g3))
        go_loopw [3] (fun v3 wq => v3 = .int .u64 0 ∧ Hid (Gr w wq)) (fun _ _ => 0)
        case atStart => exact ⟨rfl, G3⟩
        case round =>
          clear G2 G3
          obtain ⟨rfl, HG⟩ := hrel
          go_wp2_with (go_at_call 119; refine (kd _ (HB.out.gr HG.out)).mono ?_; rintro _ w4 ⟨rfl, g4⟩; have G4 : Hid (Gr w w4) := HG.out.trans g4; clear g4; have c2 := (HB.out.gr G4.out).c 2; simp at c2)
          go_ret
          exact ⟨0, 0, i, true, ou, rfl, Ex.of_gr G4.out, HB.out.gr G4.out, hi, Nat.le_refl _, fun _ => rfl, fun h => by cases h⟩
      | false =>
        have HH : Hid (∀ j ds n, NumJ s i j ds n → headDig (s.data.toList.drop j) = false → numM (s.data.toList.drop i) = some (val ds, s.data.toList.drop j)) := by
          intro j ds n h h'
          rw [numJ_end h h', if_neg]
          obtain ⟨_, _, _, h4, _⟩ := h
          cases ds with
          | nil => rw [h4, List.nil_append, h'] at hd; cases hd
          | cons z l =>
            rw [h4, List.cons_append, headIs_cons] at h0
            rintro (h | ⟨h, _⟩)
            · cases h
            · simp at h h0; exact h0 h
        clear hb h0 hd
        go_enter Tryz.func100, Tryz.ntmps100
        go_wp2_with (first
          | (go_at_call 119; (with_reducible refine (kd _ HB.out).mono ?_); rintro _ w2 ⟨rfl, g2⟩; have G2 : Hid (Gr w w2) := g2; clear g2)
          | (go_at_call 28; refine (kt _ (HB.out.gr G2.out)).mono ?_; rintro _ w3 ⟨rfl, g3⟩; have G3 : Hid (Gr w w3) := G2.out.trans g3; clear g3))
        go_loopw [3] (fun v3 wq => ∃ (j n : Nat) (ds : Bs), v3 = .int .u64 n ∧ Hid (NumJ s i j ds n) ∧ Hid (Ex b w wq) ∧ Hid (BlkQ wq b s j false ou fu)) (fun _ wq => s.size - posOf b wq)
        case atStart => exact ⟨i, 0, [], rfl, NumJ.start hi, Ex.of_gr G3.out, HB.out.gr G3.out⟩
        case round =>
          clear G2 G3 kd kt HB
          obtain ⟨j, n, ds, rfl, HJ, HE, HB⟩ := hrel
          have hj := HJ.out.2.1
          have hij := HJ.out.1
          cases hd : headDig (s.data.toList.drop j) with
          | false =>
            have kd := fun (W : World) (h : BlkQ W b s j false ou fu) => digit_any hj h hd
            have HN : Hid (numM (s.data.toList.drop i) = some (val ds, s.data.toList.drop j)) := HH.out j ds n HJ.out hd
            have HC := HJ.out.2.2.2.2.2
            clear hd HH
            by_cases hn : 4294967295 < n
            · have e1 : (4294967295 : Int) < (n : Int) := by omega
              have HV : Hid (4294967295 < val ds) := by show _ < _; omega
              clear hn HC
              go_wp2_with (go_at_call 119; refine (kd _ HB.out).mono ?_; rintro _ w4 ⟨rfl, g4⟩; have G4 : Hid (Gr wr w4) := g4; clear g4; have c3 := (HB.out.gr G4.out).c 3; have f3 := (HB.out.gr G4.out).frozen 3; simp at c3)
              go_ret
              refine ⟨0, val ds, j, false, true, rfl, (HE.out.trans (Ex.of_gr G4.out)).setB 3 _, (HB.out.gr G4.out).set 3 (.bool true), hj, hij, (fun h => by cases h), fun _ => Or.inr ⟨_, HN.out, rfl, rfl, ?_, ?_⟩⟩
              · have := HV.out
                unfold capV
                show 0 = if 4294967295 < val ds then (0 : Int) else _
                rw [if_pos this]
              · have := HV.out
                simp [this]
            · have e1 : ¬ (4294967295 : Int) < (n : Int) := by omega
              have HV : Hid (n = val ds) := by show _ = _; omega
              clear HC
              go_wp2_with (go_at_call 119; refine (kd _ HB.out).mono ?_; rintro _ w4 ⟨rfl, g4⟩; have G4 : Hid (Gr wr w4) := g4; clear g4)
              go_ret
              refine ⟨n, val ds, j, false, ou, ?_, HE.out.trans (Ex.of_gr G4.out), HB.out.gr G4.out, hj, hij, (fun h => by cases h), fun _ => Or.inr ⟨_, HN.out, rfl, rfl, ?_, ?_⟩⟩
              · rfl
              · have := HV.out
                unfold capV
                show (n : Int) = if 4294967295 < val ds then (0 : Int) else (val ds : Int)
                rw [if_neg (by omega), this]
              · have := HV.out
                simp; omega
          | true =>
            have kd := fun (W : World) (h : BlkQ W b s j false ou fu) => digit_any hj h hd
            cases hz : s.data.toList.drop j with
            | nil => rw [hz] at hd; cases hd
            | cons z r =>
            rw [hz] at hd
            have hd2 := isDig_iff.1 (show isDig z = true from hd)
            have HJ2 : Hid (NumJ s i (j + 1) (ds ++ [z]) (if n ≤ 4294967295 then 10 * n + (z.toNat - 48) else n)) := HJ.out.step hz hd
            have hlt := drop_lt hz
            have hidx := str_at hz
            clear HH hd hz
            by_cases hn : n ≤ 4294967295
            · rw [if_pos hn] at HJ2
              have e1 : (n : Int) ≤ 4294967295 := by omega
              have e2 : (n : Int) < 4294967296 := by omega
              go_upto_region 11 with (go_at_call 119; refine (kd _ HB.out).mono ?_; rintro _ w4 ⟨rfl, g4⟩; have G4 : Hid (Gr wr w4) := g4; clear g4; have c2 := (HB.out.gr G4.out).c 2; simp at c2)
              have HE4 : Hid (Ex b w w4) := HE.out.trans (Ex.of_gr G4.out)
              have HB4 : Hid (BlkQ w4 b s j false ou fu) := HB.out.gr G4.out
              have m0 := fun n os => (HB4.out.grow n os).c 0
              have m1 := fun n os => (HB4.out.grow n os).c 1
              simp at m0 m1
              have bl := HB4.out.lt
              have hzz : (48 : Int) ≤ (z.toNat : Int) := by omega
              have hzz2 : (z.toNat : Int) ≤ 57 := by omega
              refine wp_region_quiet_grownB (by assumption) (by kernel_rfl) ?_
              repeat (refine wpQuiet_stepB (fun K hK => ?_); go_simp; first | (refine hK _ ?_; clear hK K) | (apply Exists.intro; refine ⟨fun _ => ?_, hK _ ?_⟩; fail; clear hK K))
              refine wpQuiet_nilB ?_
              intro _ hw'
              obtain ⟨⟨nq, osq⟩, hw''⟩ := hw'
              subst hw''
              clear m0 m1 c2 bl hidx
              have HE5 : Hid (Ex b w (Sort.grow (w4.drewN nq) osq)) := HE4.out.trans (Ex.of_gr ⟨nq, osq, rfl⟩)
              have HB5 : Hid (BlkQ (Sort.grow (w4.drewN nq) osq) b s j false ou fu) := HB4.out.gr ⟨nq, osq, rfl⟩
              generalize Sort.grow (w4.drewN nq) osq = W5 at HE5 HB5 ⊢
              have c1 := HB5.out.c 1
              have f1 := HB5.out.frozen 1
              simp at c1
              go_wp2_with fail
              go_roundw
              case rel => exact ⟨j + 1, 10 * n + (z.toNat - 48), ds ++ [z], congrArg (Value.int .u64) (by simp only [IntKind.wrap_u64, IntKind.wrap_u8]; omega), HJ2, HE5.out.setB 1 _, HB5.out.set 1 (.int .i64 ((j + 1 : Nat) : Int))⟩
              case measure =>
                have h2 : BlkQ (W5.setCell ⟨b, 1, none⟩ (.int .i64 ((j : Int) + 1))) b s (j + 1) false ou fu := HB5.out.set 1 (.int .i64 ((j + 1 : Nat) : Int))
                rw [posOf_blkQ HB.out, posOf_blkQ h2]
                omega
            · rw [if_neg hn] at HJ2
              have e1 : ¬ (n : Int) ≤ 4294967295 := by omega
              have e2 : ¬ (n : Int) < 4294967296 := by omega
              go_wp2_with (go_at_call 119; refine (kd _ HB.out).mono ?_; rintro _ w4 ⟨rfl, g4⟩; have G4 : Hid (Gr wr w4) := g4; clear g4; have c2 := (HB.out.gr G4.out).c 2; have c1 := (HB.out.gr G4.out).c 1; have f1 := (HB.out.gr G4.out).frozen 1; simp at c2 c1)
              go_roundw
              case rel => exact ⟨j + 1, n, ds ++ [z], rfl, HJ2, (HE.out.trans (Ex.of_gr G4.out)).setB 1 _, (HB.out.gr G4.out).set 1 (.int .i64 ((j + 1 : Nat) : Int))⟩
              case measure =>
                have h2 : BlkQ (w4.setCell ⟨b, 1, none⟩ (.int .i64 ((j : Int) + 1))) b s (j + 1) false ou fu := (HB.out.gr G4.out).set 1 (.int .i64 ((j + 1 : Nat) : Int))
                rw [posOf_blkQ HB.out, posOf_blkQ h2]
                omega

end Go.Proofs.YtnohkbdmnalmcaaGreatDoor
